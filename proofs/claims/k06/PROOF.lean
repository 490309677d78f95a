import PyProof.Rows.All
import Wide.All
import OpenK.AllK
import Wide.FinOn
import HandS.Base
import HandS.Call
import HandS.List
import HandS.Comp
import HandS.Ends
import HandS.Dict
import HandS.Iter
import HandS.Text
import HandS.Words
import HandS.WordsList
import HandS.Wide
import HandS.IsInst
import HandS.Walk
import PyProof.ReprRoads
import HandS.More
import HandS.Codes
import PyProof.ReprLen
import PyProof.StrLawsRepr
import PyProof.Rows.ReprOcc
import HandS.Style
import HandS.TupAny
import HandS.Exc
import HandS.ExcInit
import HandS.ExcIs
import HandS.TryOnly
import HandS.WordsExc
import HandS.Lambda
import HandS.EndTab
import KE.KNestM
import HandS.Defaults
import KE.SortKeyHeap
import PyProof.Rows.CallKwBuiltin
import PyProof.Rows.TupSub
import HandS.Sort
import HandS.WordsDict
import PySem.Challenge.RW_variantnest_k06_trees_made
set_option Elab.async false
set_option linter.all false
set_option maxRecDepth 100000
set_option maxHeartbeats 2000000
/-! Vn: calls where it is known that no repr is under way (guards = some []), and repr of data at any depth. -/
namespace Vn
open PySem PySem.Spec PyProof.Rows L2

/-! ### a def's run at one surrounding -/
/-- f, called within A, keeps sp -/
def RunAt (P : Program) (w : World) (K : PySem.W.Frag) (mg : Str → Option Value) (base : Heap) (CX : CXT)
    (f : Addr) (fd : FuncData) (ps : List Str) (sp : Sp) (A : Around) : Prop :=
  ∀ (outer : List Env) (s : Shared) (H : Hp) (args : Args) (us : List Value) (vs : List V) (Q : VK) (E : XK),
    Env0 P w K mg base A outer s H → BindsTo s fd args (ps.zip us) → Vals vs us → sp vs H Q E →
      codeAny (model P w) A (.call (.ref f) args) (CR CX outer P w H s Q E) s
/-- FnOk for callers under which no repr is under way -/
structure FnG (P : Program) (w : World) (K : PySem.W.Frag) (mg : Str → Option Value) (base : Heap) (CX : CXT)
    (k : Nat) (f : Addr) (fd : FuncData) (ps : List Str) (sp : Sp) : Prop where
  len : ∀ vs H Q E, sp vs H Q E → vs.length = ps.length
  run : ∀ A : Around, A.guards = some [] → Room k A → RunAt P w K mg base CX f fd ps sp A
theorem FnG.of {P : Program} {w : World} {K : PySem.W.Frag} {mg : Str → Option Value} {base : Heap} {CX : CXT}
    {k : Nat} {f : Addr} {fd : FuncData} {ps : List Str} {sp : Sp} (F : FnOk P w K mg base CX k f fd ps sp) :
    FnG P w K mg base CX k f fd ps sp :=
  ⟨F.len, fun A _ r outer s H args us vs Q E => F.run A outer s H args us vs Q E r⟩

section
variable {P : Program} {w : World} {K : PySem.W.Frag} {mg : Str → Option Value} {base : Heap} {CX : CXT} {k : Nat}
  {f : Addr} {fd : FuncData} {N ps : List Str} {sp : Sp}
/-- from the walk of a body -/
theorem runAt_body {A : Around} {name qual : Str} {params : Arguments} {body : List Stmt} {scope : Scope} {dV kV doc pm cdv ct oc : Value} {an od : Option Addr} {osl : Array (Option Value)}
    (lk : K.lookup f = some ⟨oc, od, .func (PySem.W.fnOf name qual params body scope dV kV doc pm an cdv ct), osl⟩)
    (hcd : PySem.W.codeIn K cdv qual = true) (S : FnScope N ps scope) (hlen : ∀ vs H Q E, sp vs H Q E → vs.length = ps.length)
    (hr : Room (k + 1) A)
    (hbody : ∀ (outer : List Env) (s : Shared) (H : Hp) (vs : List V) (Q : VK) (E : XK),
      Room k (A.deeper (envOfC qual scope s.heap.objs.size f cdv)) → sp vs H Q E →
      ∃ t, PSs (cxOf CX P w K mg base N qual scope f cdv A outer s H E) body t ∧ t { nx := fun _ H' => Q .non H', rt := Q } (start N vs) H) :
    RunAt P w K mg base CX f (PySem.W.fnOf name qual params body scope dV kV doc pm an cdv ct) ps sp A := by
  intro outer s H args us vs Q E e0 hb rv hsp
  have stands : ∀ b o, base.get? b = some o → s.heap.get? b = some o := fun b o e => (e0.bs b o e).1
  have inK : K.In s.heap := e0.mod.kin.keeps stands
  have nolim : s.heap.NoLimit := e0.mod.nolimit.keeps stands
  have n1 := hlen _ _ _ _ hsp
  refine codeAny_call_function hr.depth (inK _ _ lk) rfl S.co S.gen rfl
    (PySem.W.codeRec_of inK hcd) (hb _ _ _ _ (wpAny_newFunctionEnv_cells S.kind ?kinds fun env he s1 x => ?inside))
  case kinds =>
    rintro ⟨n, v⟩ hy
    cases S.par n (List.of_mem_zip hy).1 with
    | inl q => exact .inl q
    | inr q => exact .inr ⟨q, PySem.W.cellsFrom_some _ _ _ (.inl q)⟩
  case inside =>
    subst he
    refine ⟨nolim.keeps x.toInCall.keep, codeAny_func ?_⟩
    obtain ⟨t, ht, hq⟩ := hbody outer s H vs Q E (hr.deeper _) hsp
    have J0 := inv_start (CX := CX) (E := E) S hr.hd e0 n1 rv x
    refine wpAny_mono (ht.run [] s1 (start N vs) H _ J0 hq) (fun fl s' z => ?_) (fun _ _ z => z)
    match fl, z with
    | .ret u, ⟨v, _, H', J, r, q⟩ => exact ⟨v, H', J.os, J.bare, J.base, J.hok, r, q⟩
    | .next, ⟨_, H', J, q⟩ => exact ⟨V.non, H', J.os, J.bare, J.base, J.hok, rfl, q⟩
    | .brk, ⟨_, _, _, q⟩ => exact q.elim
    | .cont, ⟨_, _, _, q⟩ => exact q.elim
/-- a def of the text whose body needs to know that no repr is under way; nothing leaves it -/
theorem Fun_okG {x qual : Str} {st : Stmt} (F : Fun K x qual st f fd) (S : FnScope N ps (defScope st))
    (hlen : ∀ vs H Q E, sp vs H Q E → vs.length = ps.length)
    (hbody : ∀ (cdv : Value) (A : Around) (outer : List Env) (s : Shared) (H : Hp) (vs : List V) (Q : VK) (E : XK),
      A.guards = some [] → Room k (A.deeper (envOfC qual (defScope st) s.heap.objs.size f cdv)) → sp vs H Q E →
      ∃ t, PSs (cxOf CX0 P w K mg base N qual (defScope st) f cdv A outer s H E).nox (defBody st) t ∧ t { nx := fun _ H' => Q .non H', rt := Q } (start N vs) H) :
    FnG P w K mg base CX0 (k + 1) f fd ps sp := by
  obtain ⟨oc, od, kV, doc, pm, an, cdv, ct, osl, rfl, lk, hcd⟩ := F.ex
  refine ⟨hlen, fun A hg hr => runAt_body lk hcd S hlen hr fun outer s H vs Q E r1 h1 => ?_⟩
  obtain ⟨t, h, q⟩ := hbody cdv A outer s H vs Q E hg r1 h1
  exact ⟨t, h.nox, q⟩
end

section
variable {X : Cx} {CX : CXT} {k : Nat} {f : Addr} {fd : FuncData} {ps : List Str} {sp : Sp} {dvs : List V} {ds : List Value} {E : XK} {x : Str} {p pos : Pos} {e : Expr} {es : List Expr} {t : TA}
/-- f(e, ..) where no repr is under way -/
theorem pe_callG (F : FnG X.prog X.w X.K X.mg X.base CX k f fd ps sp) (hG : X.A.guards = some []) (hr : Room k X.A)
    (hg : Gl X x) (hm : X.mg x = some (.ref f)) (hk : PySem.W.keepIn X.K (.ref f) = true) (hb : Binds X.K fd ps ds) (hd : Vals dvs ds)
    (hx : Passes CX X E) (ha : PA X (e :: es) t) (hdb : (x == ("__debug__" : Str)) = false := by decide)
    (he : starEach (e :: es) X.env = (false, eval e X.env) :: starEach es X.env := by rfl)
    (hpl : (backTo pos (starEach es X.env)).any (·.1) = false := by rfl) : PE X (.Call (.Name x p) (e :: es) [] pos) (tCall sp dvs E t) := by
  constructor
  intro pins s σ H Q I h
  refine wpAny_Call_Name_kw (ld_glob I hg hm (PySem.W.callWith_K (h₀ := X.base) I.ok.mod.kin hk (thn (ha.run pos pins s σ H _ I h) ?_) he hpl) hdb)
  rintro us s1 ⟨vs, H1, I1, r, q⟩
  have r2 : Vals (vs ++ dvs) (us ++ ds) := r.append hd
  have hl : (us ++ ds).length = ps.length := r2.length.symm.trans (F.len _ _ _ _ q)
  refine ⟨I1.kIn, wpAny_call (codeAny_mono (F.run X.A hG hr X.stack s1 H1 ⟨us, []⟩ (us ++ ds) _ Q E I1.env0 (hb s1 us I1.kIn hl) r2 q) fun o s' z => ?_)⟩
  match o, z with
  | .error e, z => exact hx pins σ H1 s1 e s' I1 z
  | .ok (.ret u), z => exact I1.after z
  | .ok .next, z => exact z.elim
  | .ok .brk, z => exact z.elim
  | .ok .cont, z => exact z.elim

/-- repr of data: none, bools, ints, texts, lists, tuples, at any depth below 60 -/
def rReprD (K : PySem.W.Frag) : List V → Hp → VK → Prop := fun xs H Q => ∃ (v : V) (d : PyData), xs = [v] ∧ Dp K H v d ∧ d.showable = true ∧ d.hasDict = false ∧ d.depth ≤ 60 ∧ d.shown.length ≤ sizeLine ∧ Q (.str d.shown) H
theorem call_reprD (hG : X.A.guards = some []) (hu : X.A.units + 64 < cLine) : CallR X (.builtin "repr") (rReprD X.K) := by
  intro pins s σ H xs us Q I r h
  obtain ⟨v, d, rfl, hd, h1, h2, h3, h4, q⟩ := h
  obtain ⟨u, rfl, rx⟩ := vals1 r
  cases hd with
  | non =>
    cases (show u = Value.none from rx)
    exact PySem.P.repr_of_none ⟨.str _, H, I.tok _, ⟨_, rfl⟩, q⟩
  | bl b =>
    cases (show u = Value.bool b from rx)
    exact PySem.P.repr_of_bool ⟨.str _, H, I.tok _, ⟨_, rfl⟩, q⟩
  | int i =>
    obtain ⟨t, rfl⟩ := (show ∃ t, u = Value.int i t from rx)
    exact PySem.P.repr_of_int (of_decide_eq_true h1) ⟨.str _, H, I.tok _, ⟨_, rfl⟩, q⟩
  | str x =>
    obtain ⟨t, rfl⟩ := (show ∃ t, u = Value.str x t from rx)
    exact PySem.P.repr_of_str ⟨.str _, H, I.tok _, ⟨_, rfl⟩, q⟩ h4
  | lst hs ha =>
    cases (show u = Value.ref _ from rx)
    obtain ⟨as, rd⟩ := Dp.reads I _ _ _ (.lst hs ha) rx
    exact repr_of_reads' rd h1 (PyData.noDict_hsm h2) hG (by omega) (fun _ _ e => e)
      (fun h' u tk hk => ⟨.str _, H, I.kept hk, ⟨_, rfl⟩, q⟩) h4
  | tup hs ha =>
    cases (show u = Value.ref _ from rx)
    obtain ⟨as, rd⟩ := Dp.reads I _ _ _ (.tup hs ha) rx
    exact repr_of_reads' rd h1 (PyData.noDict_hsm h2) hG (by omega) (fun _ _ e => e)
      (fun h' u tk hk => ⟨.str _, H, I.kept hk, ⟨_, rfl⟩, q⟩) h4
end

/-! ### the law's own run: FnG at the outermost call -/
section
variable {P : Program} {w : World} {K : PySem.W.Frag} {mg mb : Str → Option Value} {k : Nat} {fa a : Addr} {fd : FuncData} {x : Str} {sp : Sp} {s₁ : Shared} {vs : List Value} {ns : List Int}
/-- what a row wants behind its call -/
abbrev GoodEnd (s₁ : Shared) (r : Result) (s' : Shared) : Prop :=
  r = .ok (.ret (.bool true)) ∧ OldK s₁.heap s'.heap ∧ s'.os = s₁.os ∧ AllBare s'.gens
/-- from an abstract heap H that tracks the script at most -/
theorem law_at (KX : K.In s₁.heap) (hns : s₁.heap.Ns mainGlobals mg) (hb : s₁.heap.Ns builtinsNs mb)
    (hbb : ∀ y : Str, y ≠ "__name__" → mb y = bootBuiltins y) (hlim : s₁.heap.NoLimit) (hgen : s₁.gens = #[])
    (ha : s₁.heap.get? a = some { cls := .type "list", data := .seq vs.toArray }) (hr : Room k callerA)
    (F : ∀ base : Heap, K.In base → base.Ns mainGlobals mg → FnG P w K mg base CX0 k fa fd [x] sp)
    (hbind : ∀ (s : Shared) (u : Value), BindsTo s fd ⟨[u], []⟩ [(x, u)]) (H : Hp) (hO : Only H)
    (hsp : sp [.ref a] H (fun v _ => v = .bl true) fun _ _ _ => False) (hok : HOk P w H s₁.heap)
    (hA : ∀ b, H b ≠ none → b = a) (hK : H a ≠ none → K.lookup a = none) :
    codeAny (model P w) callerA (.call (.ref fa) ⟨[.ref a], []⟩) (GoodEnd s₁) s₁ := by
  have tracked : ∀ {b : Addr}, ¬ b = a → H b = none := fun {b} n => by
    cases q : H b with
    | none => rfl
    | some u => exact absurd (hA b (by rw [q]; exact Option.some_ne_none u)) n
  have noDict : ∀ {b : Addr} {o : Obj} {es : Array DictEntry} {ep : Nat}, s₁.heap.get? b = some o → o.data = .dict es ep → H b = none := by
    intro b o es ep e d
    refine tracked fun z => ?_
    rw [z, ha] at e
    cases e
    cases (show Data.seq vs.toArray _ = Data.dict es ep from d)
  have nsH : ∀ {b : Addr} {m : Str → Option Value}, s₁.heap.Ns b m → (hidT s₁.heap H).Ns b m := by
    rintro b m ⟨o, es, ep, e, d, r⟩
    exact ⟨o, es, ep, hidT_get e (noDict e d), d, r⟩
  have inK : K.In (hidT s₁.heap H) := by
    intro b o e
    refine hidT_get (KX b o e) ?_
    by_cases z : b = a
    · cases q : H b with
      | none => rfl
      | some u =>
        subst z
        rw [hK (by rw [q]; exact Option.some_ne_none u)] at e
        cases e
    · exact tracked z
  have lim : (hidT s₁.heap H).NoLimit := by
    obtain ⟨mc, h1, h2⟩ := hlim
    exact ⟨mc, nsH h1, h2⟩
  have no : ∀ {b : Addr}, ¬ b ∈ ([] : List Addr) := fun h => nomatch h
  have e0 : Env0 P w K mg (hidT s₁.heap H) callerA [] s₁ H :=
    { frames := rfl, mod := ⟨inK, nsH hns, ⟨mb, nsH hb, hbb⟩, lim⟩, bs := fun b o e => of_hidT e, bsz := Nat.le_of_eq (hidT_size _ _),
      funs := trivial, frf := fun b z => (no (b := b) z).elim, hok := hok, bare := .of_eq hgen }
  refine codeAny_mono ((F _ inK (nsH hns)).run callerA rfl hr [] s₁ H ⟨[.ref a], []⟩ [.ref a] [.ref a] _ _ e0
    (hbind s₁ (.ref a)) (.cons rfl .nil) hsp) fun r s' h => ?_
  match r, h with
  | .error e, h => exact h.elim
  | .ok .next, h => exact h.elim
  | .ok .brk, h => exact h.elim
  | .ok .cont, h => exact h.elim
  | .ok (.ret u), ⟨v, H', os, bare, un, hok', rv, (q : v = .bl true)⟩ =>
    subst q
    cases (show u = Value.bool true from rv)
    refine ⟨rfl, OldK.of_keep fun b o e => ?_, os, bare⟩
    rcases hO b with z | ⟨ob, xs, z⟩
    · exact un.keep b o e z (fun m => (no (b := b) m).elim) (fun m => (no (b := b) m).elim)
    · obtain ⟨e1, _⟩ := hok b _ z
      obtain ⟨e2, _⟩ := hok' b _ (un.frzs b ob _ z)
      cases e.symm.trans e1
      exact e2
/-- the end of a law row whose def keeps its promise where no repr is under way -/
theorem walk_ofG {l : PySem.W.OpenLaw} {n : Nat} {q : Program} {loose : List Str} {XP : (Str → Option Value) → Heap → Prop} {YP : World → Heap → Prop} {d : DefRec} {K : Params → PySem.W.Frag} {sp : World → Sp}
    (hn : l.most = some n) (hn2 : n ≤ sizeLine) (hdf : d.params.defaults = []) (hr : Room k callerA)
    (hY : ∀ (w : World) (h : Heap), YP w h → (K w.params).In h)
    (F : ∀ (w : World) (mg : Str → Option Value) (fa : Addr) (h : Heap), (K w.params).In h → h.Ns mainGlobals mg → mg d.name = some (.ref fa) →
      ∃ fd : FuncData, (∀ (s : Shared) (u : Value), BindsTo s fd ⟨[u], []⟩ [(x, u)]) ∧
        ∀ base : Heap, (K w.params).In base → base.Ns mainGlobals mg → FnG l.prog w (K w.params) mg base CX0 k fa fd [x] (sp w))
    (hsp : ∀ (w : World) (H : Hp) (a : Addr) (ns : List Int), ns.length ≤ n → Only H → SqL (K w.params) H a (ns.map V.int) → sp w [.ref a] H (fun v _ => v = .bl true) fun _ _ _ => False) :
    PySem.W.WalkO q loose XP YP l.row.toRowW d [] (fun f vs => PySem.call f vs) := by
  refine Att.attach_call hn hdf ?_
  intro w s₀ s₁ mg mb fa o pm cd doc a vs ns G Y ho hd hcd hmg hobj hints hlen hgen
  have KX := hY w _ Y
  obtain ⟨fd, hb, hF⟩ := F w mg fa _ KX G.T.g hmg
  have rv := vals_ints hints
  have small : ns.length ≤ sizeLine := Nat.le_trans hlen hn2
  have go := law_at (P := l.prog) (w := w) KX G.T.g G.T.b G.T.builtins G.T.nolimit hgen hobj hr hF hb
  cases hk : (K w.params).lookup a with
  | some ob =>
    have e := KX a ob hk
    rw [hobj] at e
    cases e
    refine go (fun _ => none) (fun _ => .inl rfl) (hsp w _ a ns hlen (fun _ => .inl rfl) (.inr ⟨_, vs.toArray, _, hk, rfl, rfl, rfl, ?_, rv⟩)) (fun _ _ z => nomatch z) (fun _ z => (z rfl).elim) (fun z => (z rfl).elim)
    rw [List.size_toArray, hints.length]
    exact small
  | none =>
    have at_a : ∀ b, (if b = a then some (HO.frz { cls := .type "list", data := .seq vs.toArray } (.lst (ns.map V.int))) else none) ≠ none → b = a := by
      intro b z
      by_cases e : b = a
      · exact e
      · rw [if_neg e] at z
        exact (z rfl).elim
    have only : Only fun b => if b = a then some (.frz { cls := .type "list", data := .seq vs.toArray } (.lst (ns.map V.int))) else none := by
      intro b
      by_cases e : b = a
      · exact .inr ⟨_, _, if_pos e⟩
      · exact .inl (if_neg e)
    refine go _ only (hsp w _ a ns hlen only (.inl (.inr ⟨_, if_pos rfl⟩))) (fun b u z => ?_) at_a fun _ => hk
    obtain rfl := at_a b (by rw [z]; exact Option.some_ne_none u)
    rw [if_pos rfl] at z
    cases z
    exact ⟨hobj, by rw [List.length_map]; exact small, vs, _, rv, hobj⟩
end
end Vn

set_option Elab.async false
set_option linter.all false
set_option maxRecDepth 100000
set_option maxHeartbeats 2000000
/-! Vn: data as the laws draw it: its size, its place beside the stream, the stream. -/
namespace Vn
open PySem PySem.Spec PyProof.Rows L2

/-! ### data that can be shown -/
mutual
/-- no text of it is shown by more signs than this -/
def big : PyData → Nat
  | .none | .bool _ => 5
  | .int _ => 2000
  | .str x => 10 * x.length + 2
  | .list xs | .tuple xs => bigs xs + 3
  | .dict _ => 0
def bigs : List PyData → Nat
  | [] => 0
  | x :: xs => big x + 2 + bigs xs
end
mutual
def fine : PyData → Bool
  | .none | .bool _ => true
  | .int i => decide (i.natAbs.log2 < 1920)
  | .str x => x.cps.toList.all fun c => decide (c < 1114112)
  | .list xs | .tuple xs => fines xs
  | .dict _ => false
def fines : List PyData → Bool
  | [] => true
  | x :: xs => fine x && fines xs
end
theorem toString_small {i : Int} (h : i.natAbs.log2 < 1920) : (Str.ofString (toString i)).length ≤ 2000 := by
  rw [PySem.ofString_length]
  have := int_text_length_le (k := 1920) (by decide) h
  omega
mutual
theorem shown_big : ∀ d : PyData, fine d = true → d.showable = true ∧ d.hasDict = false ∧ d.shown.length ≤ big d
  | .none, _ => by
    simp only [PyData.showable, PyData.hasDict, PyData.shown, big]
    exact ⟨trivial, trivial, by decide⟩
  | .bool b, _ => by
    simp only [PyData.showable, PyData.hasDict, PyData.shown, big]
    cases b <;> exact ⟨trivial, trivial, by decide⟩
  | .int i, h => by
    simp only [fine] at h
    simp only [PyData.showable, PyData.hasDict, PyData.shown, big]
    exact ⟨h, trivial, toString_small (of_decide_eq_true h)⟩
  | .str x, h => by
    simp only [fine, List.all_eq_true, decide_eq_true_eq] at h
    simp only [PyData.showable, PyData.hasDict, PyData.shown, big]
    exact ⟨trivial, trivial, StrLaws.reprText_len x fun c hc => Nat.lt_trans (h c hc) (by decide)⟩
  | .list xs, h => by
    simp only [fine] at h
    obtain ⟨h1, h2, h3⟩ := shown_bigs xs h
    simp only [PyData.showable, PyData.hasDict, PyData.shown, big]
    refine ⟨h1, h2, ?_⟩
    have := listText_len_le (PyData.shownAll xs)
    omega
  | .tuple xs, h => by
    simp only [fine] at h
    obtain ⟨h1, h2, h3⟩ := shown_bigs xs h
    simp only [PyData.showable, PyData.hasDict, PyData.shown, big]
    refine ⟨h1, h2, ?_⟩
    have := tupleText_len_le (PyData.shownAll xs)
    omega
  | .dict _, h => by simp [fine] at h
theorem shown_bigs : ∀ ds : List PyData, fines ds = true → PyData.showableAll ds = true ∧ PyData.hasDictAll ds = false ∧ ((PyData.shownAll ds).map (·.length)).sum + 2 * (PyData.shownAll ds).length ≤ bigs ds
  | [], _ => by simp [PyData.showableAll, PyData.hasDictAll, PyData.shownAll, bigs]
  | d :: ds, h => by
    simp only [fines, Bool.and_eq_true] at h
    obtain ⟨a1, a2, a3⟩ := shown_big d h.1
    obtain ⟨b1, b2, b3⟩ := shown_bigs ds h.2
    simp only [PyData.showableAll, PyData.hasDictAll, PyData.shownAll, bigs, a1, a2, b1, b2, List.map_cons, List.sum_cons, List.length_cons]
    exact ⟨rfl, rfl, by omega⟩
end
/-- depth at most n, shown by at most b signs -/
structure Nice (n b : Nat) (d : PyData) : Prop where
  fine : fine d = true
  depth : d.depth ≤ n
  big : big d ≤ b
structure Nices (n b : Nat) (ds : List PyData) : Prop where
  fine : fines ds = true
  depth : PyData.depthAll ds ≤ n
  big : bigs ds ≤ b
theorem Nice.mono {n b n' b' : Nat} {d : PyData} (h : Nice n b d) (hn : n ≤ n') (hb : b ≤ b') : Nice n' b' d := ⟨h.fine, Nat.le_trans h.depth hn, Nat.le_trans h.big hb⟩
theorem Nices.nil {n b : Nat} : Nices n b [] := ⟨rfl, Nat.zero_le _, Nat.zero_le _⟩
theorem Nices.mono {n b n' b' : Nat} {ds : List PyData} (h : Nices n b ds) (hn : n ≤ n') (hb : b ≤ b') : Nices n' b' ds := ⟨h.fine, Nat.le_trans h.depth hn, Nat.le_trans h.big hb⟩
theorem fines_append : ∀ {ds es : List PyData}, fines (ds ++ es) = (fines ds && fines es)
  | [], _ => by simp [fines]
  | d :: ds, es => by simp [fines, fines_append (ds := ds) (es := es), Bool.and_assoc]
theorem bigs_append : ∀ {ds es : List PyData}, bigs (ds ++ es) = bigs ds + bigs es
  | [], _ => by simp [bigs]
  | d :: ds, es => by
    simp only [List.cons_append, bigs, bigs_append (ds := ds) (es := es)]
    omega
theorem depthAll_append : ∀ {ds es : List PyData}, PyData.depthAll (ds ++ es) = max (PyData.depthAll ds) (PyData.depthAll es)
  | [], _ => by simp [PyData.depthAll]
  | d :: ds, es => by
    simp only [List.cons_append, PyData.depthAll, depthAll_append (ds := ds) (es := es)]
    omega
theorem Nices.append {n b c : Nat} {ds es : List PyData} (h : Nices n b ds) (g : Nices n c es) : Nices n (b + c) (ds ++ es) :=
  ⟨by rw [fines_append, h.fine, g.fine]; rfl, by rw [depthAll_append]; exact Nat.max_le.mpr ⟨h.depth, g.depth⟩, by rw [bigs_append]; exact Nat.add_le_add h.big g.big⟩
theorem Nices.one {n b : Nat} {d : PyData} (h : Nice n b d) : Nices n (b + 2) [d] :=
  ⟨by simp [fines, h.fine], by simp only [PyData.depthAll]; have := h.depth; omega, by simp only [bigs]; have := h.big; omega⟩
theorem Nices.snoc {n b c : Nat} {ds : List PyData} {d : PyData} (h : Nices n b ds) (g : Nice n c d) : Nices n (b + (c + 2)) (ds ++ [d]) := h.append (.one g)
theorem Nices.lst {n b : Nat} {ds : List PyData} (h : Nices n b ds) : Nice (n + 1) (b + 3) (.list ds) :=
  ⟨by simp only [Vn.fine]; exact h.fine, by simp only [PyData.depth]; have := h.depth; omega, by simp only [Vn.big]; have := h.big; omega⟩
theorem Nices.tup {n b : Nat} {ds : List PyData} (h : Nices n b ds) : Nice (n + 1) (b + 3) (.tuple ds) :=
  ⟨by simp only [Vn.fine]; exact h.fine, by simp only [PyData.depth]; have := h.depth; omega, by simp only [Vn.big]; have := h.big; omega⟩
theorem Nices.mem {n b : Nat} : ∀ {ds : List PyData} {d : PyData}, Nices n b ds → d ∈ ds → Nice n b d
  | [], _, _, h => nomatch h
  | e :: ds, d, H, h => by
    have h1 := H.fine
    have h2 := H.depth
    have h3 := H.big
    simp only [fines, Bool.and_eq_true] at h1
    simp only [PyData.depthAll] at h2
    simp only [bigs] at h3
    cases h with
    | head => exact ⟨h1.1, by omega, by omega⟩
    | tail _ m => exact Nices.mem ⟨h1.2, by omega, by omega⟩ m
theorem Nice.int {n : Nat} {i : Int} (h : i.natAbs.log2 < 1920) : Nice n 2000 (.int i) := ⟨decide_eq_true h, Nat.zero_le _, Nat.le_refl _⟩
set_option exponentiation.threshold 3000 in
theorem log2_small {i : Int} (h : i.natAbs < 2 ^ 1000) : i.natAbs.log2 < 1920 := by
  by_cases z : i.natAbs = 0
  · rw [z]; decide
  · exact Nat.lt_trans ((Nat.log2_lt z).mpr h) (by decide)

/-! ### where data stands -/
/-- all but the stream and its script -/
def cut (S C : Addr) (H : Hp) : Hp := fun a => if a = S ∨ a = C then none else H a
theorem cut_in {S C a : Addr} {H : Hp} (h1 : a ≠ S) (h2 : a ≠ C) : cut S C H a = H a := if_neg fun h => h.elim h1 h2
theorem cut_same {S C : Addr} {H : Hp} : Same (cut S C H) H := fun b o h => by
  unfold cut at h
  by_cases z : b = S ∨ b = C
  · rw [if_pos z] at h; cases h
  · rwa [if_neg z] at h
theorem cut_some {S C a : Addr} {o : HO} {H : Hp} (h : cut S C H a = some o) : a ≠ S ∧ a ≠ C ∧ H a = some o := by
  unfold cut at h
  by_cases z : a = S ∨ a = C
  · rw [if_pos z] at h; cases h
  · rw [if_neg z] at h
    exact ⟨fun e => z (.inl e), fun e => z (.inr e), h⟩
/-- what was tracked stands, but the stream and its script -/
abbrev Fr (S C : Addr) (H H' : Hp) : Prop := Same (cut S C H) (cut S C H')
theorem Fr.of_same {S C : Addr} {H H' : Hp} (h : Same H H') : Fr S C H H' := fun b o q => by
  obtain ⟨h1, h2, h3⟩ := cut_some q
  rw [cut_in h1 h2]
  exact h b o h3
theorem Fr.updS {S C : Addr} {H : Hp} {o : HO} : Fr S C H (upd H S o) := fun b u q => by
  obtain ⟨h1, h2, h3⟩ := cut_some q
  rw [cut_in h1 h2, upd_ne h1]
  exact h3
theorem Fr.updC {S C : Addr} {H : Hp} {o : HO} : Fr S C H (upd H C o) := fun b u q => by
  obtain ⟨h1, h2, h3⟩ := cut_some q
  rw [cut_in h1 h2, upd_ne h2]
  exact h3
theorem same_new {H : Hp} {p : Addr} (h : H p = none) (o : HO) : Same H (upd H p o) := fun b u q => by
  rw [upd_ne (ne_of_none q h)]
  exact q
theorem Same.seqT {K : PySem.W.Frag} {H H' : Hp} {a : Addr} {xs : List V} (e : Same H H') (h : SqT K H a xs) : SqT K H' a xs := by
  rcases h with (h | ⟨o, h⟩) | h
  · exact .inl (.inl (e _ _ h))
  · exact .inl (.inr ⟨o, e _ _ h⟩)
  · exact .inr h
mutual
theorem Dp_mono {K : PySem.W.Frag} {H H' : Hp} (e : Same H H') : ∀ {d : PyData} {v : V}, Dp K H v d → Dp K H' v d
  | _, _, .non => .non
  | _, _, .bl b => .bl b
  | _, _, .int i => .int i
  | _, _, .str x => .str x
  | _, _, .lst h a => .lst (e.seq h) (DpAll_mono e a)
  | _, _, .tup h a => .tup (Same.seqT e h) (DpAll_mono e a)
theorem DpAll_mono {K : PySem.W.Frag} {H H' : Hp} (e : Same H H') : ∀ {ds : List PyData} {vs : List V}, DpAll K H vs ds → DpAll K H' vs ds
  | _, _, .nil => .nil
  | _, _, .cons h a => .cons (Dp_mono e h) (DpAll_mono e a)
end
theorem DpAll_append {K : PySem.W.Frag} {H : Hp} : ∀ {ds es : List PyData} {vs us : List V}, DpAll K H vs ds → DpAll K H us es → DpAll K H (vs ++ us) (ds ++ es)
  | _, _, _, _, .nil, h => h
  | _, _, _, _, .cons a r, h => .cons a (DpAll_append r h)
theorem DpAll_snoc {K : PySem.W.Frag} {H : Hp} {ds : List PyData} {vs : List V} {v : V} {d : PyData} (h : DpAll K H vs ds) (g : Dp K H v d) : DpAll K H (vs ++ [v]) (ds ++ [d]) := DpAll_append h (.cons g .nil)
theorem DpAll_len {K : PySem.W.Frag} {H : Hp} : ∀ {ds : List PyData} {vs : List V}, DpAll K H vs ds → vs.length = ds.length
  | _, _, .nil => rfl
  | _, _, .cons _ r => congrArg (· + 1) (DpAll_len r)
theorem DpAll_get {K : PySem.W.Frag} {H : Hp} : ∀ (i : Nat) {ds : List PyData} {vs : List V} {v : V}, DpAll K H vs ds → vs[i]? = some v → ∃ d, ds[i]? = some d ∧ Dp K H v d
  | _, _, _, _, .nil, e => by simp at e
  | 0, _, _, _, .cons h _, e => ⟨_, rfl, by cases e; exact h⟩
  | i + 1, _, _, _, .cons _ r, e => DpAll_get i r e
theorem DpAll_take {K : PySem.W.Frag} {H : Hp} : ∀ {ds : List PyData} {vs : List V} (n : Nat), DpAll K H vs ds → DpAll K H (vs.take n) (ds.take n)
  | _, _, 0, _ => .nil
  | _, _, _ + 1, .nil => .nil
  | _, _, n + 1, .cons a r => .cons a (DpAll_take n r)
theorem DpAll_drop {K : PySem.W.Frag} {H : Hp} : ∀ {ds : List PyData} {vs : List V} (n : Nat), DpAll K H vs ds → DpAll K H (vs.drop n) (ds.drop n)
  | _, _, 0, h => h
  | _, _, _ + 1, .nil => .nil
  | _, _, n + 1, .cons _ r => DpAll_drop n r
/-- the i-th of some drawn values by a number below their number -/
theorem DpAll_at {K : PySem.W.Frag} {H : Hp} {ds : List PyData} {vs : List V} {r : Int} (h : DpAll K H vs ds) (h0 : 0 ≤ r) (h1 : r < (vs.length : Int)) :
    ∃ v d, atI vs r = some v ∧ d ∈ ds ∧ Dp K H v d := by
  have q : r.toNat < vs.length := by omega
  obtain ⟨d, hd, hv⟩ := DpAll_get _ h (List.getElem?_eq_getElem q)
  have e : r = ((r.toNat : Nat) : Int) := by omega
  have z : atI vs ((r.toNat : Nat) : Int) = some vs[r.toNat] := atI_nat (List.getElem?_eq_getElem q)
  rw [← e] at z
  exact ⟨vs[r.toNat], d, z, List.mem_of_getElem? hd, hv⟩

/-! ### the type of data -/
def tyName : PyData → String
  | .none => "NoneType"
  | .bool _ => "bool"
  | .int _ => "int"
  | .str _ => "str"
  | .list _ => "list"
  | .tuple _ => "tuple"
  | .dict _ => "dict"
theorem Dp_type {K : PySem.W.Frag} {H : Hp} {v : V} {d : PyData} (h : Dp K H v d) : TyX K H v (.type (tyName d)) := by
  cases h with
  | non => exact .base .non
  | bl b => exact .base (.bl b)
  | int i => exact .base (.int i)
  | str x => exact .base (.str x)
  | lst hs _ =>
    rcases hs with (h | ⟨o, h⟩) | ⟨o, its, n, h, hc, _⟩
    · exact .base (.lst h)
    · exact .base (.frz h)
    · exact .kList h hc
  | tup hs _ =>
    rcases hs with (h | ⟨o, h⟩) | ⟨o, its, n, h, hc, _⟩
    · exact .base (.tup h)
    · exact .fTuple h
    · exact .kTuple h hc
def isStr : PyData → Bool
  | .str _ => true
  | _ => false
def isTup : PyData → Bool
  | .tuple _ => true
  | _ => false
theorem kit_str {K : PySem.W.Frag} {v : V} {d : PyData} {H : Hp} (h : Dp K H v d) : PySem.W.kitOne K (.type (tyName d)) (.type "str") = some (isStr d) := by
  refine kit_ty ?_
  cases h <;> (simp only [tyName, isStr]; decide +kernel)
theorem kit_tup {K : PySem.W.Frag} {v : V} {d : PyData} {H : Hp} (h : Dp K H v d) : PySem.W.kitOne K (.type (tyName d)) (.type "tuple") = some (isTup d) := by
  refine kit_ty ?_
  cases h <;> (simp only [tyName, isTup]; decide +kernel)
def isInt : PyData → Bool
  | .int _ => true
  | .bool _ => true
  | _ => false
def isBool : PyData → Bool
  | .bool _ => true
  | _ => false
def isLst : PyData → Bool
  | .list _ => true
  | _ => false
theorem kit_int {K : PySem.W.Frag} {v : V} {d : PyData} {H : Hp} (h : Dp K H v d) : PySem.W.kitOne K (.type (tyName d)) (.type "int") = some (isInt d) := by
  refine kit_ty ?_
  cases h <;> (simp only [tyName, isInt]; decide +kernel)
theorem kit_bool {K : PySem.W.Frag} {v : V} {d : PyData} {H : Hp} (h : Dp K H v d) : PySem.W.kitOne K (.type (tyName d)) (.type "bool") = some (isBool d) := by
  refine kit_ty ?_
  cases h <;> (simp only [tyName, isBool]; decide +kernel)
theorem kit_lst {K : PySem.W.Frag} {v : V} {d : PyData} {H : Hp} (h : Dp K H v d) : PySem.W.kitOne K (.type (tyName d)) (.type "list") = some (isLst d) := by
  refine kit_ty ?_
  cases h <;> (simp only [tyName, isLst]; decide +kernel)

/-! ### the stream -/
/-- at S the stream, at C what is left of the script; at most n draws so far -/
def Strm (S C : Addr) (n : Nat) (H : Hp) : Prop := S ≠ C ∧ ∃ (ns : List Int) (x1 x2 x3 : Int),
  H S = some (.lst [.ref C, .int x1, .int x2, .int x3]) ∧ H C = some (.lst (ns.map V.int)) ∧ ns.length ≤ 63 ∧ 0 ≤ x1 ∧ 0 ≤ x2 ∧ x2 ≤ (n : Int) ∧ 0 ≤ x3 ∧ x3 < 2147483647
theorem Strm.mono {S C : Addr} {n m : Nat} {H : Hp} (h : Strm S C n H) (q : n ≤ m) : Strm S C m H := by
  obtain ⟨h0, ns, x1, x2, x3, h1, h2, h3, h4, h5, h6, h7, h8⟩ := h
  exact ⟨h0, ns, x1, x2, x3, h1, h2, h3, h4, h5, by omega, h7, h8⟩
theorem Strm.same {S C : Addr} {n : Nat} {H H' : Hp} (h : Strm S C n H) (e : Same H H') : Strm S C n H' := by
  obtain ⟨h0, ns, x1, x2, x3, h1, h2, r⟩ := h
  exact ⟨h0, ns, x1, x2, x3, e _ _ h1, e _ _ h2, r⟩
theorem Strm.neS {S C p : Addr} {n : Nat} {H : Hp} (h : Strm S C n H) (q : H p = none) : p ≠ S := by
  obtain ⟨h0, ns, x1, x2, x3, h1, h2, r⟩ := h
  exact fun e => by rw [e, h1] at q; cases q
theorem Strm.neC {S C p : Addr} {n : Nat} {H : Hp} (h : Strm S C n H) (q : H p = none) : p ≠ C := by
  obtain ⟨h0, ns, x1, x2, x3, h1, h2, r⟩ := h
  exact fun e => by rw [e, h2] at q; cases q
/-- a new object beside the stream is in the part of the heap that draws leave alone -/
theorem Strm.new {S C p : Addr} {n : Nat} {H : Hp} {o : HO} (h : Strm S C n H) (q : H p = none) : cut S C (upd H p o) p = some o := by
  rw [cut_in (h.neS q) (h.neC q), upd_same]
end Vn

set_option Elab.async false
set_option linter.all false
set_option maxRecDepth 100000
set_option maxHeartbeats 4000000
/-! Vn: what is drawn is new; draws, picks, lists of drawn things. -/
namespace Vn
open PySem PySem.Spec PyProof.Rows L2

/-- the part of H' that was not tracked in H -/
def newp (H H' : Hp) : Hp := fun a => match H a with
  | none => H' a
  | some _ => none
theorem newp_some {H H' : Hp} {a : Addr} {o : HO} (h : newp H H' a = some o) : H a = none ∧ H' a = some o := by
  unfold newp at h
  cases e : H a with
  | none => rw [e] at h; exact ⟨rfl, h⟩
  | some u => rw [e] at h; cases h
theorem newp_of {H H' : Hp} {a : Addr} (h : H a = none) : newp H H' a = H' a := by
  unfold newp
  rw [h]
theorem newp_same {H H' : Hp} : Same (newp H H') H' := fun _ _ h => (newp_some h).2
/-- what is tracked stays tracked -/
def Ext (H H' : Hp) : Prop := ∀ a, H' a = none → H a = none
theorem Ext.trans {H H1 H2 : Hp} (a : Ext H H1) (b : Ext H1 H2) : Ext H H2 := fun x h => a x (b x h)
theorem Ext.of_same {H H' : Hp} (e : Same H H') : Ext H H' := fun _ h => e.free h
theorem Ext.upd {H : Hp} {p : Addr} {o : HO} : Ext H (upd H p o) := fun a h => by
  by_cases e : a = p
  · rw [e, upd_same] at h; cases h
  · rwa [upd_ne e] at h
theorem Fr.ext {S C : Addr} {n : Nat} {H H' : Hp} (st : Strm S C n H') (f : Fr S C H H') : Ext H H' := fun a h => by
  have h1 := st.neS h
  have h2 := st.neC h
  have := f.free (by rw [cut_in h1 h2]; exact h)
  rwa [cut_in h1 h2] at this
theorem newp_left {H H1 H2 : Hp} (e : Ext H H1) : Same (newp H1 H2) (newp H H2) := fun a o h => by
  obtain ⟨h1, h2⟩ := newp_some h
  rw [newp_of (e a h1)]
  exact h2
theorem newp_right {H H1 H2 : Hp} (e : Same H1 H2) : Same (newp H H1) (newp H H2) := fun a o h => by
  obtain ⟨h1, h2⟩ := newp_some h
  rw [newp_of h1]
  exact e _ _ h2
theorem newp_fr {S C : Addr} {n : Nat} {H H1 H2 : Hp} (st : Strm S C n H) (f : Fr S C H1 H2) : Same (newp H H1) (newp H H2) := fun a o h => by
  obtain ⟨h1, h2⟩ := newp_some h
  have n1 := st.neS h1
  have n2 := st.neC h1
  rw [newp_of h1]
  exact (cut_some (f a o (by rw [cut_in n1 n2]; exact h2))).2.2
/-- another value at a place that was tracked ahead -/
theorem newp_upd {H H1 : Hp} {p : Addr} {o : HO} (h : H p ≠ none) : Same (newp H H1) (newp H (upd H1 p o)) := fun a u q => by
  obtain ⟨h1, h2⟩ := newp_some q
  rw [newp_of h1, upd_ne (fun e : a = p => h (by rw [← e]; exact h1))]
  exact h2
theorem newp_at {H H1 : Hp} {p : Addr} {o : HO} (h : H p = none) : newp H (upd H1 p o) p = some o := by rw [newp_of h, upd_same]
theorem cut_keep {S C p : Addr} {H H' : Hp} {o : HO} (f : Fr S C H H') (h1 : p ≠ S) (h2 : p ≠ C) (h : H p = some o) : H' p = some o :=
  (cut_some (f p o (by rw [cut_in h1 h2]; exact h))).2.2
/-- an object that was laid beside the stream stands behind draws -/
theorem Strm.keep {S C p : Addr} {n : Nat} {H H' : Hp} {o : HO} (st : Strm S C n H) (np : H p = none) (f : Fr S C (upd H p o) H') : H' p = some o :=
  cut_keep f (st.neS np) (st.neC np) upd_same
theorem Strm.lay {S C p : Addr} {n : Nat} {H : Hp} (st : Strm S C n H) (np : H p = none) (o : HO) : Strm S C n (upd H p o) := st.same (same_new np o)
theorem Strm.upd {S C p : Addr} {n : Nat} {H : Hp} (st : Strm S C n H) (h1 : p ≠ S) (h2 : p ≠ C) (o : HO) : Strm S C n (upd H p o) := by
  obtain ⟨h0, ns, x1, x2, x3, a, b, r⟩ := st
  exact ⟨h0, ns, x1, x2, x3, (upd_ne h1.symm).trans a, (upd_ne h2.symm).trans b, r⟩
theorem Fr.lay {S C p : Addr} {H : Hp} (np : H p = none) (o : HO) : Fr S C H (upd H p o) := .of_same (same_new np o)
theorem Fr.upd {S C p : Addr} {H H1 : Hp} {o : HO} (f : Fr S C H H1) (np : H p = none) : Fr S C H (upd H1 p o) := fun a u q => by
  obtain ⟨h1, h2, h3⟩ := cut_some q
  have h4 := f a u q
  rw [cut_in h1 h2] at h4 ⊢
  rw [upd_ne (ne_of_none h3 np)]
  exact h4

/-! ### rules whose reading names K itself (within comprehensions) -/
section
variable {X : Cx} {K : PySem.W.Frag}
theorem ixL (h : X.K = K := by rfl) : IxR X (rIxL K) := by subst h; exact ix_list
theorem ixT (h : X.K = K := by rfl) : IxR X (rIxT K) := by subst h; exact ix_tup
theorem catK (h : X.K = K := by rfl) : OpR X (binaryOp .Add) (rCatT K) := by subst h; exact op_catT
theorem isiK (h : X.K = K := by rfl) : CallR X (.builtin "isinstance") (rIsi K) := by subst h; exact call_isi
theorem eqDK (hu : X.A.units + 64 < cLine) (h : X.K = K := by rfl) : OpR X (compareOp .Eq) (rEqD K) := by subst h; exact op_eqD hu
theorem neDK (hu : X.A.units + 64 < cLine) (h : X.K = K := by rfl) : OpR X (compareOp .NotEq) (rNeD K) := by subst h; exact op_neD hu
theorem allK (hc : X.calm = true) (h : X.K = K := by rfl) : CallR X (.builtin "all") (rAll K) := by subst h; exact cr_all hc
theorem reprK (hG : X.A.guards = some []) (hu : X.A.units + 64 < cLine) (h : X.K = K := by rfl) : CallR X (.builtin "repr") (rReprD K) := by subst h; exact call_reprD hG hu
theorem lenK (h : X.K = K := by rfl) : CallR X (.builtin "len") (fun xs H Q => ∃ p ys, xs = [.ref p] ∧ (SqL K H p ys ∨ SqT K H p ys) ∧ Q (.int ys.length) H) := by
  subst h; exact call_len_seq
theorem tupK (h : X.K = K := by rfl) : CallR X (.type "tuple") (fun xs H Q => ∃ p ys, xs = [.ref p] ∧ ((SqL K H p ys ∧ ∀ l, H l = none → Q (.ref l) (L2.upd H l (.tup ys))) ∨ (SqT K H p ys ∧ Q (.ref p) H))) := by
  subst h; exact call_tuple_of
theorem lstK (h : X.K = K := by rfl) : CallR X (.type "list") (fun xs H Q => ∃ p ys, xs = [.ref p] ∧ (SqL K H p ys ∨ SqT K H p ys) ∧ ∀ l, H l = none → Q (.ref l) (L2.upd H l (.lst ys))) := by
  subst h; exact call_list_of
end

/-! ### promises of drawing defs -/
/-- _law_draw(stream, many) -/
def spDraw : Sp := fun vs H Q _ => ∃ (S C : Addr) (n : Nat) (m : Int), vs = [.ref S, .int m] ∧ Strm S C n H ∧ n < 20000000 ∧ 0 < m ∧ m < 20000000 ∧
  ∀ (r : Int) (H' : Hp), 0 ≤ r → r < m → Strm S C (n + 1) H' → Fr S C H H' → Q (.int r) H'
/-- f(stream, ..): at most k draws, a new thing of the kind R; A: what is asked of the further arguments -/
def spGet (K : PySem.W.Frag) (k : Nat) (A : List V → Prop) (R : PyData → Prop) : Sp := fun vs H Q _ => ∃ (S C : Addr) (n : Nat) (us : List V), vs = .ref S :: us ∧ A us ∧ Strm S C n H ∧ n + k ≤ 20000000 ∧
  ∀ (v : V) (d : PyData) (H' : Hp), Dp K (newp H H') v d → R d → Strm S C (n + k) H' → Fr S C H H' → Q v H'
/-- a draw by a caller -/
theorem draw_by {S C : Addr} {n : Nat} {m : Int} {H : Hp} {Q : VK} {E : XK} (st : Strm S C n H) (hn : n < 20000000) (h0 : 0 < m) (h1 : m < 20000000)
    (q : ∀ (r : Int) (H' : Hp), 0 ≤ r → r < m → Strm S C (n + 1) H' → Fr S C H H' → Q (.int r) H') : spDraw [.ref S, .int m] H Q E :=
  ⟨S, C, n, m, rfl, st, hn, h0, h1, q⟩
theorem get_by {K : PySem.W.Frag} {k : Nat} {A : List V → Prop} {R : PyData → Prop} {S C : Addr} {n : Nat} {us : List V} {H : Hp} {Q : VK} {E : XK} (st : Strm S C n H) (hn : n + k ≤ 20000000) (a : A us)
    (q : ∀ (v : V) (d : PyData) (H' : Hp), Dp K (newp H H') v d → R d → Strm S C (n + k) H' → Fr S C H H' → Q v H') : spGet K k A R (.ref S :: us) H Q E :=
  ⟨S, C, n, us, rfl, a, st, hn, q⟩
theorem at_int {vs : List V} {r : Int} (h0 : 0 ≤ r) (h1 : r < (vs.length : Int)) : ∃ v, atI vs r = some v ∧ vs[r.toNat]? = some v := by
  have q : r.toNat < vs.length := by omega
  have z : atI vs ((r.toNat : Nat) : Int) = some vs[r.toNat] := atI_nat (List.getElem?_eq_getElem q)
  rw [show ((r.toNat : Nat) : Int) = r by omega] at z
  exact ⟨_, z, List.getElem?_eq_getElem q⟩
/-- [..][draw(stream, m)]: the list is laid, a number drawn, the item taken -/
theorem pick_by {K : PySem.W.Frag} {S C p : Addr} {n : Nat} {m : Int} {vs : List V} {H : Hp} {Q : VK} {E : XK} (st : Strm S C n H) (hn : n < 20000000) (hp : H p = none) (hm : m = (vs.length : Int)) (h0 : 0 < vs.length) (h1 : vs.length < 1000)
    (q : ∀ (v : V) (i : Nat) (H' : Hp), vs[i]? = some v → Strm S C (n + 1) H' → Fr S C H H' → Same (newp H (L2.upd H p (.lst vs))) (newp H H') → Q v H') :
    spDraw [.ref S, .int m] (L2.upd H p (.lst vs)) (fun y H2 => rIxL K (.ref p) y H2 Q) E :=
  draw_by (st.lay hp _) hn (by omega) (by omega) fun r H' r0 r1 s1 f1 => by
    obtain ⟨v, e1, e2⟩ := at_int (vs := vs) r0 (by omega)
    exact ⟨p, vs, r, v, rfl, rfl, SqL.of (st.keep hp f1), e1, q v _ H' e2 s1 ((Fr.lay hp _).trans f1) (newp_fr st f1)⟩

/-! ### the numbers of _law_draw -/
theorem ints_eqv_nil {ns : List Int} : PyData.eqv (.list (ns.map PyData.int)) (.list []) = decide (ns = []) := by
  cases ns <;> simp [PyData.eqv, PyData.eqvAll]
theorem ints_shaped (ns : List Int) : SeqAt.shaped (.list (ns.map PyData.int)) = true := by
  have h1 : PyData.canLayAll0 (ns.map PyData.int) = true := by
    induction ns with
    | nil => rfl
    | cons n r ih => simpa [PyData.canLayAll0, PyData.canLay0] using ih
  have h2 : PyData.depthAll (ns.map PyData.int) = 0 := by
    clear h1
    induction ns with
    | nil => rfl
    | cons n r ih => simp only [List.map_cons, PyData.depthAll, PyData.depth, ih]; rfl
  simp [SeqAt.shaped, PyData.canLay0, PyData.depth, h1, h2]
/-- the mixed number is one of 0 .. m - 1 -/
theorem pow5_ok {x2 x3 : Int} (h3 : 0 ≤ x3) (h3' : x3 < 2147483647) (h2 : 0 ≤ x2) (h2' : x2 ≤ 20000000) : CPow (x3 + 104729 * x2 + 17) 5 := by
  refine ⟨by decide, by decide, ?_⟩
  have e : (2 : Nat) ^ 64 = 18446744073709551616 := by decide
  rw [e]
  omega
theorem sq_small {x2 : Int} (h2 : 0 ≤ x2) (h2' : x2 ≤ 20000000) : 0 ≤ x2 * x2 ∧ x2 * x2 ≤ 400000000000000 := by
  refine ⟨Int.mul_nonneg h2 h2, ?_⟩
  have := Int.mul_le_mul h2' h2' h2 (by decide : (0 : Int) ≤ 20000000)
  simpa using this
theorem pow3_ok {x2 y : Int} (h3 : 0 ≤ y) (h3' : y < 2147483629) (h2 : 0 ≤ x2) (h2' : x2 ≤ 20000000) : CPow (y * 48271 + 40503 * x2 * x2 + 13) 3 := by
  refine ⟨by decide, by decide, ?_⟩
  have e : (2 : Nat) ^ 64 = 18446744073709551616 := by decide
  obtain ⟨s1, s2⟩ := sq_small h2 h2'
  rw [e, Int.mul_assoc]
  generalize x2 * x2 = z at *
  omega
theorem many_div {x m : Int} (h : 0 < m) (h1 : m < 20000000) : CDivW x m := by
  refine wide_div (b := 64) h ?_ (by decide) (by decide)
  have e : (2 : Nat) ^ 64 = 18446744073709551616 := by decide
  rw [e]
  omega
theorem ten18_ok : CPow 10 18 := ⟨by decide, by decide, by decide⟩
theorem DpAll_ints {K : PySem.W.Frag} {H : Hp} : ∀ ns : List Int, DpAll K H (ns.map V.int) (ns.map PyData.int)
  | [] => .nil
  | n :: r => .cons (.int n) (DpAll_ints r)

/-! ### lists of drawn things -/
/-- [f(stream, ..) for k in range(m)], from the new list at D on -/
theorem lc_get {K : PySem.W.Frag} {S C D : Addr} {n k m j : Nat} {R : PyData → Prop} {te : TE} {own : List Nat} {σ : L2.St} {H : Hp} {Qd : Hp → Prop}
    (st : Strm S C n H) (nD : H D = none) (hm : m < 100000) (hw : ∀ v, wipe ((wipe σ own).set j v) own = wipe σ own)
    (elt : ∀ (i : Nat) (H3 : Hp) (q : VK), i < m → Strm S C (n + i * k) H3 →
      (∀ (v : V) (d : PyData) (H4 : Hp), Dp K (newp H3 H4) v d → R d → Strm S C (n + i * k + k) H4 → Fr S C H3 H4 → q v H4) → te ((wipe σ own).set j (some (.int (0 + (i : Int))))) H3 q)
    (done : ∀ (H' : Hp) (vs : List V) (ds : List PyData), H' D = some (.lst vs) → DpAll K (newp (L2.upd H D (.lst [])) H') vs ds → ds.length = m → (∀ d ∈ ds, R d) → Strm S C (n + m * k) H' → Fr S C H H' → Qd H') :
    ∃ W : Nat → Nat → Hp → Prop, (∃ z, W 0 z (L2.upd H D (.lst []))) ∧ ∀ i z H, W i z H → ((Itr 0 m).stop i H ∧ Qd H) ∨
      ((Itr 0 m).go i H ∧ ∃ N : Hp → Prop, (∀ H', N H' → ∃ z', z' < z ∧ W (i + 1) z' H') ∧ ∀ x H', (Itr 0 m).yld i H x H' →
        gName j x (wipe σ own) H' fun σ2 H2 => wipe σ2 own = wipe σ own ∧ tYes σ2 H2 fun b H3 =>
          if b = true then te σ2 H3 fun y H4 => ∃ acc, H4 D = some (.lst acc) ∧ acc.length < sizeLine ∧ N (L2.upd H4 D (.lst (acc ++ [y]))) else N H3) := by
  have neS := st.neS nD
  have neC := st.neC nD
  have tr : (L2.upd H D (.lst [])) D ≠ none := by rw [upd_same]; exact Option.some_ne_none _
  refine lc_range (fun i H' => ∃ (vs : List V) (ds : List PyData), H' D = some (.lst vs) ∧ DpAll K (newp (L2.upd H D (.lst [])) H') vs ds ∧ ds.length = i ∧ (∀ d ∈ ds, R d) ∧ Strm S C (n + i * k) H' ∧ Fr S C H H' ∧ Ext (L2.upd H D (.lst [])) H')
    ⟨[], [], upd_same, .nil, rfl, (fun _ h => nomatch h), by rw [Nat.zero_mul, Nat.add_zero]; exact st.lay nD _, Fr.lay nD _, fun _ h => h⟩ ?_ ?_
  · rintro i H3 hi ⟨vs, ds, e, dp, hl, hR, s3, f3, x3⟩
    refine ⟨hw _, ?_⟩
    unfold tYes
    refine iteT ?_
    refine elt i H3 _ hi s3 fun v d H4 hv hd s4 f4 => ?_
    have e4 : H4 D = some (.lst vs) := cut_keep f4 neS neC e
    refine ⟨vs, e4, ?_, vs ++ [v], ds ++ [d], upd_same, ?_, by rw [List.length_append, hl]; rfl, ?_, ?_, ?_, ?_⟩
    · rw [DpAll_len dp, hl]
      exact Nat.lt_of_lt_of_le hi (Nat.le_trans (Nat.le_of_lt hm) (by decide))
    · refine DpAll_snoc (DpAll_mono ((newp_fr (st.lay nD _) f4).trans (newp_upd tr)) dp) (Dp_mono ((newp_left x3).trans (newp_upd tr)) hv)
    · intro x hx
      rcases List.mem_append.mp hx with hx | hx
      · exact hR x hx
      · rw [List.mem_singleton.mp hx]; exact hd
    · rw [Nat.succ_mul, ← Nat.add_assoc]
      exact s4.upd neS neC _
    · exact Fr.upd (f3.trans f4) nD
    · exact (x3.trans (f4.ext s4)).trans Ext.upd
  · rintro H' ⟨vs, ds, e, dp, hl, hR, s3, f3, x3⟩
    exact done H' vs ds e dp hl hR s3 f3
/-- the region behind the new list lies in what is new -/
theorem DpAll_out {K : PySem.W.Frag} {H H' : Hp} {D : Addr} {o : HO} {vs : List V} {ds : List PyData} (h : DpAll K (newp (L2.upd H D o) H') vs ds) : DpAll K (newp H H') vs ds :=
  DpAll_mono (newp_left Ext.upd) h
theorem nices_of {n b : Nat} : ∀ {ds : List PyData}, (∀ d ∈ ds, Nice n b d) → Nices n (ds.length * (b + 2)) ds
  | [], _ => .nil
  | d :: ds, h => by
    have h1 := Nices.one (h d List.mem_cons_self)
    have h2 := nices_of (n := n) (b := b) fun x hx => h x (List.mem_cons_of_mem _ hx)
    have := h1.append h2
    rw [List.length_cons, Nat.succ_mul, Nat.add_comm]
    exact this
/-- a new list or tuple of new things -/
theorem new_lst {K : PySem.W.Frag} {H H' : Hp} {D : Addr} {vs : List V} {ds : List PyData} (n : H D = none) (e : H' D = some (.lst vs)) (h : DpAll K (newp H H') vs ds) : Dp K (newp H H') (.ref D) (.list ds) :=
  .lst (SqL.of ((newp_of n).trans e)) h
theorem new_tup {K : PySem.W.Frag} {H H' : Hp} {D : Addr} {vs : List V} {ds : List PyData} (n : H D = none) (e : H' D = some (.tup vs)) (h : DpAll K (newp H H') vs ds) : Dp K (newp H H') (.ref D) (.tuple ds) :=
  .tup (SqT.of ((newp_of n).trans e)) h

/-! ### names, paths -/
def nameD : PyData → Bool
  | .str x => decide (1 ≤ x.length) && decide (x.length ≤ 8) && x.cps.toList.all fun c => decide (97 ≤ c) && decide (c ≤ 122)
  | _ => false
def pathD : PyData → Bool
  | .tuple ds => decide (ds.length ≤ 8) && ds.all nameD
  | _ => false
/-- data that can be looked at: its texts are not too long -/
structure Ok (d : PyData) : Prop where
  fine : fine d = true
  big : big d ≤ sizeLine
  depth : d.depth ≤ 60
theorem Nice.ok {n b : Nat} {d : PyData} (h : Nice n b d) (hn : n ≤ 60 := by decide) (hb : b ≤ 16777216 := by decide) : Ok d :=
  ⟨h.fine, Nat.le_trans h.big (by rw [sizeLine_eq]; exact hb), Nat.le_trans h.depth hn⟩
theorem Ok.str {x : Str} (h : Ok (.str x)) : x.length ≤ sizeLine := by
  have := h.big
  simp only [Vn.big] at this
  omega
theorem Ok.item {ds : List PyData} {d : PyData} (h : Ok (.tuple ds)) (hd : d ∈ ds) : Ok d := by
  have h1 := h.fine
  have h2 := h.big
  have h3 := h.depth
  simp only [Vn.fine] at h1
  simp only [Vn.big] at h2
  simp only [PyData.depth] at h3
  have q : Nice 60 sizeLine d := Nices.mem ⟨h1, by omega, by omega⟩ hd
  exact ⟨q.fine, q.big, q.depth⟩
theorem Ok.items {ds : List PyData} {d : PyData} (h : Ok (.list ds)) (hd : d ∈ ds) : Ok d := by
  have h1 := h.fine
  have h2 := h.big
  have h3 := h.depth
  simp only [Vn.fine] at h1
  simp only [Vn.big] at h2
  simp only [PyData.depth] at h3
  have q : Nice 60 sizeLine d := Nices.mem ⟨h1, by omega, by omega⟩ hd
  exact ⟨q.fine, q.big, q.depth⟩
/-- f(thing): answers a bool, all that stood stands -/
def spTell (K : PySem.W.Frag) (f : PyData → Bool) : Sp := fun vs H Q _ => ∃ (v : V) (d : PyData), vs = [v] ∧ Dp K H v d ∧ Ok d ∧ ∀ H', Same H H' → Q (.bl (f d)) H'
theorem lt1 (c b : Nat) : decide ([c] < [b]) = decide (c < b) := by
  congr 1
  simp [List.cons_lt_cons_iff]
theorem sign_az (c : Nat) : ((!decide ([c] < [97])) && (!decide ([122] < [c]))) = (decide (97 ≤ c) && decide (c ≤ 122)) := by
  rw [lt1, lt1]
  by_cases h1 : c < 97 <;> by_cases h2 : 122 < c <;> simp [h1, h2] <;> omega
theorem sign_in (c : Nat) : decide (c ∈ (Str.ofString "abcdefghijklmnopqrstuvwxyz").cps.toList) = (decide (97 ≤ c) && decide (c ≤ 122)) := by
  have e : (Str.ofString "abcdefghijklmnopqrstuvwxyz").cps.toList = List.range' 97 26 := by decide +kernel
  rw [e]
  by_cases h1 : 97 ≤ c <;> by_cases h2 : c ≤ 122 <;> simp [h1, h2, List.mem_range'_1] <;> omega
theorem take_snoc {α : Type} {l : List α} {i : Nat} {x : α} (h : l[i]? = some x) : l.take (i + 1) = l.take i ++ [x] := by
  rw [List.take_add_one, h]
  rfl
/-- a list comprehension over a text whose element is a bool by the sign -/
theorem lc_signs {D j : Nat} {x : Str} {te : TE} {own : List Nat} {σ : L2.St} {H : Hp} {Qd : Hp → Prop} (g : Nat → Bool) (nD : H D = none) (hx : x.length ≤ sizeLine)
    (hw : ∀ v, wipe ((wipe σ own).set j v) own = wipe σ own)
    (elt : ∀ (c : Nat) (H3 : Hp) (q : VK), c ∈ x.cps.toList → q (.bl (g c)) H3 → te ((wipe σ own).set j (some (.str ⟨#[c]⟩))) H3 q)
    (done : ∀ H', Same H H' → H' D = some (.lst ((x.cps.toList.map g).map V.bl)) → Qd H') :
    ∃ W : Nat → Nat → Hp → Prop, (∃ z, W 0 z (L2.upd H D (.lst []))) ∧ ∀ i z H, W i z H → ((Its x).stop i H ∧ Qd H) ∨
      ((Its x).go i H ∧ ∃ N : Hp → Prop, (∀ H', N H' → ∃ z', z' < z ∧ W (i + 1) z' H') ∧ ∀ u H', (Its x).yld i H u H' →
        gName j u (wipe σ own) H' fun σ2 H2 => wipe σ2 own = wipe σ own ∧ tYes σ2 H2 fun b H3 =>
          if b = true then te σ2 H3 fun y H4 => ∃ acc, H4 D = some (.lst acc) ∧ acc.length < sizeLine ∧ N (L2.upd H4 D (.lst (acc ++ [y]))) else N H3) := by
  refine lc_it walk_str (fun i H' => Same H H' ∧ H' D = some (.lst (((x.cps.toList.take i).map g).map V.bl))) ⟨same_new nD _, upd_same⟩ (fun _ _ _ _ => trivial) ?_ ?_
  · rintro i v H3 H4 hi ⟨s3, e3⟩ ⟨rfl, c, ec, rfl⟩
    refine ⟨hw _, ?_⟩
    unfold tYes
    refine iteT ?_
    have ec' : x.cps.toList[i]? = some c := by rw [Array.getElem?_toList]; exact ec
    refine elt c _ _ (List.mem_of_getElem? ec') ⟨_, e3, ?_, ?_, ?_⟩
    · rw [List.length_map, List.length_map, List.length_take]
      have h1 : x.length = x.cps.size := rfl
      omega
    · exact fun b o q => by
        rw [upd_ne (ne_of_none q nD)]
        exact s3 b o q
    · rw [upd_same, take_snoc ec', List.map_append, List.map_append]
      rfl
  · rintro H' ⟨s3, e3⟩
    refine done H' s3 ?_
    rw [e3, List.take_of_length_le (by rw [Array.length_toList]; exact Nat.le_refl _)]
/-- a list comprehension over a tuple of data whose element is a bool by the item -/
theorem lc_items {K : PySem.W.Frag} {D j : Nat} {a : Addr} {xs : List V} {ds : List PyData} {te : TE} {own : List Nat} {σ : L2.St} {H : Hp} {Qd : Hp → Prop} (g : PyData → Bool) (nD : H D = none)
    (hq : SqT K H a xs) (dp : DpAll K H xs ds) (hl : ds.length ≤ sizeLine) (hw : ∀ v, wipe ((wipe σ own).set j v) own = wipe σ own)
    (elt : ∀ (v : V) (d : PyData) (H3 : Hp) (q : VK), d ∈ ds → Dp K H3 v d → Same H H3 → (∀ H4, Same H3 H4 → q (.bl (g d)) H4) → te ((wipe σ own).set j (some v)) H3 q)
    (done : ∀ H', Same H H' → H' D = some (.lst ((ds.map g).map V.bl)) → Qd H') :
    ∃ W : Nat → Nat → Hp → Prop, (∃ z, W 0 z (L2.upd H D (.lst []))) ∧ ∀ i z H, W i z H → ((Itt K a).stop i H ∧ Qd H) ∨
      ((Itt K a).go i H ∧ ∃ N : Hp → Prop, (∀ H', N H' → ∃ z', z' < z ∧ W (i + 1) z' H') ∧ ∀ u H', (Itt K a).yld i H u H' →
        gName j u (wipe σ own) H' fun σ2 H2 => wipe σ2 own = wipe σ own ∧ tYes σ2 H2 fun b H3 =>
          if b = true then te σ2 H3 fun y H4 => ∃ acc, H4 D = some (.lst acc) ∧ acc.length < sizeLine ∧ N (L2.upd H4 D (.lst (acc ++ [y]))) else N H3) := by
  have hlen := DpAll_len dp
  refine lc_tup (xs := xs) (fun i H' => Same H H' ∧ H' D = some (.lst (((ds.take i).map g).map V.bl))) ⟨same_new nD _, upd_same⟩ (fun i H' _ p => Same.seqT p.1 hq) ?_ ?_
  · rintro i v H3 hv ⟨s3, e3⟩
    refine ⟨hw _, ?_⟩
    unfold tYes
    refine iteT ?_
    obtain ⟨d, hd, hvd⟩ := DpAll_get i dp hv
    refine elt v d _ _ (List.mem_of_getElem? hd) (Dp_mono s3 hvd) s3 fun H4 s4 => ⟨_, s4 _ _ e3, ?_, ?_, ?_⟩
    · rw [List.length_map, List.length_map, List.length_take]
      have := (List.getElem?_eq_some_iff.mp hd).1
      omega
    · exact fun b o q => by
        rw [upd_ne (ne_of_none q nD)]
        exact s4 _ _ (s3 b o q)
    · rw [upd_same, take_snoc hd, List.map_append, List.map_append]
      rfl
  · rintro H' ⟨s3, e3⟩
    refine done H' s3 ?_
    rw [e3, hlen, List.take_of_length_le (Nat.le_refl _)]

/-- _law_same(found, due): are both shown by one text? -/
def spSame (K : PySem.W.Frag) : Sp := fun vs H Q _ => ∃ (v u : V) (d e : PyData), vs = [v, u] ∧ Dp K H v d ∧ Dp K H u e ∧ Ok d ∧ Ok e ∧ Q (.bl (decide (d.shown = e.shown))) H
theorem str_dec (a b : Str) : decide (V.str a = V.str b) = decide (a = b) := by
  by_cases h : a = b
  · subst h
    simp
  · have q : ¬ V.str a = V.str b := fun z => h (V.str.inj z)
    rw [decide_eq_false h, decide_eq_false q]
theorem repr_by {K : PySem.W.Frag} {v : V} {d : PyData} {H : Hp} {Q : VK} (h : Dp K H v d) (ok : Ok d) (q : Q (.str d.shown) H) : rReprD K [v] H Q := by
  obtain ⟨h1, h2, h3⟩ := shown_big d ok.fine
  exact ⟨v, d, rfl, h, h1, h2, ok.depth, Nat.le_trans h3 ok.big, q⟩

/-! ### texts -/
/-- every sign can be shown -/
def okStr (x : Str) : Prop := ∀ c ∈ x.cps.toList, c < 1114112
theorem Nice.str {n b : Nat} {x : Str} (h : okStr x) (hb : 10 * x.length + 2 ≤ b) : Nice n b (.str x) := by
  refine ⟨?_, Nat.zero_le _, hb⟩
  simp only [Vn.fine, List.all_eq_true, decide_eq_true_eq]
  exact h
theorem okStr_app {x y : Str} (h : okStr x) (g : okStr y) : okStr (x ++ y) := fun c hc => by
  have e : (x ++ y).cps.toList = x.cps.toList ++ y.cps.toList := Array.toList_append
  rw [e] at hc
  exact (List.mem_append.mp hc).elim (h c) (g c)
theorem len_app (x y : Str) : (x ++ y).length = x.length + y.length := Array.size_append
theorem okStr_cut {x : Str} (h : okStr x) (lo hi : Option Int) : okStr (cutS x lo hi) := fun c hc => by
  unfold cutS at hc
  exact h c (List.mem_of_mem_drop (List.mem_of_mem_take (by simpa using hc)))
/-- letters a to z alone -/
def azStr (x : Str) : Prop := ∀ c ∈ x.cps.toList, 97 ≤ c ∧ c ≤ 122
theorem azStr.ok {x : Str} (h : azStr x) : okStr x := fun c hc => Nat.lt_of_le_of_lt (h c hc).2 (by decide)
theorem joined {m : Nat} : ∀ {ys : List Str}, ys.length = m → (∀ y ∈ ys, y.length = 1 ∧ azStr y) → (Str.join (Str.ofString "") ys).length = m ∧ azStr (Str.join (Str.ofString "") ys)
  | [], h, _ => ⟨h, fun c hc => by
      have e : (Str.join (Str.ofString "") []).cps.toList = [] := by decide +kernel
      rw [e] at hc
      exact nomatch hc⟩
  | [y], h, g => by
    have e : Str.join (Str.ofString "") [y] = y := rfl
    rw [e]
    obtain ⟨a, b⟩ := g y List.mem_cons_self
    exact ⟨a.trans h, b⟩
  | y :: z :: r, h, g => by
    obtain ⟨a, b⟩ := g y List.mem_cons_self
    obtain ⟨c, d⟩ := joined (ys := z :: r) rfl fun u hu => g u (List.mem_cons_of_mem _ hu)
    have e : Str.join (Str.ofString "") (y :: z :: r) = y ++ Str.ofString "" ++ Str.join (Str.ofString "") (z :: r) := rfl
    have e0 : (Str.ofString "").length = 0 := by decide +kernel
    have e1 : (Str.ofString "").cps.toList = [] := by decide +kernel
    refine ⟨?_, fun c hc => ?_⟩
    · rw [e, len_app, len_app, a, c, e0, ← h]
      simp only [List.length_cons]
      omega
    · have q : (y ++ Str.ofString "" ++ Str.join (Str.ofString "") (z :: r)).cps.toList = (y.cps.toList ++ (Str.ofString "").cps.toList) ++ (Str.join (Str.ofString "") (z :: r)).cps.toList := by
        rw [show (y ++ Str.ofString "" ++ Str.join (Str.ofString "") (z :: r)).cps.toList = (y ++ Str.ofString "").cps.toList ++ _ from Array.toList_append, show (y ++ Str.ofString "").cps.toList = _ from Array.toList_append]
      rw [e, q, e1, List.append_nil] at hc
      exact (List.mem_append.mp hc).elim (b c) (d c)
/-- texts of one sign as values -/
theorem strs_of {K : PySem.W.Frag} {H : Hp} : ∀ {vs : List V} {ds : List PyData}, DpAll K H vs ds → (∀ d ∈ ds, ∃ x, d = .str x ∧ x.length = 1 ∧ azStr x) →
    ∃ ys : List Str, vs = ys.map V.str ∧ ys.length = ds.length ∧ ∀ y ∈ ys, y.length = 1 ∧ azStr y
  | _, _, .nil, _ => ⟨[], rfl, rfl, fun _ h => nomatch h⟩
  | _, _, .cons h r, g => by
    obtain ⟨x, rfl, hx⟩ := g _ List.mem_cons_self
    cases h
    obtain ⟨ys, rfl, hl, hy⟩ := strs_of r fun d hd => g d (List.mem_cons_of_mem _ hd)
    exact ⟨x :: ys, rfl, by rw [List.length_cons, List.length_cons, hl], fun y hm => by
      cases hm with
      | head => exact hx
      | tail _ m => exact hy y m⟩
/-- _law_letters(stream, many) -/
def spLetters : Sp := fun vs H Q _ => ∃ (S C : Addr) (n m : Nat), vs = [.ref S, .int (m : Int)] ∧ m ≤ 100 ∧ Strm S C n H ∧ n + m ≤ 20000000 ∧
  ∀ (x : Str) (H' : Hp), x.length = m → azStr x → Strm S C (n + m) H' → Fr S C H H' → Q (.str x) H'
theorem letters_by {S C : Addr} {n : Nat} {i : Int} (m : Nat) {H : Hp} {Q : VK} {E : XK} (st : Strm S C n H) (hi : i = (m : Int)) (hm : m ≤ 100) (hn : n + m ≤ 20000000)
    (q : ∀ (x : Str) (H' : Hp), x.length = m → azStr x → Strm S C (n + m) H' → Fr S C H H' → Q (.str x) H') : spLetters [.ref S, .int i] H Q E :=
  ⟨S, C, n, m, by rw [hi], hm, st, hn, q⟩
def kT : Nat → Nat
  | 0 => 3
  | m + 1 => 3 * kT m + 5
def bT : Nat → Nat
  | 0 => 2100
  | m + 1 => 3 * (bT m + 2) + 3
abbrev spThing (K : PySem.W.Frag) (m : Nat) : Sp := spGet K (kT m) (fun us => us = [.int (m : Int)]) (Nice (m + 1) (bT m))
/-- a thing of _law_thing's own list -/
theorem some_thing {K : PySem.W.Frag} {H : Hp} {p1 p2 p3 p4 : Addr} (n1 : H p1 = some (.tup [])) (n2 : H p2 = some (.lst [])) (n3 : H p3 = some (.tup [.str "a"])) (n4 : H p4 = some (.lst [.str "a"])) :
    DpAll K H [V.non, V.bl true, V.bl false, V.int 0, V.int 1, V.int (-7), V.int (10 ^ 30 - 1), V.str "", V.str "link", V.str "a", V.str "on", V.ref p1, V.ref p2, V.ref p3, V.ref p4, V.str "A", V.str "b c"]
      [.none, .bool true, .bool false, .int 0, .int 1, .int (-7), .int (10 ^ 30 - 1), .str "", .str "link", .str "a", .str "on", .tuple [], .list [], .tuple [.str "a"], .list [.str "a"], .str "A", .str "b c"] :=
  .cons .non (.cons (.bl _) (.cons (.bl _) (.cons (.int _) (.cons (.int _) (.cons (.int _) (.cons (.int _) (.cons (.str _) (.cons (.str _) (.cons (.str _) (.cons (.str _)
    (.cons (.tup (SqT.of n1) .nil) (.cons (.lst (SqL.of n2) .nil) (.cons (.tup (SqT.of n3) (.cons (.str _) .nil)) (.cons (.lst (SqL.of n4) (.cons (.str _) .nil)) (.cons (.str _) (.cons (.str _) .nil))))))))))))))))
theorem some_nice : ∀ d ∈ ([.none, .bool true, .bool false, .int 0, .int 1, .int (-7), .int (10 ^ 30 - 1), .str "", .str "link", .str "a", .str "on", .tuple [], .list [], .tuple [.str "a"], .list [.str "a"], .str "A", .str "b c"] : List PyData),
    fine d = true ∧ d.depth ≤ 1 ∧ big d ≤ 2100 := by
  intro d hd
  simp only [List.mem_cons, List.not_mem_nil, or_false] at hd
  rcases hd with rfl | rfl | rfl | rfl | rfl | rfl | rfl | rfl | rfl | rfl | rfl | rfl | rfl | rfl | rfl | rfl | rfl <;> exact ⟨by decide +kernel, by decide +kernel, by decide +kernel⟩
theorem bigs_take_drop (ds : List PyData) (i : Nat) : bigs (ds.take i) + bigs (ds.drop i) = bigs ds := by rw [← bigs_append, List.take_append_drop]
theorem fines_take_drop (ds : List PyData) (i : Nat) : (fines (ds.take i) && fines (ds.drop i)) = fines ds := by rw [← fines_append, List.take_append_drop]
theorem depth_take_drop (ds : List PyData) (i : Nat) : max (PyData.depthAll (ds.take i)) (PyData.depthAll (ds.drop i)) = PyData.depthAll ds := by rw [← depthAll_append, List.take_append_drop]
theorem Nices.take {n b : Nat} {ds : List PyData} (h : Nices n b ds) (i : Nat) : Nices n b (ds.take i) := by
  have h1 := fines_take_drop ds i
  rw [h.fine, Bool.and_eq_true] at h1
  have h2 := depth_take_drop ds i
  have h3 := bigs_take_drop ds i
  have := h.depth
  have := h.big
  exact ⟨h1.1, by omega, by omega⟩
theorem Nices.drop {n b : Nat} {ds : List PyData} (h : Nices n b ds) (i : Nat) : Nices n b (ds.drop i) := by
  have h1 := fines_take_drop ds i
  rw [h.fine, Bool.and_eq_true] at h1
  have h2 := depth_take_drop ds i
  have h3 := bigs_take_drop ds i
  have := h.depth
  have := h.big
  exact ⟨h1.2, by omega, by omega⟩
theorem Nices.insert {n b c : Nat} {ds : List PyData} {d : PyData} (h : Nices n b ds) (g : Nice n c d) (i : Nat) : Nices n (b + (c + 2)) (ds.take i ++ [d] ++ ds.drop i) := by
  have h1 := fines_take_drop ds i
  rw [h.fine, Bool.and_eq_true] at h1
  have h2 := depth_take_drop ds i
  have h3 := bigs_take_drop ds i
  have := h.depth
  have := h.big
  have := g.depth
  have := g.big
  refine ⟨?_, ?_, ?_⟩
  · rw [fines_append, fines_append]
    simp [fines, h1.1, h1.2, g.fine]
  · rw [depthAll_append, depthAll_append]
    simp only [PyData.depthAll]
    omega
  · rw [bigs_append, bigs_append]
    simp only [bigs]
    omega
theorem Nices.set {n b c : Nat} {ds : List PyData} {d : PyData} (h : Nices n b ds) (g : Nice n c d) (i : Nat) : Nices n (b + (c + 2)) (ds.set i d) := by
  by_cases hi : i < ds.length
  · have e : ds.set i d = ds.take i ++ [d] ++ ds.drop (i + 1) := by
      rw [List.set_eq_take_append_cons_drop, if_pos hi, List.append_assoc]
      rfl
    rw [e]
    have q := (h.take i).append (.one g)
    have r := h.drop (i + 1)
    have h2 := bigs_take_drop ds i
    have h3 : bigs (ds.drop (i + 1)) ≤ bigs (ds.drop i) := by
      have := bigs_take_drop (ds.drop i) 1
      rw [List.drop_drop] at this
      omega
    have := h.big
    have := g.big
    refine ⟨?_, ?_, ?_⟩
    · rw [fines_append, q.fine, r.fine]; rfl
    · rw [depthAll_append]; exact Nat.max_le.mpr ⟨q.depth, r.depth⟩
    · rw [bigs_append, bigs_append]
      simp only [bigs]
      omega
  · rw [List.set_eq_of_length_le (by omega)]
    exact h.mono (Nat.le_refl _) (by omega)
theorem Nices.erase {n b : Nat} {ds : List PyData} (h : Nices n b ds) (i : Nat) : Nices n (b + b) (ds.eraseIdx i) := by
  rw [List.eraseIdx_eq_take_drop_succ]
  exact (h.take i).append (h.drop (i + 1))
theorem DpAll_set {K : PySem.W.Frag} {H : Hp} {v : V} {d : PyData} (g : Dp K H v d) : ∀ {ds : List PyData} {vs : List V} (i : Nat), DpAll K H vs ds → DpAll K H (vs.set i v) (ds.set i d)
  | _, _, _, .nil => .nil
  | _, _, 0, .cons _ r => .cons g r
  | _, _, i + 1, .cons a r => .cons a (DpAll_set g i r)
theorem DpAll_erase {K : PySem.W.Frag} {H : Hp} : ∀ {ds : List PyData} {vs : List V} (i : Nat), DpAll K H vs ds → DpAll K H (vs.eraseIdx i) (ds.eraseIdx i)
  | _, _, _, .nil => .nil
  | _, _, 0, .cons _ r => r
  | _, _, i + 1, .cons a r => .cons a (DpAll_erase i r)
theorem item_nice {n b : Nat} {K : PySem.W.Frag} {H : Hp} {vs : List V} {ds : List PyData} {i : Nat} {v : V} (h : DpAll K H vs ds) (g : Nices n b ds) (e : vs[i]? = some v) : ∃ d, Dp K H v d ∧ Nice n b d := by
  obtain ⟨d, hd, hv⟩ := DpAll_get i h e
  exact ⟨d, hv, g.mem (List.mem_of_getElem? hd)⟩
theorem ext_laid {S C D : Addr} {n : Nat} {H H' : Hp} {o u : HO} (s : Strm S C n H') (f : Fr S C H H') (e : H' D = some u) : Ext (L2.upd H D o) H' := fun a h => by
  have hn : a ≠ D := fun z => by
    rw [z, e] at h
    cases h
  rw [upd_ne hn]
  exact f.ext s a h
/-- a new object D beside new things: what is new but for D -/
theorem side {S C D : Addr} {n1 n2 : Nat} {H1 H2 : Hp} (s1 : Strm S C n1 H1) (s2 : Strm S C n2 H2) (f : Fr S C H1 H2) (nD : H2 D = none) (o : HO) :
    ∃ G, Ext H1 G ∧ G D ≠ none ∧ Strm S C n1 G ∧ Same (newp H1 H2) (newp G (L2.upd H2 D o)) ∧ Ext G (L2.upd H2 D o) := by
  have n1D : H1 D = none := Fr.ext s2 f D nD
  refine ⟨L2.upd H1 D (.lst []), Ext.upd, by rw [upd_same]; exact Option.some_ne_none _, s1.lay n1D _, fun a u h => ?_, fun a h => ?_⟩
  · obtain ⟨h1, h2⟩ := newp_some h
    have hn : a ≠ D := ne_of_none h2 nD
    rw [newp_of (by rw [upd_ne hn]; exact h1), upd_ne hn]
    exact h2
  · by_cases e : a = D
    · rw [e, upd_same] at h
      cases h
    · rw [upd_ne e] at h ⊢
      exact Fr.ext s2 f a h
theorem ix0 {n : Nat} (h : 0 < n) : ixN n 0 = some 0 := by simp [ixN, h]
theorem seqIx {n : Nat} {i : Int} (h0 : 0 ≤ i) (h : i < (n : Int)) : seqIndex? i n = some i.toNat := by
  have q : ixN n i = some i.toNat := by
    unfold ixN
    rw [if_pos h0, if_pos h]
  exact (ixN_seq q).1
end Vn

set_option Elab.async false
set_option linter.all false
set_option maxRecDepth 100000
set_option maxHeartbeats 4000000
/-! Vn: values, links: what is shown by 'link'; == of data. -/
namespace Vn
open PySem PySem.Spec PyProof.Rows L2

mutual
theorem lay_of : ∀ d : PyData, fine d = true → d.canLay0 = true
  | .none, _ => by simp only [PyData.canLay0]
  | .bool _, _ => by simp only [PyData.canLay0]
  | .int _, _ => by simp only [PyData.canLay0]
  | .str x, h => by
    simp only [Vn.fine, List.all_eq_true, decide_eq_true_eq] at h
    simp only [PyData.canLay0, PyData.strOk, Array.all_eq_true', decide_eq_true_eq]
    exact fun c hc => h c (Array.mem_toList_iff.mpr hc)
  | .list xs, h => by
    simp only [Vn.fine] at h
    simp only [PyData.canLay0]
    exact lays_of xs h
  | .tuple xs, h => by
    simp only [Vn.fine] at h
    simp only [PyData.canLay0]
    exact lays_of xs h
  | .dict _, h => by simp [Vn.fine] at h
theorem lays_of : ∀ ds : List PyData, fines ds = true → PyData.canLayAll0 ds = true
  | [], _ => by simp only [PyData.canLayAll0]
  | d :: ds, h => by
    simp only [Vn.fines, Bool.and_eq_true] at h
    simp only [PyData.canLayAll0, lay_of d h.1, lays_of ds h.2]
    rfl
end
theorem Ok.shaped {d : PyData} (h : Ok d) : SeqAt.shaped d = true := by
  unfold SeqAt.shaped
  rw [lay_of d h.fine, decide_eq_true (Nat.le_trans h.depth (by decide))]
  rfl
theorem str_ext {x y : Str} (h : x.cps.toList = y.cps.toList) : x = y := by
  cases x
  cases y
  congr 1
  exact Array.toList_inj.mp h
/-- the signs of a text's repr -/
theorem fold_signs (f : Nat → List Nat) : ∀ (l : List Nat) (acc : Array Nat), (l.foldl (fun out c => out ++ (f c).toArray) acc).toList = acc.toList ++ l.flatMap f
  | [], acc => by simp
  | c :: r, acc => by
    rw [List.foldl_cons, fold_signs f r, List.flatMap_cons]
    simp
theorem repr_signs (x : Str) : (reprText x).cps.toList = reprQuote x :: (x.cps.toList.flatMap (Builtin.Str.reprChar (reprQuote x)) ++ [reprQuote x]) := by
  unfold reprText
  rw [Array.toList_push, ← Array.foldl_toList, fold_signs]
  simp
theorem sign_shown (q c : Nat) : Builtin.Str.reprChar q c = [c] ∨ 92 ∈ Builtin.Str.reprChar q c := by
  unfold Builtin.Str.reprChar
  split
  · exact .inr List.mem_cons_self
  split
  · exact .inr List.mem_cons_self
  split
  · exact .inr List.mem_cons_self
  split
  · exact .inr List.mem_cons_self
  split
  · exact .inl rfl
  split
  · exact .inr List.mem_cons_self
  split
  · exact .inr List.mem_cons_self
  · exact .inr List.mem_cons_self
theorem signs_plain (q : Nat) : ∀ l : List Nat, 92 ∉ l.flatMap (Builtin.Str.reprChar q) → l.flatMap (Builtin.Str.reprChar q) = l
  | [], _ => rfl
  | c :: r, h => by
    rw [List.flatMap_cons] at h ⊢
    have h1 : 92 ∉ Builtin.Str.reprChar q c := fun m => h (List.mem_append_left _ m)
    have h2 : 92 ∉ r.flatMap (Builtin.Str.reprChar q) := fun m => h (List.mem_append_right _ m)
    rw [signs_plain q r h2, (sign_shown q c).resolve_right h1]
    rfl
theorem link_signs : (PyData.str (Str.ofString "link")).shown.cps.toList = [39, 108, 105, 110, 107, 39] := by decide +kernel
theorem shown_link {d : PyData} (hf : fine d = true) : decide (d.shown = (PyData.str (Str.ofString "link")).shown) = PyData.eqv d (.str (Str.ofString "link")) := by
  have key : ∀ {l : List Nat}, d.shown.cps.toList = l → l ≠ [39, 108, 105, 110, 107, 39] → decide (d.shown = (PyData.str (Str.ofString "link")).shown) = false := fun e n =>
    decide_eq_false fun z => n (by rw [← e, z, link_signs])
  cases d with
  | none => rw [key (l := [78, 111, 110, 101]) (by decide +kernel) (by decide)]; rfl
  | bool b => cases b <;> (rw [key rfl (by decide +kernel)]; simp only [PyData.eqv])
  | int i =>
    rw [decide_eq_false fun z => (shown_int_free_39 i).mp (by rw [z, link_signs]; exact List.mem_cons_self)]
    simp only [PyData.eqv]
  | list xs =>
    rw [decide_eq_false fun z => ?_]
    · simp only [PyData.eqv]
    · obtain ⟨l, e⟩ : ∃ l, (PyData.list xs).shown.cps.toList = 91 :: l := by
        simp only [PyData.shown, listText_eq_join]
        rw [cps_toList_append, cps_toList_append, signs_lbrack]
        exact ⟨_, rfl⟩
      rw [z, link_signs] at e
      cases e
  | tuple xs =>
    rw [decide_eq_false fun z => ?_]
    · simp only [PyData.eqv]
    · obtain ⟨l, e⟩ : ∃ l, (PyData.tuple xs).shown.cps.toList = 40 :: l := by
        simp only [PyData.shown, tupleText]
        rw [cps_toList_append, cps_toList_append, signs_lparen]
        exact ⟨_, rfl⟩
      rw [z, link_signs] at e
      cases e
  | dict _ => simp [Vn.fine] at hf
  | str x =>
    simp only [PyData.eqv]
    by_cases h : x = Str.ofString "link"
    · subst h
      simp
    · rw [decide_eq_false fun z => h (str_ext ?_)]
      · simp [h]
      · have e := link_signs
        rw [← z] at e
        simp only [PyData.shown] at e
        rw [repr_signs] at e
        have q39 : reprQuote x = 39 := (List.cons.inj e).1
        rw [q39] at e
        have e2 : x.cps.toList.flatMap (Builtin.Str.reprChar 39) = [108, 105, 110, 107] := List.append_cancel_right (as := x.cps.toList.flatMap (Builtin.Str.reprChar 39)) (bs := [39]) (cs := [108, 105, 110, 107]) (List.cons.inj e).2
        rw [signs_plain 39 _ (by rw [e2]; decide)] at e2
        rw [e2]
        decide +kernel
theorem int_dec (a b : Int) : decide (V.int a = V.int b) = decide (a = b) := by
  by_cases h : a = b
  · subst h
    simp
  · rw [decide_eq_false h, decide_eq_false fun z => h (V.int.inj z)]
/-- a list comprehension over a list of data whose element is a bool by the item -/
theorem lc_itemsL {K : PySem.W.Frag} {D j : Nat} {a : Addr} {xs : List V} {ds : List PyData} {te : TE} {own : List Nat} {σ : L2.St} {H : Hp} {Qd : Hp → Prop} (g : PyData → Bool) (nD : H D = none)
    (hq : SqL K H a xs) (dp : DpAll K H xs ds) (hl : ds.length ≤ sizeLine) (hw : ∀ v, wipe ((wipe σ own).set j v) own = wipe σ own)
    (elt : ∀ (v : V) (d : PyData) (H3 : Hp) (q : VK), d ∈ ds → Dp K H3 v d → Same H H3 → (∀ H4, Same H3 H4 → q (.bl (g d)) H4) → te ((wipe σ own).set j (some v)) H3 q)
    (done : ∀ H', Same H H' → H' D = some (.lst ((ds.map g).map V.bl)) → Qd H') :
    ∃ W : Nat → Nat → Hp → Prop, (∃ z, W 0 z (L2.upd H D (.lst []))) ∧ ∀ i z H, W i z H → ((Itl K a).stop i H ∧ Qd H) ∨
      ((Itl K a).go i H ∧ ∃ N : Hp → Prop, (∀ H', N H' → ∃ z', z' < z ∧ W (i + 1) z' H') ∧ ∀ u H', (Itl K a).yld i H u H' →
        gName j u (wipe σ own) H' fun σ2 H2 => wipe σ2 own = wipe σ own ∧ tYes σ2 H2 fun b H3 =>
          if b = true then te σ2 H3 fun y H4 => ∃ acc, H4 D = some (.lst acc) ∧ acc.length < sizeLine ∧ N (L2.upd H4 D (.lst (acc ++ [y]))) else N H3) := by
  have hlen := DpAll_len dp
  refine lc_list (xs := xs) (fun i H' => Same H H' ∧ H' D = some (.lst (((ds.take i).map g).map V.bl))) ⟨same_new nD _, upd_same⟩ (fun i H' _ p => Same.seq p.1 hq) ?_ ?_
  · rintro i v H3 hv ⟨s3, e3⟩
    refine ⟨hw _, ?_⟩
    unfold tYes
    refine iteT ?_
    obtain ⟨d, hd, hvd⟩ := DpAll_get i dp hv
    refine elt v d _ _ (List.mem_of_getElem? hd) (Dp_mono s3 hvd) s3 fun H4 s4 => ⟨_, s4 _ _ e3, ?_, ?_, ?_⟩
    · rw [List.length_map, List.length_map, List.length_take]
      have := (List.getElem?_eq_some_iff.mp hd).1
      omega
    · exact fun b o q => by
        rw [upd_ne (ne_of_none q nD)]
        exact s4 _ _ (s3 b o q)
    · rw [upd_same, take_snoc hd, List.map_append, List.map_append]
      rfl
  · rintro H' ⟨s3, e3⟩
    refine done H' s3 ?_
    rw [e3, hlen, List.take_of_length_le (Nat.le_refl _)]

/-- [f(thing) for k in range(m)], all that stood stands -/
theorem lc_again {D j m : Nat} {b : Bool} {te : TE} {own : List Nat} {σ : L2.St} {H : Hp} {Qd : Hp → Prop} (nD : H D = none) (hm : m < 1000)
    (hw : ∀ v, wipe ((wipe σ own).set j v) own = wipe σ own)
    (elt : ∀ (i : Nat) (H3 : Hp) (q : VK), Same H H3 → (∀ H4, Same H3 H4 → q (.bl b) H4) → te ((wipe σ own).set j (some (.int (0 + (i : Int))))) H3 q)
    (done : ∀ H', Same H H' → H' D = some (.lst (List.replicate m (V.bl b))) → Qd H') :
    ∃ W : Nat → Nat → Hp → Prop, (∃ z, W 0 z (L2.upd H D (.lst []))) ∧ ∀ i z H, W i z H → ((Itr 0 m).stop i H ∧ Qd H) ∨
      ((Itr 0 m).go i H ∧ ∃ N : Hp → Prop, (∀ H', N H' → ∃ z', z' < z ∧ W (i + 1) z' H') ∧ ∀ u H', (Itr 0 m).yld i H u H' →
        gName j u (wipe σ own) H' fun σ2 H2 => wipe σ2 own = wipe σ own ∧ tYes σ2 H2 fun b H3 =>
          if b = true then te σ2 H3 fun y H4 => ∃ acc, H4 D = some (.lst acc) ∧ acc.length < sizeLine ∧ N (L2.upd H4 D (.lst (acc ++ [y]))) else N H3) := by
  refine lc_range (fun i H' => Same H H' ∧ H' D = some (.lst (List.replicate i (V.bl b)))) ⟨same_new nD _, upd_same⟩ ?_ ?_
  · rintro i H3 hi ⟨s3, e3⟩
    refine ⟨hw _, ?_⟩
    unfold tYes
    refine iteT ?_
    refine elt i _ _ s3 fun H4 s4 => ⟨_, s4 _ _ e3, ?_, ?_, ?_⟩
    · rw [List.length_replicate]
      exact Nat.lt_of_lt_of_le hi (Nat.le_trans (Nat.le_of_lt hm) (by decide))
    · exact fun c o q => by
        rw [upd_ne (ne_of_none q nD)]
        exact s4 _ _ (s3 c o q)
    · rw [upd_same, List.replicate_succ']
  · rintro H' ⟨s3, e3⟩
    exact done H' s3 e3
theorem DpAll_bools {K : PySem.W.Frag} {H : Hp} : ∀ bs : List Bool, DpAll K H (bs.map V.bl) (bs.map PyData.bool)
  | [] => .nil
  | b :: r => .cons (.bl b) (DpAll_bools r)
/-- values -/
def linkD : PyData → Bool
  | .tuple [a, p] => PyData.eqv a (.str (Str.ofString "link")) && pathD p
  | _ => false
def intD : PyData → Bool
  | .int _ => true
  | _ => false
theorem linkD_not {ds : List PyData} (h : ds.length ≠ 2) : linkD (.tuple ds) = false := by
  match ds with
  | [] => rfl
  | [_] => rfl
  | [_, _] => exact absurd rfl h
  | _ :: _ :: _ :: _ => rfl
theorem two_of {K : PySem.W.Frag} {H : Hp} {xs : List V} {ds : List PyData} (h : DpAll K H xs ds) (e : xs.length = 2) : ∃ x y d0 d1, xs = [x, y] ∧ ds = [d0, d1] ∧ Dp K H x d0 ∧ Dp K H y d1 := by
  cases h with
  | nil => cases e
  | cons a r =>
    cases r with
    | nil => cases e
    | cons b r =>
      cases r with
      | nil => exact ⟨_, _, _, _, rfl, rfl, a, b⟩
      | cons _ _ => simp at e
theorem ne_two {n : Nat} (c : (!decide (V.int (n : Int) = V.int 2)) = true) : n ≠ 2 := fun e => by
  subst e
  simp at c
theorem is_two {n : Nat} (c : ¬ (!decide (V.int (n : Int) = V.int 2)) = true) : n = 2 := by
  rw [int_dec] at c
  simp at c
  omega
theorem is_two' {n : Nat} (c : decide (V.int (n : Int) = V.int 2) = true) : n = 2 := by
  rw [int_dec] at c
  simp at c
  omega
theorem ne_two' {n : Nat} (c : ¬ decide (V.int (n : Int) = V.int 2) = true) : n ≠ 2 := fun e => by
  subst e
  simp at c
theorem link_shaped : SeqAt.shaped (.str (Str.ofString "link")) = true := by decide +kernel
theorem link_ok : Ok (.str (Str.ofString "link")) := ⟨by decide +kernel, by decide +kernel, by decide +kernel⟩
def valueD (d : PyData) : Bool := intD d || (nameD d || linkD d)
end Vn

set_option Elab.async false
set_option linter.all false
set_option maxRecDepth 100000
set_option maxHeartbeats 4000000
/-! Vn: trees: their look. -/
namespace Vn
open PySem PySem.Spec PyProof.Rows L2
def pairD : PyData → Bool
  | .tuple [_, _] => true
  | _ => false
def fstD : PyData → PyData
  | .tuple (a :: _) => a
  | _ => .none
def sndD : PyData → PyData
  | .tuple [_, b] => b
  | _ => .none
def strD : PyData → Str
  | .str x => x
  | _ => ⟨#[]⟩
def itemsD : PyData → List PyData
  | .tuple ds => ds
  | _ => []
def nmD (e : PyData) : Bool := pairD e && nameD (fstD e)
def namedD : PyData → Bool
  | .tuple ds => ds.all nmD
  | _ => false
def keysL (ds : List PyData) : List Str := ds.map fun e => strD (fstD e)
def ascD : List Str → Bool
  | x :: y :: r => decide (x.cps.toList < y.cps.toList) && ascD (y :: r)
  | _ => true
/-- n: one more than the levels that are allowed below the root -/
def treeD : Nat → PyData → Bool
  | 0, _ => false
  | n + 1, .tuple [p, c] => (namedD p && namedD c) && ((ascD (keysL (itemsD p)) && ascD (keysL (itemsD c))) && (((itemsD p).all fun e => valueD (sndD e)) && ((itemsD c).all fun e => treeD n (sndD e))))
  | _, _ => false
theorem pair_is {e : PyData} (h : pairD e = true) : ∃ a b, e = .tuple [a, b] := by
  match e, h with
  | .tuple [a, b], _ => exact ⟨a, b, rfl⟩
theorem named_is {e : PyData} (h : nmD e = true) : ∃ x b, e = .tuple [.str x, b] ∧ nameD (.str x) = true := by
  unfold nmD at h
  rw [Bool.and_eq_true] at h
  obtain ⟨a, b, rfl⟩ := pair_is h.1
  have h2 : nameD a = true := h.2
  match a, h2 with
  | .str x, h2 => exact ⟨x, b, rfl, h2⟩
theorem named_tup {p : PyData} (h : namedD p = true) : ∃ ps, p = .tuple ps := by
  cases p with
  | tuple ps => exact ⟨ps, rfl⟩
  | _ => cases h
theorem not_pair {ds : List PyData} (h : ds.length ≠ 2) : pairD (.tuple ds) = false := by
  match ds with
  | [] => rfl
  | [_] => rfl
  | [_, _] => exact absurd rfl h
  | _ :: _ :: _ :: _ => rfl
theorem treeD_not {n : Nat} {d : PyData} (h : pairD d = false) : treeD n d = false := by
  cases n with
  | zero => rfl
  | succ n =>
    cases d with
    | tuple ds =>
      match ds with
      | [] => rfl
      | [_] => rfl
      | [_, _] => cases h
      | _ :: _ :: _ :: _ => rfl
    | _ => rfl
/-- ascends, place by place -/
def ascAt (ss : List Str) : List Bool := (ss.zip (ss.drop 1)).map fun p => decide (p.1.cps.toList < p.2.cps.toList)
theorem asc_at : ∀ ss : List Str, (ascAt ss).all id = ascD ss
  | [] => rfl
  | [_] => rfl
  | x :: y :: r => by
    have ih := asc_at (y :: r)
    unfold ascAt at ih ⊢
    simp only [List.drop_one, List.tail_cons, List.zip_cons_cons, List.map_cons, List.all_cons, id, ascD] at ih ⊢
    rw [ih]
theorem atI0 {α : Type} (x : α) (xs : List α) : atI (x :: xs) 0 = some x := atI_nat (j := 0) rfl
theorem cut_one (xs : List V) : cutV xs (some 1) none = xs.drop 1 := by
  unfold cutV
  have e1 : HT.sIx xs.length 0 (some 1) = min 1 xs.length := HT.sIx_nat xs.length 0 1
  rw [e1, HT.sIx_none]
  cases xs with
  | nil => rfl
  | cons x r =>
    have e2 : min 1 (x :: r).length = 1 := by
      rw [List.length_cons]
      omega
    rw [e2]
    exact List.take_of_length_le (by simp)
/-- the promises -/
def spAsc (K : PySem.W.Frag) : Sp := fun vs H Q _ => ∃ (a : Addr) (ss : List Str), vs = [.ref a] ∧ SqL K H a (ss.map V.str) ∧ ss.length ≤ sizeLine ∧ ∀ H', Same H H' → Q (.bl (ascD ss)) H'
def spNames (K : PySem.W.Frag) : Sp := fun vs H Q _ => ∃ (v : V) (ds : List PyData), vs = [v] ∧ Dp K H v (.tuple ds) ∧ ds.length ≤ sizeLine ∧ ds.all nmD = true ∧
  ∀ p H', Same H H' → H' p = some (.lst ((keysL ds).map V.str)) → Q (.ref p) H'
/-- is_tree_within(value, n - 1) -/
def spTree (K : PySem.W.Frag) (n : Nat) : Sp := fun vs H Q _ => ∃ (v : V) (d : PyData), vs = [v, .int ((n : Int) - 1)] ∧ Dp K H v d ∧ Ok d ∧ ∀ H', Same H H' → Q (.bl (treeD n d)) H'
theorem all_map {α : Type} (ds : List α) (g : α → Bool) : ((ds.map g).all id) = ds.all g := by rw [List.all_map]; rfl
theorem bigs_len : ∀ ds : List PyData, 2 * ds.length ≤ bigs ds
  | [] => Nat.le_refl _
  | d :: ds => by
    have := bigs_len ds
    simp only [bigs, List.length_cons]
    omega
theorem Ok.len {ds : List PyData} (h : Ok (.tuple ds)) : ds.length ≤ sizeLine := by
  have h2 := h.big
  simp only [Vn.big] at h2
  have := bigs_len ds
  omega
/-- one item of a comprehension over a tuple of data: any value by the item -/
theorem lc_vals {K : PySem.W.Frag} {D j : Nat} {a : Addr} {xs : List V} {ds : List PyData} {te : TE} {own : List Nat} {σ : L2.St} {H : Hp} {Qd : Hp → Prop} (g : PyData → V) (nD : H D = none)
    (hq : SqT K H a xs) (dp : DpAll K H xs ds) (hl : ds.length ≤ sizeLine) (hw : ∀ v, wipe ((wipe σ own).set j v) own = wipe σ own)
    (elt : ∀ (v : V) (d : PyData) (H3 : Hp) (q : VK), d ∈ ds → Dp K H3 v d → Same H H3 → (∀ H4, Same H3 H4 → q (g d) H4) → te ((wipe σ own).set j (some v)) H3 q)
    (done : ∀ H', Same H H' → H' D = some (.lst (ds.map g)) → Qd H') :
    ∃ W : Nat → Nat → Hp → Prop, (∃ z, W 0 z (L2.upd H D (.lst []))) ∧ ∀ i z H, W i z H → ((Itt K a).stop i H ∧ Qd H) ∨
      ((Itt K a).go i H ∧ ∃ N : Hp → Prop, (∀ H', N H' → ∃ z', z' < z ∧ W (i + 1) z' H') ∧ ∀ u H', (Itt K a).yld i H u H' →
        gName j u (wipe σ own) H' fun σ2 H2 => wipe σ2 own = wipe σ own ∧ tYes σ2 H2 fun b H3 =>
          if b = true then te σ2 H3 fun y H4 => ∃ acc, H4 D = some (.lst acc) ∧ acc.length < sizeLine ∧ N (L2.upd H4 D (.lst (acc ++ [y]))) else N H3) := by
  have hlen := DpAll_len dp
  refine lc_tup (xs := xs) (fun i H' => Same H H' ∧ H' D = some (.lst ((ds.take i).map g))) ⟨same_new nD _, upd_same⟩ (fun i H' _ p => Same.seqT p.1 hq) ?_ ?_
  · rintro i v H3 hv ⟨s3, e3⟩
    refine ⟨hw _, ?_⟩
    unfold tYes
    refine iteT ?_
    obtain ⟨d, hd, hvd⟩ := DpAll_get i dp hv
    refine elt v d _ _ (List.mem_of_getElem? hd) (Dp_mono s3 hvd) s3 fun H4 s4 => ⟨_, s4 _ _ e3, ?_, ?_, ?_⟩
    · rw [List.length_map, List.length_take]
      have := (List.getElem?_eq_some_iff.mp hd).1
      omega
    · exact fun b o q => by
        rw [upd_ne (ne_of_none q nD)]
        exact s4 _ _ (s3 b o q)
    · rw [upd_same, take_snoc hd, List.map_append]
      rfl
  · rintro H' ⟨s3, e3⟩
    refine done H' s3 ?_
    rw [e3, hlen, List.take_of_length_le (Nat.le_refl _)]
/-! ### a walk over a list or a tuple -/
def iEither (K : PySem.W.Frag) (te : TE) : TI := fun σ H R => te σ H fun x H1 => ∃ a, x = .ref a ∧ (((∃ xs, SqL K H1 a xs) ∧ R (Itl K a) H1) ∨ ((∃ xs, SqT K H1 a xs) ∧ R (Itt K a) H1))
theorem pi_either {X : Cx} {K : PySem.W.Frag} {tg e : Expr} {te : TE} (he : PE X e te) (hK : X.K = K := by rfl) : PI X tg e (iEither K te) := by
  subst hK
  constructor
  intro pins s σ H R I h
  refine thn (he.run pins s σ H _ I h) ?_
  rintro v s1 ⟨x, H1, I1, r1, a, rfl, q⟩
  cases r1
  have fresh := I1.fpOk (Nat.le_refl s1.heap.objs.size) (I1.hok.fresh (Nat.le_refl _))
  have alone : ∀ b ∈ [s1.heap.objs.size], FpOk X pins H1 b := fun b hb => by
    obtain rfl := List.mem_singleton.mp hb
    exact fresh
  rcases q with ⟨⟨xs, hq⟩, q⟩ | ⟨⟨xs, hq⟩, q⟩
  · obtain ⟨its, _, pl, _⟩ := I1.list hq
    exact wpAny_pyIter_list pl.isList ⟨_, _, _, _, H1, rfl, I1.kept (t' := s1.toks) (fun b o z => Heap.get?_push_of_some _ z), turn_list a _, ⟨_, Heap.get?_push_size _ rfl, rfl, rfl⟩, alone, q⟩
  · obtain ⟨its, _, pl, _⟩ := I1.tuple hq
    exact wpAny_pyIter_tuple (show s1.heap.IsTuple a its.toArray from pl) ⟨_, _, _, _, H1, rfl, I1.kept (t' := s1.toks) (fun b o z => Heap.get?_push_of_some _ z), turn_tuple a _, ⟨_, Heap.get?_push_size _ rfl, rfl, rfl⟩, alone, q⟩
/-! ### the law's own look at pairs: one after another, each name behind the last -/
def keyD (e : PyData) : Str := strD (fstD e)
def stepD (l : Str) (e : PyData) : Bool := nmD e && decide (l.cps.toList < (keyD e).cps.toList)
def loopD : Str → List PyData → Bool
  | _, [] => true
  | l, e :: r => stepD l e && loopD (keyD e) r
def lastK : Str → List PyData → Str
  | l, [] => l
  | _, e :: r => lastK (keyD e) r
theorem loop_app : ∀ (a b : List PyData) (l : Str), loopD l (a ++ b) = (loopD l a && loopD (lastK l a) b)
  | [], _, _ => rfl
  | e :: a, b, l => by
    simp only [List.cons_append, loopD, lastK, loop_app a b, Bool.and_assoc]
theorem lastK_app : ∀ (a : List PyData) (e : PyData) (l : Str), lastK l (a ++ [e]) = keyD e
  | [], _, _ => rfl
  | _ :: a, e, _ => lastK_app a e _
theorem loop_next {ds : List PyData} {i : Nat} {e : PyData} {l : Str} (h : ds[i]? = some e) : loopD l (ds.take (i + 1)) = (loopD l (ds.take i) && stepD (lastK l (ds.take i)) e) := by
  rw [take_snoc h, loop_app]
  simp only [loopD, Bool.and_true]
theorem loop_stop {ds : List PyData} {i : Nat} {e : PyData} {l : Str} (h : ds[i]? = some e) (f : stepD (lastK l (ds.take i)) e = false) : loopD l ds = false := by
  have := loop_next (l := l) h
  rw [f, Bool.and_false] at this
  have e2 := loop_app (ds.take (i + 1)) (ds.drop (i + 1)) l
  rw [List.take_append_drop, this, Bool.false_and] at e2
  exact e2
theorem loop_from : ∀ (ds : List PyData) (l : Str), ds.all nmD = true → loopD l ds = ((match keysL ds with | [] => true | k :: _ => decide (l.cps.toList < k.cps.toList)) && ascD (keysL ds))
  | [], _, _ => rfl
  | [e], l, h => by
    have h1 : nmD e = true := by simpa using h
    simp [loopD, stepD, h1, keysL, ascD, keyD]
  | e :: f :: r, l, h => by
    have h1 : nmD e = true := List.all_eq_true.mp h e List.mem_cons_self
    have h2 : (f :: r).all nmD = true := List.all_eq_true.mpr fun x hx => List.all_eq_true.mp h x (List.mem_cons_of_mem _ hx)
    have ih := loop_from (f :: r) (keyD e) h2
    unfold loopD
    rw [ih]
    simp [stepD, h1, keysL, ascD, keyD]
theorem loop_named : ∀ (ds : List PyData) (l : Str), loopD l ds = true → ds.all nmD = true
  | [], _, _ => rfl
  | e :: r, l, h => by
    unfold loopD at h
    rw [Bool.and_eq_true] at h
    have h1 := h.1
    unfold stepD at h1
    rw [Bool.and_eq_true] at h1
    have h2 := loop_named r _ h.2
    rw [List.all_cons, h1.1, h2]
    rfl
theorem loop_is (ds : List PyData) : loopD (Str.ofString "") ds = (ds.all nmD && ascD (keysL ds)) := by
  by_cases h : ds.all nmD = true
  · rw [loop_from ds _ h, h, Bool.true_and]
    match ds, h with
    | [], _ => rfl
    | e :: r, h =>
      have h1 : nmD e = true := List.all_eq_true.mp h e List.mem_cons_self
      obtain ⟨x, b, rfl, hx⟩ := named_is h1
      simp only [nameD, Bool.and_eq_true, decide_eq_true_eq] at hx
      have hne : x.cps.toList ≠ [] := fun z => by
        have h0 : x.length = x.cps.toList.length := Array.length_toList.symm
        rw [z] at h0
        have := hx.1.1
        rw [h0] at this
        exact absurd this (by decide)
      have e0 : (Str.ofString "").cps.toList = [] := by decide +kernel
      have lt : (Str.ofString "").cps.toList < x.cps.toList := by
        rw [e0]
        cases z : x.cps.toList with
        | nil => exact absurd z hne
        | cons a r => exact List.nil_lt_cons a r
      show (decide ((Str.ofString "").cps.toList < x.cps.toList) && _) = _
      rw [decide_eq_true lt, Bool.true_and]
  · rw [Bool.eq_false_iff.mpr h, Bool.false_and]
    exact Bool.eq_false_iff.mpr fun z => h (loop_named ds _ z)
/-- what one part of a node must be -/
def partD (p : PyData) : Bool := namedD p && ascD (keysL (itemsD p))
theorem part_tup (ds : List PyData) : partD (.tuple ds) = loopD (Str.ofString "") ds := (loop_is ds).symm
theorem treeD_parts {n : Nat} {p c : PyData} : treeD (n + 1) (.tuple [p, c]) = ((partD p && partD c) && (((itemsD p).all fun e => valueD (sndD e)) && ((itemsD c).all fun e => treeD n (sndD e)))) := by
  show ((namedD p && namedD c) && ((ascD (keysL (itemsD p)) && ascD (keysL (itemsD c))) && _)) = _
  unfold partD
  cases namedD p <;> cases namedD c <;> simp
/-! ### the shape of a tree: props and children are tuples of pairs, level by level -/
def shD : Nat → PyData → Bool
  | 0, _ => false
  | n + 1, .tuple [.tuple ps, .tuple cs] => ps.all pairD && (cs.all pairD && cs.all fun e => shD n (sndD e))
  | _ + 1, _ => false
theorem sh_is {n : Nat} {d : PyData} (h : shD (n + 1) d = true) : ∃ ps cs, d = .tuple [.tuple ps, .tuple cs] ∧ ps.all pairD = true ∧ cs.all pairD = true ∧ ∀ e ∈ cs, shD n (sndD e) = true := by
  unfold shD at h
  split at h
  · cases ‹_ + 1 = 0›
  · rename_i m ps cs e
    obtain rfl := Nat.succ.inj e
    rw [Bool.and_eq_true, Bool.and_eq_true] at h
    exact ⟨ps, cs, rfl, h.1, h.2.1, fun e he => List.all_eq_true.mp h.2.2 e he⟩
  · cases h
theorem sh_mk {n : Nat} {ps cs : List PyData} (h1 : ps.all pairD = true) (h2 : cs.all pairD = true) (h3 : ∀ e ∈ cs, shD n (sndD e) = true) : shD (n + 1) (.tuple [.tuple ps, .tuple cs]) = true := by
  show (ps.all pairD && (cs.all pairD && cs.all fun e => shD n (sndD e))) = true
  rw [h1, h2, List.all_eq_true.mpr h3]
  rfl
theorem sh_mono : ∀ {n : Nat} {d : PyData}, shD n d = true → shD (n + 1) d = true
  | 0, _, h => by cases h
  | n + 1, d, h => by
    obtain ⟨ps, cs, rfl, h1, h2, h3⟩ := sh_is h
    exact sh_mk h1 h2 fun e he => sh_mono (h3 e he)
theorem sh_more {n : Nat} {d : PyData} (k : Nat) (h : shD n d = true) : shD (n + k) d = true := by
  induction k with
  | zero => exact h
  | succ k ih => exact sh_mono ih
theorem pairs_of {ds : List PyData} (h : ds.all nmD = true) : ds.all pairD = true := by
  rw [List.all_eq_true] at h ⊢
  intro e he
  have := h e he
  unfold nmD at this
  rw [Bool.and_eq_true] at this
  exact this.1
theorem under_sh {n : Nat} {p c : PyData} {x : Str} (hp : partD p = true) : shD (n + 1) (.tuple [p, .tuple [.tuple [.str x, c]]]) = shD n c := by
  unfold partD at hp
  rw [Bool.and_eq_true] at hp
  obtain ⟨ps, rfl⟩ := named_tup hp.1
  have h1 : ps.all pairD = true := pairs_of hp.1
  show (ps.all pairD && (([PyData.tuple [.str x, c]] : List PyData).all pairD && ([PyData.tuple [.str x, c]] : List PyData).all fun e => shD n (sndD e))) = _
  rw [h1]
  simp [pairD, sndD]
end Vn

set_option Elab.async false
set_option linter.all false
set_option maxRecDepth 100000
set_option maxHeartbeats 4000000
/-! Vn: lists of drawn things by a list that is walked; a list beside the stream. -/
namespace Vn
open PySem PySem.Spec PyProof.Rows L2
/-- item by item -/
inductive All2 (R : V → PyData → Prop) : List V → List PyData → Prop
  | nil : All2 R [] []
  | cons {x : V} {d : PyData} {xs : List V} {ds : List PyData} : R x d → All2 R xs ds → All2 R (x :: xs) (d :: ds)
theorem All2.snoc {R : V → PyData → Prop} {x : V} {d : PyData} : ∀ {xs : List V} {ds : List PyData}, All2 R xs ds → R x d → All2 R (xs ++ [x]) (ds ++ [d])
  | _, _, .nil, h => .cons h .nil
  | _, _, .cons a r, h => .cons a (r.snoc h)
theorem All2.len {R : V → PyData → Prop} : ∀ {xs : List V} {ds : List PyData}, All2 R xs ds → ds.length = xs.length
  | _, _, .nil => rfl
  | _, _, .cons _ r => congrArg (· + 1) r.len
theorem All2.mem {R : V → PyData → Prop} {d : PyData} : ∀ {xs : List V} {ds : List PyData}, All2 R xs ds → d ∈ ds → ∃ x, R x d
  | _, _, .nil, h => nomatch h
  | _, _, .cons a r, h => by
    cases h with
    | head => exact ⟨_, a⟩
    | tail _ m => exact r.mem m
/-- [elt for x in xs if test], test and elt may draw -/
theorem lc_draw {K : PySem.W.Frag} {S C D a : Addr} {n k j : Nat} {xs : List V} {R : V → PyData → Prop} {tt : TT} {te : TE} {own : List Nat} {σ : L2.St} {H : Hp} {Qd : Hp → Prop}
    (st : Strm S C n H) (nD : H D = none) (aS : a ≠ S) (aC : a ≠ C) (ha : H a = some (.lst xs)) (hw : ∀ v, wipe ((wipe σ own).set j v) own = wipe σ own) (hx : xs.length ≤ 100000)
    (elt : ∀ (i : Nat) (x : V) (H3 : Hp) (q : VK) (q0 : Hp → Prop), xs[i]? = some x → Strm S C (n + i * k) H3 →
      (∀ (v : V) (d : PyData) (H4 : Hp), Dp K (newp H3 H4) v d → R x d → Strm S C (n + i * k + k) H4 → Fr S C H3 H4 → q v H4) →
      (∀ H4, Strm S C (n + i * k + k) H4 → Fr S C H3 H4 → q0 H4) →
      tt ((wipe σ own).set j (some x)) H3 fun b H4 => if b = true then te ((wipe σ own).set j (some x)) H4 q else q0 H4)
    (done : ∀ (H' : Hp) (vs : List V) (ds : List PyData) (ys : List V), H' D = some (.lst vs) → DpAll K (newp (L2.upd H D (.lst [])) H') vs ds → ys.Sublist xs → All2 R ys ds → Strm S C (n + xs.length * k) H' → Fr S C H H' → Qd H') :
    ∃ W : Nat → Nat → Hp → Prop, (∃ z, W 0 z (L2.upd H D (.lst []))) ∧ ∀ i z H, W i z H → ((Itl K a).stop i H ∧ Qd H) ∨
      ((Itl K a).go i H ∧ ∃ N : Hp → Prop, (∀ H', N H' → ∃ z', z' < z ∧ W (i + 1) z' H') ∧ ∀ x H', (Itl K a).yld i H x H' →
        gName j x (wipe σ own) H' fun σ2 H2 => wipe σ2 own = wipe σ own ∧ tt σ2 H2 fun b H3 =>
          if b = true then te σ2 H3 fun y H4 => ∃ acc, H4 D = some (.lst acc) ∧ acc.length < sizeLine ∧ N (L2.upd H4 D (.lst (acc ++ [y]))) else N H3) := by
  have neS := st.neS nD
  have neC := st.neC nD
  have tr : (L2.upd H D (.lst [])) D ≠ none := by rw [upd_same]; exact Option.some_ne_none _
  have aD : a ≠ D := ne_of_none ha nD
  refine lc_list (xs := xs) (fun i H' => ∃ (vs : List V) (ds : List PyData) (ys : List V), H' D = some (.lst vs) ∧ H' a = some (.lst xs) ∧ DpAll K (newp (L2.upd H D (.lst [])) H') vs ds ∧ ys.Sublist (xs.take i) ∧ All2 R ys ds ∧ Strm S C (n + i * k) H' ∧ Fr S C H H' ∧ Ext (L2.upd H D (.lst [])) H')
    ⟨[], [], [], upd_same, (upd_ne aD).trans ha, .nil, .slnil, .nil, by rw [Nat.zero_mul, Nat.add_zero]; exact st.lay nD _, Fr.lay nD _, fun _ h => h⟩ (fun i H' _ p => by
      obtain ⟨vs, ds, ys, _, e, _⟩ := p
      exact SqL.of e) ?_ ?_
  · rintro i x H3 hx' ⟨vs, ds, ys, e, ea, dp, hs, hR, s3, f3, x3⟩
    have hi := (List.getElem?_eq_some_iff.mp hx').1
    have lds : ds.length ≤ i := by
      rw [hR.len]
      have := hs.length_le
      rw [List.length_take] at this
      omega
    refine ⟨hw _, elt i x H3 _ _ hx' s3 (fun v d H4 hv hd s4 f4 => ?_) (fun H4 s4 f4 => ?_)⟩
    · have e4 : H4 D = some (.lst vs) := cut_keep f4 neS neC e
      refine ⟨vs, e4, ?_, vs ++ [v], ds ++ [d], ys ++ [x], upd_same, (upd_ne aD).trans (cut_keep f4 aS aC ea), ?_, ?_, hR.snoc hd, ?_, ?_, ?_⟩
      · rw [DpAll_len dp]
        exact Nat.lt_of_le_of_lt (show ds.length ≤ 100000 by omega) (by decide)
      · exact DpAll_snoc (DpAll_mono ((newp_fr (st.lay nD _) f4).trans (newp_upd tr)) dp) (Dp_mono ((newp_left x3).trans (newp_upd tr)) hv)
      · rw [take_snoc hx']
        exact hs.append (List.Sublist.refl _)
      · rw [Nat.succ_mul, ← Nat.add_assoc]
        exact s4.upd neS neC _
      · exact Fr.upd (f3.trans f4) nD
      · exact (x3.trans (Fr.ext s4 f4)).trans Ext.upd
    · refine ⟨vs, ds, ys, cut_keep f4 neS neC e, cut_keep f4 aS aC ea, DpAll_mono (newp_fr (st.lay nD _) f4) dp, ?_, hR, ?_, f3.trans f4, x3.trans (Fr.ext s4 f4)⟩
      · rw [take_snoc hx']
        exact hs.trans (List.sublist_append_left _ _)
      · rw [Nat.succ_mul, ← Nat.add_assoc]
        exact s4
  · rintro H' ⟨vs, ds, ys, e, ea, dp, hs, hR, s3, f3, x3⟩
    rw [List.take_of_length_le (Nat.le_refl _)] at hs
    exact done H' vs ds ys e dp hs hR s3 f3
/-- names in order -/
theorem asc_of : ∀ ss : List Str, ss.Pairwise (fun a b => a.cps.toList < b.cps.toList) → ascD ss = true
  | [], _ => rfl
  | [_], _ => rfl
  | x :: y :: r, h => by
    rw [List.pairwise_cons] at h
    show (decide (x.cps.toList < y.cps.toList) && ascD (y :: r)) = true
    rw [decide_eq_true (h.1 y List.mem_cons_self), asc_of (y :: r) h.2]
    rfl
def vStr : V → Str
  | .str x => x
  | _ => ⟨#[]⟩
/-- pairs that stand for names in order -/
theorem part_of {R : V → PyData → Prop} {xs ys : List V} {ds : List PyData} (hs : ys.Sublist xs) (hR : All2 R ys ds) (ho : (xs.map vStr).Pairwise (fun a b => a.cps.toList < b.cps.toList))
    (hp : ∀ x d, R x d → nmD d = true ∧ strD (fstD d) = vStr x) : partD (.tuple ds) = true := by
  have h1 : ds.all nmD = true := List.all_eq_true.mpr fun d hd => by
    obtain ⟨x, hx⟩ := hR.mem hd
    exact (hp x d hx).1
  have h2 : keysL ds = ys.map vStr := by
    clear hs h1
    induction hR with
    | nil => rfl
    | cons a _ ih =>
      unfold keysL at ih ⊢
      rw [List.map_cons, List.map_cons, ih, (hp _ _ a).2]
  unfold partD
  show (ds.all nmD && ascD (keysL ds)) = true
  rw [h1, h2, asc_of _ (ho.sublist (hs.map vStr))]
  rfl
/-- some names: texts of at most 8 letters -/
def okNames (m : Nat) (ys : List Str) : Prop := ys.length ≤ m ∧ ∀ y ∈ ys, y.length ≤ 8 ∧ azStr y
def spSome : Sp := fun vs H Q _ => ∃ (S C : Addr) (n m : Nat), vs = [.ref S, .int (m : Int)] ∧ m ≤ 50 ∧ Strm S C n H ∧ n + m * 9 ≤ 20000000 ∧
  ∀ (p : Addr) (ys : List Str) (H' : Hp), H p = none → H' p = some (.lst (ys.map V.str)) → okNames m ys → Strm S C (n + m * 9) H' → Fr S C H H' → Q (.ref p) H'
theorem flat_strs (ys : List Str) : (ys.map V.str).all flatV = true := by
  rw [List.all_map, List.all_eq_true]
  exact fun _ _ => rfl
/-! ### a list L beside the stream that is counted down -/
def Fr3 (S C L : Addr) (H H' : Hp) : Prop := ∀ a o, a ≠ S → a ≠ C → a ≠ L → H a = some o → H' a = some o
theorem Fr3.of {S C L : Addr} {H H' : Hp} (f : Fr S C H H') : Fr3 S C L H H' := fun a o h1 h2 _ h => cut_keep f h1 h2 h
theorem Fr3.trans {S C L : Addr} {H H1 H2 : Hp} (f : Fr3 S C L H H1) (g : Fr3 S C L H1 H2) : Fr3 S C L H H2 := fun a o h1 h2 h3 h => g a o h1 h2 h3 (f a o h1 h2 h3 h)
theorem Fr3.updL {S C L : Addr} {H : Hp} {o : HO} : Fr3 S C L H (L2.upd H L o) := fun a u _ _ h3 h => (upd_ne h3).trans h
theorem Fr3.upd {S C L p : Addr} {H H1 : Hp} {o : HO} (f : Fr3 S C L H H1) (np : H p = none) : Fr3 S C L H (L2.upd H1 p o) := fun a u h1 h2 h3 h => (upd_ne (ne_of_none h np)).trans (f a u h1 h2 h3 h)
theorem Fr3.drop {S C L : Addr} {H H' : Hp} (f : Fr3 S C L H H') (h : H L = none) : Fr S C H H' := fun a o q => by
  obtain ⟨h1, h2, h3⟩ := cut_some q
  rw [cut_in h1 h2]
  exact f a o h1 h2 (ne_of_none h3 h) h3
theorem Fr3.ext {S C L : Addr} {n : Nat} {u : HO} {H H' : Hp} (s : Strm S C n H') (e : H' L = some u) (f : Fr3 S C L H H') : Ext H H' := fun a h => by
  cases q : H a with
  | none => rfl
  | some o =>
    have h3 : a ≠ L := fun z => by
      rw [z, e] at h
      cases h
    rw [f a o (s.neS h) (s.neC h) h3 q] at h
    cases h
theorem newp_fr3 {S C L : Addr} {n : Nat} {H H1 H2 : Hp} (s : Strm S C n H) (hL : H L ≠ none) (f : Fr3 S C L H1 H2) : Same (newp H H1) (newp H H2) := fun a o h => by
  obtain ⟨h1, h2⟩ := newp_some h
  rw [newp_of h1]
  exact f a o (s.neS h1) (s.neC h1) (fun z => hL (by rw [← z]; exact h1)) h2
def kW : Nat → Nat
  | 0 => 210
  | m + 1 => 3 * kW m + 210
def bW : Nat → Nat
  | 0 => 10600
  | m + 1 => 3 * (bW m + 100) + 10200
def spWide (K : PySem.W.Frag) (m : Nat) : Sp := fun vs H Q _ => ∃ (S C L : Addr) (n : Nat) (z : Int), vs = [.ref S, .ref L, .int (m : Int)] ∧ Strm S C n H ∧ L ≠ S ∧ L ≠ C ∧ H L = some (.lst [.int z]) ∧ n + kW m ≤ 20000000 ∧
  ∀ (v : V) (d : PyData) (H' : Hp) (z' : Int), Dp K (newp H H') v d → Nice (5 + 3 * m) (bW m) d → shD (m + 1) d = true → Strm S C (n + kW m) H' → Fr3 S C L H H' → H' L = some (.lst [.int z']) → Q v H'
theorem az_name {x : Str} (h : azStr x) (h1 : 1 ≤ x.length) (h8 : x.length ≤ 8) : nameD (.str x) = true := by
  show (decide (1 ≤ x.length) && decide (x.length ≤ 8) && x.cps.toList.all fun c => decide (97 ≤ c) && decide (c ≤ 122)) = true
  rw [decide_eq_true h1, decide_eq_true h8, List.all_eq_true.mpr fun c hc => by rw [decide_eq_true (h c hc).1, decide_eq_true (h c hc).2]; rfl]
  rfl
theorem under_tree {n : Nat} {p c : PyData} {x : Str} (hp : partD p = true) (hv : (itemsD p).all (fun e => valueD (sndD e)) = true) (hx : nameD (.str x) = true) :
    treeD (n + 1) (.tuple [p, .tuple [.tuple [.str x, c]]]) = treeD n c := by
  have h2 : partD (.tuple [.tuple [.str x, c]]) = true := by
    unfold partD
    show (([PyData.tuple [.str x, c]] : List PyData).all nmD && ascD (keysL [.tuple [.str x, c]])) = true
    have : nmD (.tuple [.str x, c]) = true := hx
    simp [this, keysL, ascD]
  rw [treeD_parts, hp, hv, h2]
  simp [itemsD, sndD]
/-- _law_under(stream, part, levels) -/
def spUnder (K : PySem.W.Frag) : Sp := fun vs H Q _ => ∃ (S C : Addr) (n m nb dd bb : Nat) (B : Hp) (v : V) (d : PyData), vs = [.ref S, v, .int (m : Int)] ∧ m ≤ 8 ∧ Strm S C n H ∧ n + m * 230 ≤ 20000000 ∧ Strm S C nb B ∧ Ext B H ∧ Dp K (newp B H) v d ∧ Nice dd bb d ∧ 2 ≤ dd ∧
  ∀ (v' : V) (d' : PyData) (H' : Hp), Dp K (newp B H') v' d' → Nice (dd + 3 * m) (bb + m * 13300) d' → (∀ j, treeD (j + m) d' = treeD j d) → (∀ j, shD (j + m) d' = shD j d) → Strm S C (n + m * 230) H' → Fr S C H H' → Q v' H'
end Vn

set_option Elab.async false
set_option linter.all false
set_option maxRecDepth 100000
set_option maxHeartbeats 4000000
/-! Vn: t[::-1] of a tuple; slices and sums of drawn tuples. -/
namespace Vn
open PySem PySem.Spec PyProof.Rows L2 HT
section
variable {prog : Program} {w : World} {A : Around} {E : Value → Shared → Prop} {s : Shared}
theorem adjust_rev (n : Nat) : Builtin.Slice.sliceAdjust none none (-1) (n : Int) = ((n : Int) - 1, -1) := rfl
theorem places_rev (n : Nat) : Builtin.Slice.slicePlaces ((n : Int) - 1) (-1) (-1) = n := by
  unfold Builtin.Slice.slicePlaces
  have h1 : ¬ ((-1 : Int) > 0) := by decide
  simp only [h1, if_false]
  rw [show (- -1 : Int) = 1 by decide, Int.ediv_one]
  split <;> omega
theorem sliceApplied_rev {sl : Addr} {vl vu vs : Value} {n : Nat} {Q : Int × Int × Nat → Shared → Prop} (hs : s.heap.IsSliceOf sl vl vu vs) (pl : IsPart vl none) (pu : IsPart vu none) (ps : IsPart vs (some (-1)))
    (h : Q ((n : Int) - 1, -1, n) s) : wpAny (model prog w) A (Builtin.Slice.sliceApplied (.ref sl) (pure (n : Int))) Q E s := by
  obtain ⟨os, hos, hcs, hds⟩ := id hs
  unfold Builtin.Slice.sliceApplied Builtin.Slice.sliceFields
  refine wpAny_bind (wpAny_bind (wpAny_field hos hds (x := vl) rfl (wpAny_bind (wpAny_field hos hds (x := vu) rfl (wpAny_bind (wpAny_field hos hds (x := vs) rfl (wpAny_pure ?_)))))))
  refine wpAny_bind (slicePart_ ps ?_)
  show wpAny _ _ (if ((-1 : Int) == 0) = true then _ else _) _ _ s
  rw [if_neg (by decide)]
  refine wpAny_bind (slicePart_ pl (wpAny_bind (slicePart_ pu (wpAny_bind (wpAny_pure ?_)))))
  show wpAny _ _ (match Builtin.Slice.sliceAdjust none none (-1) (n : Int) with | (lo, hi) => pure (lo, (-1 : Int), Builtin.Slice.slicePlaces lo hi (-1))) _ _ s
  rw [adjust_rev n]
  show wpAny _ _ (pure ((n : Int) - 1, (-1 : Int), Builtin.Slice.slicePlaces ((n : Int) - 1) (-1) (-1))) _ _ s
  rw [places_rev]
  exact wpAny_pure h
theorem fm_congr {α β : Type} {f g : α → Option β} : ∀ {l : List α}, (∀ a ∈ l, f a = g a) → l.filterMap f = l.filterMap g
  | [], _ => rfl
  | a :: l, h => by rw [List.filterMap_cons, List.filterMap_cons, h a (.head _), fm_congr fun b hb => h b (.tail _ hb)]
theorem pick_rev (xs : Array Value) : ((List.range xs.size).filterMap fun (m : Nat) => xs[(((xs.size : Nat) : Int) - 1 + (m : Int) * -1).toNat]?).toArray = xs.toList.reverse.toArray := by
  have e : (List.range xs.size).filterMap (fun m : Nat => xs[(((xs.size : Nat) : Int) - 1 + (m : Int) * -1).toNat]?) = ((List.range xs.size).map fun k => xs.size - 1 - k).filterMap (xs[·]?) := by
    rw [List.filterMap_map]
    refine fm_congr fun m hm => ?_
    have := List.mem_range.mp hm
    show xs[(((xs.size : Nat) : Int) - 1 + (m : Int) * -1).toNat]? = xs[xs.size - 1 - m]?
    rw [show (((xs.size : Nat) : Int) - 1 + (m : Int) * -1).toNat = xs.size - 1 - m by omega]
  rw [e, PySem.W.krv_range, List.filterMap_reverse, PySem.W.krv_all]
theorem getItem_tuple_rev {t sl : Addr} {items : Array Value} {vl vu vs : Value} {Q : Value → Shared → Prop} (ht : IsTup s.heap t items) (hs : s.heap.IsSliceOf sl vl vu vs) (pl : IsPart vl none) (pu : IsPart vu none) (ps : IsPart vs (some (-1)))
    (h : Q (.ref s.heap.objs.size) { s with heap := s.heap.push { cls := .type "tuple", data := .seq items.toList.reverse.toArray } })
    (hsz : items.size ≤ sizeLine) : wpAny (model prog w) A (getItem (.ref t) (.ref sl)) Q E s := by
  have htake : sizeOk (.seq items.toList.reverse.toArray) := by
    show items.toList.reverse.toArray.size ≤ sizeLine
    rw [List.size_toArray, List.length_reverse, Array.length_toList]
    exact hsz
  obtain ⟨os, hos, hcs, hds⟩ := id hs
  have hTs : s.TypeIs (.ref sl) "slice" := ⟨os, hos, hcs⟩
  unfold getItem
  try with_reducible refine wpAny_holding ?_
  first | refine wpAny_bind (wpAny_pure ?_) | skip
  refine wpAny_bind (wpAny_sequenceKey ht.typeIs (by decide) ?_)
  refine wpAny_bind (wpAny_callSpecial?_slot (name := Str.ofString "__getitem__") ht.typeIs PyProof.Rows.slot_tuple_getitem
    (wpAny_call_entry PyProof.Rows.slot_tuple_getitem ht.typeIs entry_tuple_getitem ?_ (args_tuple_getitem _ _)))
  show wpAny _ _ (Builtin.Tuple.tupleItemsOf (.ref t) >>= _) _ _ s
  refine wpAny_bind (tupleItemsOf_ ht ?_)
  refine wpAny_bind (wpAny_typeOf hTs ?_)
  rw [if_pos (by decide)]
  refine wpAny_bind (sliceApplied_rev hs pl pu ps ?_)
  have hno : ¬ (((((items.size : Nat) : Int) - 1) == 0 && (-1 : Int) == 1 && (items.size == items.size)) = true) := by
    intro q
    rw [Bool.and_eq_true, Bool.and_eq_true] at q
    exact absurd (eq_of_beq q.1.2) (by decide)
  show wpAny _ _ (if ((((items.size : Nat) : Int) - 1) == 0 && (-1 : Int) == 1 && (items.size == items.size)) = true then _ else _) _ _ s
  rw [if_neg hno, pick_rev]
  first
    | exact wpAny_bind (m := Builtin.Tuple.tupleExact _) (wpAny_newObj_type (wpAny_pure ⟨_, rfl, wpAny_pure h⟩) htake)
    | exact wpAny_bind (m := Builtin.Tuple.tupleExact _) (wpAny_newObj_type (wpAny_bind (wpAny_pure (wpAny_pure ⟨_, rfl, wpAny_pure h⟩))) htake)
    | exact wpAny_bind (wpAny_bind (m := Builtin.Tuple.tupleExact _) (wpAny_newObj_type (wpAny_pure (wpAny_pure ⟨_, rfl, wpAny_pure h⟩)) htake))
    | exact wpAny_bind (wpAny_bind (m := Builtin.Tuple.tupleExact _) (wpAny_newObj_type (wpAny_pure ⟨_, rfl, wpAny_pure h⟩) htake))
end
def tRevT (K : PySem.W.Frag) (te : TE) : TE := fun σ H Q => te σ H fun x H1 => ∃ a xs, x = .ref a ∧ SqT K H1 a xs ∧ xs.length ≤ sizeLine ∧ ∀ p, H1 p = none → Q (.ref p) (L2.upd H1 p (.tup xs.reverse))
theorem pe_revT {X : Cx} {K : PySem.W.Frag} {e : Expr} {te : TE} {k : Nat} {p1 p2 p3 pos : Pos} (he : PE X e te) (hK : X.K = K := by rfl) : PE X (.Subscript e (.Slice none none (some (.UnaryOp .USub (.Constant (.int 1) k p1) p2)) p3) pos) (tRevT K te) := by
  subst hK
  refine ⟨fun pins s σ H Q I h => ?_⟩
  refine Subscript_ (thn (he.run pins s σ H _ I h) fun v s1 ⟨x, H1, I1, r1, q1⟩ => ?_)
  obtain ⟨a, xs, ex, hx, hz0, q⟩ := q1
  subst ex
  cases r1
  have hst : PO X (some (.UnaryOp .USub (.Constant (.int 1) k p1) p2)) (tPart (tUn (rU fun i => .int (-i)) (tC (.int 1)))) := po_some (pe_un un_neg pe_int)
  refine wpAny_Slice (thn (po_none.run pins s1 σ H1 (fun o H2 => o = none ∧ H2 = H1) I1 ⟨rfl, rfl⟩) fun vl s2 ⟨l, H2, I2, pl, el, e2⟩ => ?_)
  subst el e2
  refine thn (po_none.run pins s2 σ H2 (fun o H3 => o = none ∧ H3 = H2) I2 ⟨rfl, rfl⟩) fun vu s3 ⟨u, H3, I3, pu, eu, e3⟩ => ?_
  subst eu e3
  refine thn (hst.run pins s3 σ H3 (fun o H4 => o = some (-1) ∧ H4 = H3) I3 ⟨1, rfl, -1, rfl, rfl, rfl⟩) fun vs s4 ⟨o, H4, I4, ps, eo, e4⟩ => ?_
  subst eo e4
  have I5 : Inv X pins σ H4 { s4 with heap := s4.heap.push { cls := .type "slice", data := .fields #[vl, vu, vs] } } := I4.kept (t' := s4.toks) fun b ob q => Heap.get?_push_of_some _ q
  obtain ⟨its, r, ht, hz⟩ := I5.tuple hx
  have hlen := r.length
  show wpAny (model X.prog X.w) X.A (subscriptTail e (.Slice none none (some (.UnaryOp .USub (.Constant (.int 1) k p1) p2)) p3) (.ref a) (.ref s4.heap.objs.size)) (EP X pins σ Q) X.xe { s4 with heap := s4.heap.push { cls := .type "slice", data := .fields #[vl, vu, vs] } }
  refine tail_any (ops := [.ref a, .ref s4.heap.objs.size]) ht.typeIs (PyProof.Rows.slot_tuple_getitem.lookup) ?_ (by with_unfolding_all rfl)
  refine getItem_tuple_rev ht (Heap.IsSliceOf.new _ vl vu vs) pl pu ps ?_ (by rw [List.size_toArray]; omega)
  refine ⟨.ref _, _, I5.laid (t' := s4.toks) (o := .tup xs.reverse) (fun b ob q => Heap.get?_push_of_some _ q) (Nat.le_refl _) ?_, rfl, q _ (I5.hok.fresh (Nat.le_refl _))⟩
  refine ⟨by rw [List.length_reverse]; exact hz0, its.toArray.toList.reverse, r.reverse, ?_⟩
  exact IsTup.new _ _
section
variable {K : PySem.W.Frag} {X : Cx}
theorem slA (h : X.K = K := by rfl) : SlR X (rSlA K) := by subst h; exact sl_tupA
theorem caA (h : X.K = K := by rfl) : OpR X (binaryOp .Add) (rCatA K) := by subst h; exact op_catA
end
/-- [elt for x in xs]: elt makes a thing new against G, without drawing; D, the new list, is no part of what is new against G -/
theorem lc_base {K : PySem.W.Frag} {S C D a : Addr} {n nG j : Nat} {xs : List V} {G : Hp} {R : PyData → Prop} {te : TE} {own : List Nat} {σ : L2.St} {H : Hp} {Qd : Hp → Prop}
    (st : Strm S C n H) (nD : H D = none) (sG : Strm S C nG G) (gD : G D ≠ none) (xG : Ext G (L2.upd H D (.lst []))) (aS : a ≠ S) (aC : a ≠ C) (ha : H a = some (.lst xs)) (hw : ∀ v, wipe ((wipe σ own).set j v) own = wipe σ own) (hx : xs.length ≤ 100000)
    (elt : ∀ (i : Nat) (x : V) (H3 : Hp) (q : VK), xs[i]? = some x → Strm S C n H3 → Fr S C H H3 → Ext G H3 →
      (∀ (v : V) (d : PyData) (H4 : Hp), Dp K (newp G H4) v d → R d → Strm S C n H4 → Fr S C H3 H4 → q v H4) →
      te ((wipe σ own).set j (some x)) H3 q)
    (done : ∀ (H' : Hp) (vs : List V) (ds : List PyData), H' D = some (.lst vs) → DpAll K (newp G H') vs ds → ds.length = xs.length → (∀ d ∈ ds, R d) → Strm S C n H' → Fr S C H H' → Ext G H' → Qd H') :
    ∃ W : Nat → Nat → Hp → Prop, (∃ z, W 0 z (L2.upd H D (.lst []))) ∧ ∀ i z H, W i z H → ((Itl K a).stop i H ∧ Qd H) ∨
      ((Itl K a).go i H ∧ ∃ N : Hp → Prop, (∀ H', N H' → ∃ z', z' < z ∧ W (i + 1) z' H') ∧ ∀ x H', (Itl K a).yld i H x H' →
        gName j x (wipe σ own) H' fun σ2 H2 => wipe σ2 own = wipe σ own ∧ tYes σ2 H2 fun b H3 =>
          if b = true then te σ2 H3 fun y H4 => ∃ acc, H4 D = some (.lst acc) ∧ acc.length < sizeLine ∧ N (L2.upd H4 D (.lst (acc ++ [y]))) else N H3) := by
  have neS := st.neS nD
  have neC := st.neC nD
  have aD : a ≠ D := ne_of_none ha nD
  refine lc_list (xs := xs) (fun i H' => ∃ (vs : List V) (ds : List PyData), H' D = some (.lst vs) ∧ H' a = some (.lst xs) ∧ DpAll K (newp G H') vs ds ∧ ds.length = i ∧ (∀ d ∈ ds, R d) ∧ Strm S C n H' ∧ Fr S C H H' ∧ Ext G H')
    ⟨[], [], upd_same, (upd_ne aD).trans ha, .nil, rfl, (fun d hd => nomatch hd), st.lay nD _, Fr.lay nD _, xG⟩ (fun i H' _ p => by
      obtain ⟨vs, ds, _, e, _⟩ := p
      exact SqL.of e) ?_ ?_
  · rintro i x H3 hx' ⟨vs, ds, e, ea, dp, hl, hR, s3, f3, x3⟩
    have hi := (List.getElem?_eq_some_iff.mp hx').1
    refine ⟨hw _, ?_⟩
    unfold tYes
    refine iteT (elt i x H3 _ hx' s3 f3 x3 fun v d H4 hv hd s4 f4 => ?_)
    have e4 : H4 D = some (.lst vs) := cut_keep f4 neS neC e
    refine ⟨vs, e4, ?_, vs ++ [v], ds ++ [d], upd_same, (upd_ne aD).trans (cut_keep f4 aS aC ea), ?_, ?_, ?_, ?_, ?_, ?_⟩
    · rw [DpAll_len dp]
      exact Nat.lt_of_le_of_lt (show ds.length ≤ 100000 by omega) (by decide)
    · exact DpAll_snoc (DpAll_mono ((newp_fr sG f4).trans (newp_upd gD)) dp) (Dp_mono (newp_upd gD) hv)
    · rw [List.length_append, hl]; rfl
    · intro d' hd'
      rcases List.mem_append.mp hd' with h | h
      · exact hR d' h
      · rw [List.mem_singleton.mp h]; exact hd
    · exact s4.upd neS neC _
    · exact Fr.upd (f3.trans f4) nD
    · exact (x3.trans (Fr.ext s4 f4)).trans Ext.upd
  · rintro H' ⟨vs, ds, e, ea, dp, hl, hR, s3, f3, x3⟩
    exact done H' vs ds e dp hl hR s3 f3 x3
/-! ### t + u, t[lo:hi] of drawn tuples -/
/-- t + u: the new tuple, or the one that is not empty -/
theorem cat_by {K : PySem.W.Frag} {B H : Hp} {x y : V} {ds es : List PyData} {Q : VK} (xB : Ext B H) (hx : Dp K (newp B H) x (.tuple ds)) (hy : Dp K (newp B H) y (.tuple es)) (hz : ds.length + es.length ≤ sizeLine)
    (q : ∀ (v : V) (H' : Hp), Dp K (newp B H') v (.tuple (ds ++ es)) → Same H H' → Q v H') : rCatA K x y H Q := by
  cases hx with
  | @tup _ xs _ sx hx =>
  cases hy with
  | @tup _ ys _ sy hy =>
  have lx := DpAll_len hx
  have ly := DpAll_len hy
  refine ⟨_, _, _, _, rfl, rfl, Same.seqT newp_same sx, Same.seqT newp_same sy, by rw [lx, ly]; exact hz, fun e => ?_, fun _ e => ?_, fun _ _ p np => ?_⟩
  · subst e
    cases hx
    exact q _ _ (.tup sy hy) fun _ _ h => h
  · subst e
    cases hy
    exact q _ _ (by rw [List.append_nil]; exact .tup sx hx) fun _ _ h => h
  · have w := same_new np (.tup (xs ++ ys))
    exact q _ _ (new_tup (xB p np) upd_same (DpAll_append (DpAll_mono (newp_right w) hx) (DpAll_mono (newp_right w) hy))) w
theorem sIx_nat (n d i : Nat) : HT.sIx n d (some (i : Int)) = min i n := by
  show (if ((i : Nat) : Int) < 0 then (((i : Nat) : Int) + (n : Int)).toNat else min ((i : Nat) : Int).toNat n) = min i n
  rw [if_neg (by omega), Int.toNat_natCast]
theorem sIx_no (n d : Nat) : HT.sIx n d none = d := rfl
theorem cutV_to {i : Nat} (xs : List V) : cutV xs none (some (i : Int)) = xs.take i := by
  unfold cutV
  rw [sIx_nat, sIx_no, List.drop_zero, Nat.sub_zero]
  by_cases h : i ≤ xs.length
  · rw [Nat.min_eq_left h]
  · rw [Nat.min_eq_right (by omega), List.take_of_length_le (Nat.le_refl _), List.take_of_length_le (by omega)]
theorem cutV_from {i : Nat} (xs : List V) : cutV xs (some (i : Int)) none = xs.drop i := by
  unfold cutV
  rw [sIx_nat, sIx_no]
  by_cases h : i ≤ xs.length
  · rw [Nat.min_eq_left h, List.take_of_length_le (by rw [List.length_drop]; exact Nat.le_refl _)]
  · rw [Nat.min_eq_right (by omega), Nat.sub_self, List.take_zero, List.drop_of_length_le (by omega)]
theorem cutV_mid {i k : Nat} (xs : List V) (hi : i ≤ xs.length) (hk : k ≤ xs.length) : cutV xs (some (i : Int)) (some (k : Int)) = (xs.drop i).take (k - i) := by
  unfold cutV
  rw [sIx_nat, sIx_nat, Nat.min_eq_left hi, Nat.min_eq_left hk]
/-- the slice of a drawn tuple: what the cut list says -/
theorem cut_by {K : PySem.W.Frag} {B H : Hp} {x : V} {ds : List PyData} {lo hi : Option Int} {es : List PyData} {Q : VK} (xB : Ext B H) (hx : Dp K (newp B H) x (.tuple ds))
    (he : ∀ (xs : List V) (H' : Hp), DpAll K H' xs ds → DpAll K H' (cutV xs lo hi) es) (hwhole : HT.sIx ds.length 0 lo = 0 ∧ HT.sIx ds.length ds.length hi = ds.length → es = ds)
    (q : ∀ (v : V) (H' : Hp), Dp K (newp B H') v (.tuple es) → Same H H' → Q v H') : rSlA K x lo hi H Q := by
  cases hx with
  | @tup _ xs _ sx hx =>
  have lx := DpAll_len hx
  refine ⟨_, _, rfl, Same.seqT newp_same sx, fun e => ?_, fun _ p np => ?_⟩
  · rw [lx] at e
    rw [hwhole e] at q
    exact q _ _ (.tup sx hx) fun _ _ h => h
  · have w := same_new np (.tup (cutV xs lo hi))
    exact q _ _ (new_tup (xB p np) upd_same (he _ _ (DpAll_mono (newp_right w) hx))) w
theorem take_by {K : PySem.W.Frag} {B H : Hp} {x : V} {ds : List PyData} {i : Nat} {Q : VK} (xB : Ext B H) (hx : Dp K (newp B H) x (.tuple ds))
    (q : ∀ (v : V) (H' : Hp), Dp K (newp B H') v (.tuple (ds.take i)) → Same H H' → Q v H') : rSlA K x none (some (i : Int)) H Q :=
  cut_by xB hx (fun xs H' h => by rw [cutV_to]; exact DpAll_take i h) (fun ⟨_, e⟩ => by
    rw [sIx_nat] at e
    exact List.take_of_length_le (by omega)) q
theorem drop_by {K : PySem.W.Frag} {B H : Hp} {x : V} {ds : List PyData} {i : Nat} {Q : VK} (xB : Ext B H) (hx : Dp K (newp B H) x (.tuple ds)) (hi : i ≤ ds.length)
    (q : ∀ (v : V) (H' : Hp), Dp K (newp B H') v (.tuple (ds.drop i)) → Same H H' → Q v H') : rSlA K x (some (i : Int)) none H Q :=
  cut_by xB hx (fun xs H' h => by rw [cutV_from]; exact DpAll_drop i h) (fun ⟨e, _⟩ => by
    rw [sIx_nat] at e
    have : ds.drop i = ds := by
      by_cases z : i = 0
      · rw [z, List.drop_zero]
      · have : ds.length = 0 := by omega
        rw [List.eq_nil_of_length_eq_zero this, List.drop_nil]
    exact this) q
theorem mid_by {K : PySem.W.Frag} {B H : Hp} {x : V} {ds : List PyData} {i k : Nat} {Q : VK} (xB : Ext B H) (hx : Dp K (newp B H) x (.tuple ds)) (hi : i ≤ ds.length) (hk : k ≤ ds.length)
    (q : ∀ (v : V) (H' : Hp), Dp K (newp B H') v (.tuple ((ds.drop i).take (k - i))) → Same H H' → Q v H') : rSlA K x (some (i : Int)) (some (k : Int)) H Q :=
  cut_by xB hx (fun xs H' h => by
      have l := DpAll_len h
      rw [cutV_mid xs (by omega) (by omega)]
      exact DpAll_take _ (DpAll_drop i h)) (fun ⟨e, e2⟩ => by
    rw [sIx_nat] at e e2
    have h2 : k = ds.length := by omega
    by_cases z : i = 0
    · rw [z, List.drop_zero, Nat.sub_zero, h2, List.take_of_length_le (Nat.le_refl _)]
    · have : ds.length = 0 := by omega
      rw [List.eq_nil_of_length_eq_zero this, List.drop_nil, List.take_nil]) q
theorem DpAll_rev {K : PySem.W.Frag} {H : Hp} : ∀ {ds : List PyData} {vs : List V}, DpAll K H vs ds → DpAll K H vs.reverse ds.reverse
  | _, _, .nil => .nil
  | _, _, .cons a r => by
    rw [List.reverse_cons, List.reverse_cons]
    exact DpAll_snoc (DpAll_rev r) a
theorem bigs_rev : ∀ ds : List PyData, bigs ds.reverse = bigs ds
  | [] => rfl
  | d :: ds => by
    rw [List.reverse_cons, bigs_append, bigs_rev ds]
    simp only [bigs]
    omega
theorem fines_rev : ∀ ds : List PyData, fines ds.reverse = fines ds
  | [] => rfl
  | d :: ds => by
    rw [List.reverse_cons, fines_append, fines_rev ds]
    simp only [fines, Bool.and_true]
    exact Bool.and_comm _ _
theorem depth_rev : ∀ ds : List PyData, PyData.depthAll ds.reverse = PyData.depthAll ds
  | [] => rfl
  | d :: ds => by
    rw [List.reverse_cons, depthAll_append, depth_rev ds]
    simp only [PyData.depthAll]
    omega
theorem Nices.rev {n b : Nat} {ds : List PyData} (h : Nices n b ds) : Nices n b ds.reverse := ⟨(fines_rev ds).trans h.fine, by rw [depth_rev]; exact h.depth, by rw [bigs_rev]; exact h.big⟩
/-- a list that is its own -/
def LivL (H : Hp) (v : V) (d : PyData) : Prop := ∀ ds, d = .list ds → ∃ a xs, v = .ref a ∧ H a = some (.lst xs) ∧ xs.length = ds.length
theorem LivL.mono {H H' : Hp} {v : V} {d : PyData} (e : Same H H') (h : LivL H v d) : LivL H' v d := fun ds z => by
  obtain ⟨a, xs, r, q, l⟩ := h ds z
  exact ⟨a, xs, r, e _ _ q, l⟩
theorem LivL.not {H : Hp} {v : V} {d : PyData} (h : isLst d = false) : LivL H v d := fun ds z => by
  rw [z] at h
  cases h
theorem LivL.lst {H : Hp} {a : Addr} {xs : List V} {ds : List PyData} (h : H a = some (.lst xs)) (l : xs.length = ds.length) : LivL H (.ref a) (.list ds) := fun _ e => by
  cases e
  exact ⟨a, xs, rfl, h, l⟩
inductive LivA (H : Hp) : List V → List PyData → Prop
  | nil : LivA H [] []
  | cons {v : V} {d : PyData} {vs : List V} {ds : List PyData} : LivL H v d → LivA H vs ds → LivA H (v :: vs) (d :: ds)
theorem LivA.mono {H H' : Hp} (e : Same H H') : ∀ {vs : List V} {ds : List PyData}, LivA H vs ds → LivA H' vs ds
  | _, _, .nil => .nil
  | _, _, .cons a r => .cons (a.mono e) (LivA.mono e r)
theorem LivA.append {H : Hp} : ∀ {vs us : List V} {ds es : List PyData}, LivA H vs ds → LivA H us es → LivA H (vs ++ us) (ds ++ es)
  | _, _, _, _, .nil, h => h
  | _, _, _, _, .cons a r, h => .cons a (LivA.append r h)
theorem LivA.nots {H : Hp} : ∀ {vs : List V} {ds : List PyData}, vs.length = ds.length → (∀ d ∈ ds, isLst d = false) → LivA H vs ds
  | [], [], _, _ => .nil
  | _ :: _, d :: _, h, n => .cons (.not (n d List.mem_cons_self)) (LivA.nots (Nat.succ.inj h) fun e he => n e (List.mem_cons_of_mem _ he))
  | [], _ :: _, h, _ => nomatch h
  | _ :: _, [], h, _ => nomatch h
theorem LivA.get {H : Hp} : ∀ {vs : List V} {ds : List PyData} {i : Nat} {v : V} {d : PyData}, LivA H vs ds → vs[i]? = some v → ds[i]? = some d → LivL H v d
  | _, _, 0, _, _, .cons a _, h1, h2 => by
    cases h1
    cases h2
    exact a
  | _, _, i + 1, _, _, .cons _ r, h1, h2 => LivA.get (i := i) r h1 h2
theorem DpAll_atL {K : PySem.W.Frag} {H : Hp} {ds : List PyData} {vs : List V} {r : Int} (h : DpAll K H vs ds) (L : LivA H vs ds) (h0 : 0 ≤ r) (h1 : r < (vs.length : Int)) :
    ∃ v d, atI vs r = some v ∧ d ∈ ds ∧ Dp K H v d ∧ LivL H v d := by
  have q : r.toNat < vs.length := by omega
  obtain ⟨d, hd, hv⟩ := DpAll_get _ h (List.getElem?_eq_getElem q)
  have e : r = ((r.toNat : Nat) : Int) := by omega
  have z : atI vs ((r.toNat : Nat) : Int) = some vs[r.toNat] := atI_nat (List.getElem?_eq_getElem q)
  rw [← e] at z
  exact ⟨vs[r.toNat], d, z, List.mem_of_getElem? hd, hv, L.get (List.getElem?_eq_getElem q) hd⟩
theorem some_liv {H : Hp} {p1 p2 p3 p4 : Addr} (n2 : H p2 = some (.lst [])) (n4 : H p4 = some (.lst [.str "a"])) :
    LivA H [V.non, V.bl true, V.bl false, V.int 0, V.int 1, V.int (-7), V.int (10 ^ 30 - 1), V.str "", V.str "link", V.str "a", V.str "on", V.ref p1, V.ref p2, V.ref p3, V.ref p4, V.str "A", V.str "b c"]
      [.none, .bool true, .bool false, .int 0, .int 1, .int (-7), .int (10 ^ 30 - 1), .str "", .str "link", .str "a", .str "on", .tuple [], .list [], .tuple [.str "a"], .list [.str "a"], .str "A", .str "b c"] :=
  .cons (.not rfl) (.cons (.not rfl) (.cons (.not rfl) (.cons (.not rfl) (.cons (.not rfl) (.cons (.not rfl) (.cons (.not rfl) (.cons (.not rfl) (.cons (.not rfl) (.cons (.not rfl) (.cons (.not rfl)
    (.cons (.not rfl) (.cons (.lst n2 rfl) (.cons (.not rfl) (.cons (.lst n4 rfl) (.cons (.not rfl) (.cons (.not rfl) .nil))))))))))))))))
/-- _law_thing(stream, m) -/
def spThingL (K : PySem.W.Frag) (m : Nat) : Sp := fun vs H Q _ => ∃ (S C : Addr) (n : Nat) (us : List V), vs = .ref S :: us ∧ us = [.int (m : Int)] ∧ Strm S C n H ∧ n + kT m ≤ 20000000 ∧
  ∀ (v : V) (d : PyData) (H' : Hp), Dp K (newp H H') v d → Nice (m + 1) (bT m) d → LivL (newp H H') v d → Strm S C (n + kT m) H' → Fr S C H H' → Q v H'
def spBentP (K : PySem.W.Frag) : Sp := fun vs H Q _ => ∃ (S C : Addr) (n nb : Nat) (B : Hp) (v : V) (ds : List PyData), vs = [.ref S, v] ∧ Strm S C n H ∧ n + 500 ≤ 20000000 ∧ Strm S C nb B ∧ Ext B H ∧ Dp K (newp B H) v (.tuple ds) ∧ Ok (.tuple ds) ∧ ds.all pairD = true ∧ ds.length < 20000000 ∧
  ∀ (v' : V) (d' : PyData) (H' : Hp), Dp K (newp B H') v' d' → fine d' = true → d'.depth ≤ max (PyData.depthAll ds + 1) 6 → (ds = [] → d'.depth ≤ 2) → big d' ≤ 4 * bigs ds + 60000 → LivL (newp B H') v' d' → Strm S C (n + 500) H' → Fr S C H H' → Q v' H'
/-- side, with less asked -/
theorem side_ext {S C D : Addr} {n1 : Nat} {H1 H2 : Hp} (s1 : Strm S C n1 H1) (f : Ext H1 H2) (nD : H2 D = none) (o : HO) :
    ∃ G, Ext H1 G ∧ G D ≠ none ∧ Strm S C n1 G ∧ Same (newp H1 H2) (newp G H2) ∧ Ext G (L2.upd H2 D o) := by
  have n1D : H1 D = none := f D nD
  refine ⟨L2.upd H1 D (.lst []), Ext.upd, by rw [upd_same]; exact Option.some_ne_none _, s1.lay n1D _, fun a u h => ?_, fun a h => ?_⟩
  · obtain ⟨h1, h2⟩ := newp_some h
    have hn : a ≠ D := ne_of_none h2 nD
    rw [newp_of (by rw [upd_ne hn]; exact h1)]
    exact h2
  · by_cases e : a = D
    · rw [e, upd_same] at h
      cases h
    · rw [upd_ne e] at h ⊢
      exact f a h
theorem lay_tup {K : PySem.W.Frag} {B H : Hp} {p : Addr} {vs : List V} {ds : List PyData} (xB : Ext B H) (np : H p = none) (h : DpAll K (newp B H) vs ds) : Dp K (newp B (L2.upd H p (.tup vs))) (.ref p) (.tuple ds) :=
  new_tup (xB p np) upd_same (DpAll_mono (newp_right (same_new np _)) h)
theorem lay_lst {K : PySem.W.Frag} {B H : Hp} {p : Addr} {vs : List V} {ds : List PyData} (xB : Ext B H) (np : H p = none) (h : DpAll K (newp B H) vs ds) : Dp K (newp B (L2.upd H p (.lst vs))) (.ref p) (.list ds) :=
  new_lst (xB p np) upd_same (DpAll_mono (newp_right (same_new np _)) h)
end Vn

set_option Elab.async false
set_option linter.all false
set_option maxRecDepth 100000
set_option maxHeartbeats 4000000
/-! Vn: what a bend of a tree keeps. -/
namespace Vn
open PySem PySem.Spec PyProof.Rows L2
theorem tree_is {n : Nat} {d : PyData} (h : treeD (n + 1) d = true) : ∃ ps cs, d = .tuple [.tuple ps, .tuple cs] ∧ ps.all pairD = true ∧ cs.all pairD = true ∧ ∀ e ∈ cs, treeD n (sndD e) = true := by
  have hp : pairD d = true := by
    cases q : pairD d with
    | true => rfl
    | false => rw [treeD_not q] at h; cases h
  obtain ⟨p, c, rfl⟩ := pair_is hp
  rw [treeD_parts] at h
  simp only [Bool.and_eq_true] at h
  obtain ⟨⟨h1, h2⟩, _, h3⟩ := h
  unfold partD at h1 h2
  rw [Bool.and_eq_true] at h1 h2
  obtain ⟨ps, rfl⟩ := named_tup h1.1
  obtain ⟨cs, rfl⟩ := named_tup h2.1
  have nm : ∀ {ds : List PyData}, namedD (.tuple ds) = true → ds.all pairD = true := fun {ds} h => by
    have h' : ds.all nmD = true := h
    rw [List.all_eq_true] at h' ⊢
    intro e he
    have := h' e he
    unfold nmD at this
    rw [Bool.and_eq_true] at this
    exact this.1
  exact ⟨ps, cs, rfl, nm h1.1, nm h2.1, fun e he => List.all_eq_true.mp h3 e he⟩
theorem tree_sh : ∀ {n : Nat} {d : PyData}, treeD n d = true → shD n d = true
  | 0, _, h => by cases h
  | n + 1, d, h => by
    obtain ⟨ps, cs, rfl, h1, h2, h3⟩ := tree_is h
    exact sh_mk h1 h2 fun e he => tree_sh (h3 e he)
theorem pairs_len : ∀ ds : List PyData, ds.all pairD = true → 9 * ds.length ≤ bigs ds
  | [], _ => Nat.zero_le _
  | d :: ds, h => by
    rw [List.all_cons, Bool.and_eq_true] at h
    obtain ⟨a, b, rfl⟩ := pair_is h.1
    have := pairs_len ds h.2
    simp only [List.length_cons, bigs, big]
    omega
theorem pairs_deep {ds : List PyData} (h : ds.all pairD = true) (z : PyData.depthAll ds = 0) : ds = [] := by
  cases ds with
  | nil => rfl
  | cons d ds =>
    rw [List.all_cons, Bool.and_eq_true] at h
    obtain ⟨a, b, rfl⟩ := pair_is h.1
    simp only [PyData.depthAll, PyData.depth] at z
    omega
/-- _law_bent_tree(stream, part), part a tree of at most n levels -/
def spBent (K : PySem.W.Frag) (n : Nat) : Sp := fun vs H Q _ => ∃ (S C : Addr) (k nb j : Nat) (B : Hp) (v : V) (d : PyData), vs = [.ref S, v] ∧ Strm S C k H ∧ k + (2 * n + 600) ≤ 20000000 ∧ Strm S C nb B ∧ Ext B H ∧ Dp K (newp B H) v d ∧ fine d = true ∧ d.depth ≤ 3 * j + 2 ∧ 3 * j + 2 ≤ 60 ∧ big d ≤ 4000000 ∧ shD n d = true ∧
  ∀ (v' : V) (d' : PyData) (H' : Hp), Dp K (newp B H') v' d' → fine d' = true → d'.depth ≤ 3 * j + 4 → big d' ≤ 4 * big d + 60000 → Strm S C (k + (2 * n + 600)) H' → Fr S C H H' → Q v' H'
theorem drop_no {K : PySem.W.Frag} {B H : Hp} {x : V} {ds : List PyData} {i : Nat} {σ : L2.St} {Q : VK} (xB : Ext B H) (hx : Dp K (newp B H) x (.tuple ds)) (hi : i ≤ ds.length)
    (q : ∀ (v : V) (H' : Hp), Dp K (newp B H') v (.tuple (ds.drop i)) → Same H H' → Q v H') : tNoPart σ H fun u H3 => rSlA K x (some (i : Int)) u H3 Q := drop_by xB hx hi q
end Vn

set_option Elab.async false
set_option linter.all false
set_option maxRecDepth 100000
set_option maxHeartbeats 4000000
/-! Vn: lists turned into tuples, at any depth, by a stack. -/
namespace Vn
open PySem PySem.Spec PyProof.Rows L2
mutual
def tupD : PyData → PyData
  | .list xs => .tuple (tupDs xs)
  | .tuple xs => .tuple (tupDs xs)
  | d => d
def tupDs : List PyData → List PyData
  | [] => []
  | d :: ds => tupD d :: tupDs ds
end
theorem tupDs_map : ∀ ds : List PyData, tupDs ds = ds.map tupD
  | [] => rfl
  | d :: ds => by rw [tupDs, tupDs_map ds]; rfl
def isSeqD : PyData → Bool
  | .list _ => true
  | .tuple _ => true
  | _ => false
def seqItems : PyData → List PyData
  | .list ds => ds
  | .tuple ds => ds
  | _ => []
theorem tupD_seq {d : PyData} (h : isSeqD d = true) : tupD d = .tuple ((seqItems d).map tupD) := by
  cases d with
  | list xs => rw [tupD, tupDs_map]; rfl
  | tuple xs => rw [tupD, tupDs_map]; rfl
  | _ => cases h
theorem tupD_atom {d : PyData} (h : isSeqD d = false) : tupD d = d := by
  cases d with
  | list xs => cases h
  | tuple xs => cases h
  | _ => rfl
mutual
def wt : PyData → Nat
  | .list xs => 2 + wts xs
  | .tuple xs => 2 + wts xs
  | _ => 1
def wts : List PyData → Nat
  | [] => 0
  | d :: ds => wt d + wts ds
end
theorem wt_seq {d : PyData} (h : isSeqD d = true) : wt d = 2 + wts (seqItems d) := by
  cases d with
  | list xs => rfl
  | tuple xs => rfl
  | _ => cases h
theorem wt_pos (d : PyData) : 1 ≤ wt d := by
  cases d <;> simp only [wt] <;> omega
theorem wts_drop : ∀ {ds : List PyData} {i : Nat} {x : PyData}, ds[i]? = some x → wts (ds.drop i) = wt x + wts (ds.drop (i + 1))
  | [], i, x, h => by simp at h
  | d :: ds, 0, x, h => by
    have e : d = x := Option.some.inj h
    subst e
    rfl
  | d :: ds, i + 1, x, h => by
    have ih := wts_drop (ds := ds) (i := i) (x := x) h
    simpa using ih
/-! ### only the new tuples -/
def tupP (H H' : Hp) : Hp := fun a => match newp H H' a with
  | some (.tup xs) => some (.tup xs)
  | _ => none
theorem tupP_some {H H' : Hp} {a : Addr} {o : HO} (h : tupP H H' a = some o) : ∃ xs, o = .tup xs ∧ H a = none ∧ H' a = some (.tup xs) := by
  unfold tupP at h
  split at h
  · rename_i xs e
    obtain ⟨h1, h2⟩ := newp_some e
    exact ⟨xs, (Option.some.inj h).symm, h1, h2⟩
  · cases h
theorem tupP_of {H H' : Hp} {a : Addr} {xs : List V} (h : H a = none) (e : H' a = some (.tup xs)) : tupP H H' a = some (.tup xs) := by
  unfold tupP
  rw [newp_of h, e]
theorem tupP_newp {H H' : Hp} : Same (tupP H H') (newp H H') := fun a o h => by
  obtain ⟨xs, rfl, h1, h2⟩ := tupP_some h
  rw [newp_of h1]
  exact h2
theorem tupP_lst {H H' : Hp} {b : Addr} {ys : List V} {o : HO} (h : H' b = some (.lst ys)) : Same (tupP H H') (tupP H (upd H' b o)) := fun a u q => by
  obtain ⟨xs, rfl, h1, h2⟩ := tupP_some q
  refine tupP_of h1 ?_
  rw [upd_ne (fun z => by rw [z, h] at h2; cases h2)]
  exact h2
theorem tupP_lay {H H' : Hp} {b : Addr} {o : HO} (h : H' b = none) : Same (tupP H H') (tupP H (upd H' b o)) := fun a u q => by
  obtain ⟨xs, rfl, h1, h2⟩ := tupP_some q
  refine tupP_of h1 ?_
  rw [upd_ne (ne_of_none h2 h)]
  exact h2
/-! ### the stack: the top stands first -/
structure Frm where
  t : Addr
  s : Addr
  b : Addr
  ds : List PyData
  xs : List V
  vs : List V
structure FrmOk (K : PySem.W.Frag) (H1 H' : Hp) (f : Frm) : Prop where
  nt : H1 f.t = none
  nb : H1 f.b = none
  ht : H' f.t = some (.tup [.ref f.s, .ref f.b])
  hb : H' f.b = some (.lst f.vs)
  src : SqL K H1 f.s f.xs ∨ SqT K H1 f.s f.xs
  dp : DpAll K H1 f.xs f.ds
  bg : bigs f.ds ≤ 16777218
  le : f.vs.length ≤ f.ds.length
  out : DpAll K (tupP H1 H') f.vs ((f.ds.take f.vs.length).map tupD)
theorem FrmOk.len {K : PySem.W.Frag} {H1 H' : Hp} {f : Frm} (h : FrmOk K H1 H' f) : f.ds.length ≤ 8388609 := by
  have := bigs_len f.ds
  have := h.bg
  omega
theorem FrmOk.xlen {K : PySem.W.Frag} {H1 H' : Hp} {f : Frm} (h : FrmOk K H1 H' f) : f.xs.length = f.ds.length := DpAll_len h.dp
/-- another heap in which the frame's own two objects stand -/
theorem FrmOk.to {K : PySem.W.Frag} {H1 H' H2 : Hp} {f : Frm} (h : FrmOk K H1 H' f) (et : H2 f.t = H' f.t) (eb : H2 f.b = H' f.b) (s : Same (tupP H1 H') (tupP H1 H2)) : FrmOk K H1 H2 f :=
  ⟨h.nt, h.nb, et.trans h.ht, eb.trans h.hb, h.src, h.dp, h.bg, h.le, DpAll_mono s h.out⟩
def Chain : List Frm → Prop
  | [] => True
  | [_] => True
  | f :: g :: r => (∃ x, g.ds[g.vs.length]? = some x ∧ isSeqD x = true ∧ seqItems x = f.ds) ∧ Chain (g :: r)
def Deep : List Frm → Prop
  | [] => True
  | f :: r => PyData.depthAll f.ds + r.length ≤ 60 ∧ Deep r
def lows : List Frm → Nat
  | [] => 0
  | g :: r => wts (g.ds.drop (g.vs.length + 1)) + 1 + lows r
def mu : List Frm → Nat
  | [] => 0
  | f :: r => wts (f.ds.drop f.vs.length) + 1 + lows r
def tops (fs : List Frm) : List V := fs.reverse.map fun f => V.ref f.t
theorem tops_cons (f : Frm) (r : List Frm) : tops (f :: r) = tops r ++ [.ref f.t] := by
  unfold tops
  rw [List.reverse_cons, List.map_append]
  rfl
theorem tops_len (fs : List Frm) : (tops fs).length = fs.length := by
  unfold tops
  rw [List.length_map, List.length_reverse]
theorem atI_last (xs : List V) (x : V) : atI (xs ++ [x]) (-1) = some x := by
  have e : ixN (xs ++ [x]).length (-1) = some xs.length := by
    unfold ixN
    rw [List.length_append, List.length_singleton]
    rw [if_neg (by decide), if_pos (by omega)]
    congr 1
    omega
  unfold atI
  rw [e]
  simp
/-- the loop's state: H1: the heap with the list of the value alone -/
structure Stk (K : PySem.W.Frag) (H1 : Hp) (L : Addr) (d : PyData) (fs : List Frm) (H' : Hp) : Prop where
  same : Same H1 H'
  nL : H1 L = none
  hL : H' L = some (.lst (tops fs))
  ok : ∀ f ∈ fs, FrmOk K H1 H' f
  nd : (fs.map (·.b)).Nodup
  Lb : ∀ f ∈ fs, f.b ≠ L
  ch : Chain fs
  dp : Deep fs
  last : ∃ f, fs.getLast? = some f ∧ f.ds = [d]
theorem depthAll_get : ∀ {ds : List PyData} {i : Nat} {x : PyData}, ds[i]? = some x → x.depth ≤ PyData.depthAll ds
  | [], i, x, h => by simp at h
  | d :: ds, 0, x, h => by
    have e : d = x := Option.some.inj h
    subst e
    simp only [PyData.depthAll]
    omega
  | d :: ds, i + 1, x, h => by
    have ih := depthAll_get (ds := ds) (i := i) (x := x) h
    simp only [PyData.depthAll]
    omega
theorem depth_seq {d : PyData} (h : isSeqD d = true) : PyData.depthAll (seqItems d) + 1 ≤ d.depth := by
  cases d with
  | list xs => simp only [seqItems, PyData.depth]; omega
  | tuple xs => simp only [seqItems, PyData.depth]; omega
  | _ => cases h
theorem bigs_get : ∀ {ds : List PyData} {i : Nat} {x : PyData}, ds[i]? = some x → big x + 2 ≤ bigs ds
  | [], i, x, h => by simp at h
  | d :: ds, 0, x, h => by
    have e : d = x := Option.some.inj h
    subst e
    simp only [bigs]
    omega
  | d :: ds, i + 1, x, h => by
    have ih := bigs_get (ds := ds) (i := i) (x := x) h
    simp only [bigs]
    omega
theorem big_seq {d : PyData} (h : isSeqD d = true) : bigs (seqItems d) + 3 = big d := by
  cases d with
  | list xs => simp only [seqItems, Vn.big]
  | tuple xs => simp only [seqItems, Vn.big]
  | _ => cases h
/-- one more built -/
def Frm.push (f : Frm) (v : V) : Frm := { f with vs := f.vs ++ [v] }
theorem Frm.push_len (f : Frm) (v : V) : (f.push v).vs.length = f.vs.length + 1 := by simp [Frm.push]
section
variable {K : PySem.W.Frag} {H1 H' : Hp} {L : Addr} {d x : PyData} {f : Frm} {r : List Frm} {v : V}
theorem Stk.b_ne (S : Stk K H1 L d (f :: r) H') {g : Frm} (hg : g ∈ r) : g.b ≠ f.b := fun z => by
  have := S.nd
  rw [List.map_cons, List.nodup_cons] at this
  exact this.1 (by rw [← z]; exact List.mem_map.mpr ⟨g, hg, rfl⟩)
theorem Stk.t_ne (S : Stk K H1 L d (f :: r) H') {g : Frm} (hg : g ∈ f :: r) {a : Addr} {ys : List V} (ha : H' a = some (.lst ys)) : g.t ≠ a := fun z => by
  have := (S.ok g hg).ht
  rw [z, ha] at this
  cases this
/-- built.append(v) -/
theorem Stk.add (S : Stk K H1 L d (f :: r) H') (hx : f.ds[f.vs.length]? = some x) (hv : Dp K (tupP H1 H') v (tupD x)) :
    Stk K H1 L d (f.push v :: r) (upd H' f.b (.lst (f.vs ++ [v]))) ∧ mu (f.push v :: r) + wt x ≤ mu (f :: r) := by
  have F := S.ok f List.mem_cons_self
  have lt := (List.getElem?_eq_some_iff.mp hx).1
  have tp := tupP_lst (H := H1) (o := .lst (f.vs ++ [v])) F.hb
  refine ⟨⟨fun a o h => ?_, S.nL, ?_, fun g hg => ?_, S.nd, fun g hg => ?_, ?_, S.dp, ?_⟩, ?_⟩
  · rw [upd_ne (ne_of_none h F.nb)]
    exact S.same a o h
  · rw [upd_ne (S.Lb f List.mem_cons_self).symm]
    rw [S.hL, tops_cons, tops_cons]
    rfl
  · rcases List.mem_cons.mp hg with rfl | hg
    · refine ⟨F.nt, F.nb, ?_, upd_same, F.src, F.dp, F.bg, ?_, ?_⟩
      · show upd H' f.b _ f.t = _
        rw [upd_ne (S.t_ne List.mem_cons_self F.hb)]
        exact F.ht
      · rw [Frm.push_len]
        exact lt
      · rw [Frm.push_len]
        show DpAll K _ (f.vs ++ [v]) ((f.ds.take (f.vs.length + 1)).map tupD)
        rw [take_snoc hx, List.map_append]
        exact DpAll_snoc (DpAll_mono tp F.out) (Dp_mono tp hv)
    · exact (S.ok g (List.mem_cons_of_mem _ hg)).to (upd_ne (S.t_ne (List.mem_cons_of_mem _ hg) F.hb)) (upd_ne (S.b_ne hg)) tp
  · rcases List.mem_cons.mp hg with rfl | hg
    · exact S.Lb f List.mem_cons_self
    · exact S.Lb g (List.mem_cons_of_mem _ hg)
  · have c := S.ch
    cases r with
    | nil => trivial
    | cons g r => exact c
  · obtain ⟨g, e1, e2⟩ := S.last
    cases r with
    | nil =>
      simp at e1
      subst e1
      exact ⟨_, rfl, e2⟩
    | cons h r => exact ⟨g, by rw [List.getLast?_cons_cons] at e1 ⊢; exact e1, e2⟩
  · have e := wts_drop hx
    show wts (f.ds.drop (f.push v).vs.length) + 1 + lows r + wt x ≤ wts (f.ds.drop f.vs.length) + 1 + lows r
    rw [Frm.push_len]
    omega
/-- levels.append((source[i], [])), the list at b and the pair at t new -/
theorem Stk.down (S : Stk K H1 L d (f :: r) H') (hx : f.ds[f.vs.length]? = some x) (hs : isSeqD x = true) {a b t : Addr} {ys : List V} (hy : SqL K H1 a ys ∨ SqT K H1 a ys) (dy : DpAll K H1 ys (seqItems x))
    (nb : H' b = none) (nt : (upd H' b (.lst [])) t = none) :
    Stk K H1 L d (⟨t, a, b, seqItems x, ys, []⟩ :: f :: r) (upd (upd (upd H' b (.lst [])) t (.tup [.ref a, .ref b])) L (.lst (tops (f :: r) ++ [.ref t]))) ∧ mu (⟨t, a, b, seqItems x, ys, []⟩ :: f :: r) + 1 ≤ mu (f :: r) := by
  have F := S.ok f List.mem_cons_self
  have ntH : H' t = none := by
    cases q : H' t with
    | none => rfl
    | some o =>
      by_cases z : t = b
      · rw [z, upd_same] at nt; cases nt
      · rw [upd_ne z, q] at nt; cases nt
  have tb : t ≠ b := fun z => by rw [z, upd_same] at nt; cases nt
  have Lb : L ≠ b := fun z => by rw [← z, S.hL] at nb; cases nb
  have Lt : L ≠ t := fun z => by rw [← z, S.hL] at ntH; cases ntH
  have hL2 : (upd (upd H' b (.lst [])) t (.tup [.ref a, .ref b])) L = some (.lst (tops (f :: r))) := by
    rw [upd_ne Lt, upd_ne Lb]
    exact S.hL
  have tp : Same (tupP H1 H') (tupP H1 (upd (upd (upd H' b (.lst [])) t (.tup [.ref a, .ref b])) L (.lst (tops (f :: r) ++ [.ref t])))) :=
    ((tupP_lay nb).trans (tupP_lay nt)).trans (tupP_lst hL2)
  have keep : ∀ c o, H' c = some o → c ≠ L → (upd (upd (upd H' b (.lst [])) t (.tup [.ref a, .ref b])) L (.lst (tops (f :: r) ++ [.ref t]))) c = some o := fun c o e n => by
    rw [upd_ne n, upd_ne (ne_of_none e ntH), upd_ne (ne_of_none e nb)]
    exact e
  refine ⟨⟨fun c o h => keep c o (S.same c o h) (ne_of_none h S.nL), S.nL, ?_, fun g hg => ?_, ?_, fun g hg => ?_, ⟨⟨x, hx, hs, rfl⟩, S.ch⟩, ⟨?_, S.dp⟩, ?_⟩, ?_⟩
  · rw [upd_same]
    exact congrArg (fun z => some (HO.lst z)) (tops_cons ⟨t, a, b, seqItems x, ys, []⟩ (f :: r)).symm
  · rcases List.mem_cons.mp hg with rfl | hg
    · refine ⟨S.same.free ntH, S.same.free nb, ?_, ?_, hy, dy, ?_, Nat.zero_le _, .nil⟩
      · show (upd (upd (upd H' b _) t _) L _) t = _
        rw [upd_ne Lt.symm, upd_same]
      · show (upd (upd (upd H' b _) t _) L _) b = _
        rw [upd_ne Lb.symm, upd_ne tb.symm, upd_same]
      · have h1 := bigs_get hx
        have h2 := big_seq hs
        have h3 := F.bg
        show bigs (seqItems x) ≤ _
        omega
    · have G := S.ok g hg
      refine G.to ?_ ?_ tp
      · rw [keep _ _ G.ht (S.t_ne hg S.hL), G.ht]
      · rw [keep _ _ G.hb (S.Lb g hg), G.hb]
  · rw [List.map_cons, List.nodup_cons]
    refine ⟨fun m => ?_, S.nd⟩
    obtain ⟨g, hg, e⟩ := List.mem_map.mp m
    have G := (S.ok g hg).hb
    rw [show g.b = b from e, nb] at G
    cases G
  · rcases List.mem_cons.mp hg with rfl | hg
    · exact Lb.symm
    · exact S.Lb g hg
  · have h1 := depthAll_get hx
    have h2 := depth_seq hs
    have h3 := S.dp.1
    show PyData.depthAll (seqItems x) + (f :: r).length ≤ 60
    rw [List.length_cons]
    omega
  · obtain ⟨g, e1, e2⟩ := S.last
    exact ⟨g, by rw [List.getLast?_cons_cons]; exact e1, e2⟩
  · have e := wts_drop hx
    have e2 := wt_seq hs
    show wts (List.drop 0 (seqItems x)) + 1 + (wts (f.ds.drop (f.vs.length + 1)) + 1 + lows r) + 1 ≤ wts (f.ds.drop f.vs.length) + 1 + lows r
    rw [List.drop_zero]
    omega
/-- levels.pop() -/
theorem Stk.up {g : Frm} (S : Stk K H1 L d (f :: g :: r) H') (hf : f.vs.length = f.ds.length) :
    Stk K H1 L d (g :: r) (upd H' L (.lst (tops (g :: r)))) ∧ (∃ x, g.ds[g.vs.length]? = some x ∧ tupD x = .tuple (f.ds.map tupD) ∧ mu (g :: r) = wt x + lows (g :: r) ∧ mu (f :: g :: r) = 1 + lows (g :: r)) ∧
      DpAll K (tupP H1 (upd H' L (.lst (tops (g :: r))))) f.vs (f.ds.map tupD) ∧ (upd H' L (.lst (tops (g :: r)))) f.b = some (.lst f.vs) ∧ f.b ≠ g.b := by
  have F := S.ok f List.mem_cons_self
  have tp : Same (tupP H1 H') (tupP H1 (upd H' L (.lst (tops (g :: r))))) := tupP_lst S.hL
  obtain ⟨⟨x, hx, hs, hi⟩, c2⟩ := S.ch
  refine ⟨⟨fun a o h => ?_, S.nL, upd_same, fun k hk => ?_, ?_, fun k hk => S.Lb k (List.mem_cons_of_mem _ hk), c2, S.dp.2, ?_⟩, ⟨x, hx, ?_, ?_, ?_⟩, ?_, ?_, ?_⟩
  · rw [upd_ne (ne_of_none h S.nL)]
    exact S.same a o h
  · have hk' := List.mem_cons_of_mem f hk
    exact (S.ok k hk').to (upd_ne (S.t_ne hk' S.hL)) (upd_ne (S.Lb k hk')) tp
  · have := S.nd
    rw [List.map_cons, List.nodup_cons] at this
    exact this.2
  · obtain ⟨k, e1, e2⟩ := S.last
    rw [List.getLast?_cons_cons] at e1
    exact ⟨k, e1, e2⟩
  · rw [tupD_seq hs, hi]
  · have e := wts_drop hx
    show wts (g.ds.drop g.vs.length) + 1 + lows r = wt x + (wts (g.ds.drop (g.vs.length + 1)) + 1 + lows r)
    omega
  · show wts (f.ds.drop f.vs.length) + 1 + lows (g :: r) = 1 + lows (g :: r)
    rw [hf, List.drop_length]
    simp only [wts]
  · have o := DpAll_mono tp F.out
    rw [hf, List.take_length] at o
    exact o
  · rw [upd_ne (S.Lb f List.mem_cons_self)]
    exact F.hb
  · exact fun z => S.b_ne (g := g) List.mem_cons_self z.symm
end
theorem tops_drop (f : Frm) (r : List Frm) : (tops (f :: r)).dropLast = tops r := by
  rw [tops_cons, List.dropLast_concat]
theorem tops_last (f : Frm) (r : List Frm) : (tops (f :: r))[(tops (f :: r)).length - 1]? = some (.ref f.t) := by
  rw [tops_cons, List.length_append, List.length_singleton, Nat.add_sub_cancel, List.getElem?_append_right (Nat.le_refl _), Nat.sub_self]
  rfl
/-- a new object is laid -/
theorem Stk.lay {K : PySem.W.Frag} {H1 H' : Hp} {L p : Addr} {d : PyData} {fs : List Frm} {o : HO} (S : Stk K H1 L d fs H') (np : H' p = none) : Stk K H1 L d fs (upd H' p o) := by
  refine ⟨fun a u h => ?_, S.nL, ?_, fun f hf => ?_, S.nd, S.Lb, S.ch, S.dp, S.last⟩
  · rw [upd_ne (ne_of_none (S.same a u h) np)]
    exact S.same a u h
  · rw [upd_ne (ne_of_none S.hL np)]
    exact S.hL
  · have F := S.ok f hf
    exact F.to (upd_ne (ne_of_none F.ht np)) (upd_ne (ne_of_none F.hb np)) (tupP_lay np)
theorem Stk.start {K : PySem.W.Frag} {H1 : Hp} {L a b t : Addr} {v : V} {d : PyData} (hv : Dp K H1 v d) (ok : Ok d) (ha : H1 a = some (.lst [v])) (nb : H1 b = none) (nt : (upd H1 b (.lst [])) t = none)
    (nL : (upd (upd H1 b (.lst [])) t (.tup [.ref a, .ref b])) L = none) :
    Stk K H1 L d [⟨t, a, b, [d], [v], []⟩] (upd (upd (upd H1 b (.lst [])) t (.tup [.ref a, .ref b])) L (.lst [.ref t])) := by
  have tb : t ≠ b := fun z => by rw [z, upd_same] at nt; cases nt
  have nt1 : H1 t = none := by rwa [upd_ne tb] at nt
  have Lt : L ≠ t := fun z => by rw [z, upd_same] at nL; cases nL
  rw [upd_ne Lt] at nL
  have Lb : L ≠ b := fun z => by rw [z, upd_same] at nL; cases nL
  rw [upd_ne Lb] at nL
  have hbig := ok.big
  rw [sizeLine_eq] at hbig
  refine ⟨fun c o h => ?_, nL, upd_same, fun g hg => ?_, ?_, fun g hg => ?_, trivial, ⟨?_, trivial⟩, ⟨_, rfl, rfl⟩⟩
  · rw [upd_ne (ne_of_none h nL), upd_ne (ne_of_none h nt1), upd_ne (ne_of_none h nb)]
    exact h
  · obtain rfl := List.mem_singleton.mp hg
    refine ⟨nt1, nb, ?_, ?_, .inl (SqL.of ha), .cons hv .nil, ?_, Nat.zero_le _, .nil⟩
    · show (upd (upd (upd H1 b _) t _) L _) t = _
      rw [upd_ne Lt.symm, upd_same]
    · show (upd (upd (upd H1 b _) t _) L _) b = _
      rw [upd_ne Lb.symm, upd_ne tb.symm, upd_same]
    · simp only [bigs]
      omega
  · simp
  · obtain rfl := List.mem_singleton.mp hg
    exact Lb.symm
  · have := ok.depth
    simp only [PyData.depthAll, List.length_nil]
    omega
/-! ### rules -/
section
variable {X : Cx} {K : PySem.W.Frag}
/-- s[i], s a list or a tuple -/
theorem ixE (h : X.K = K := by rfl) : IxR X (fun x y H Q => rIxL K x y H Q ∨ rIxT K x y H Q) := by
  subst h
  intro value slice pins s σ H x y u v Q I rx ry hq
  rcases hq with hq | hq
  · exact ix_list value slice pins s σ H x y u v Q I rx ry hq
  · exact ix_tup value slice pins s σ H x y u v Q I rx ry hq
theorem isitK (h : X.K = K := by rfl) : CallR X (.builtin "isinstance") (rIsiT K) := by subst h; exact call_isiT
end
theorem kit_seq {K : PySem.W.Frag} {v : V} {d : PyData} {H : Hp} (h : Dp K H v d) : PySem.W.kitAny K (.type (tyName d)) [.type "list", .type "tuple"] = some (isSeqD d) := by
  have e1 := kit_lst (K := K) h
  have e2 := kit_tup (K := K) h
  simp only [PySem.W.kitAny]
  rw [e1, e2]
  cases h <;> rfl
theorem Dp_atom {K : PySem.W.Frag} {H H' : Hp} {v : V} {d : PyData} (h : Dp K H v d) (a : isSeqD d = false) : Dp K H' v (tupD d) := by
  rw [tupD_atom a]
  cases h with
  | non => exact .non
  | bl b => exact .bl b
  | int i => exact .int i
  | str x => exact .str x
  | lst _ _ => cases a
  | tup _ _ => cases a
theorem Dp_seq {K : PySem.W.Frag} {H : Hp} {v : V} {d : PyData} (h : Dp K H v d) (a : isSeqD d = true) : ∃ p ys, v = .ref p ∧ (SqL K H p ys ∨ SqT K H p ys) ∧ DpAll K H ys (seqItems d) := by
  cases h with
  | lst hs ha => exact ⟨_, _, rfl, .inl hs, ha⟩
  | tup hs ha => exact ⟨_, _, rfl, .inr hs, ha⟩
  | _ => cases a
/-- as_tuples(value) -/
def spTup (K : PySem.W.Frag) : Sp := fun vs H Q _ => ∃ (v : V) (d : PyData), vs = [v] ∧ Dp K H v d ∧ Ok d ∧ ∀ v' H', Same H H' → Dp K (newp H H') v' (tupD d) → Q v' H'
end Vn

set_option Elab.async false
set_option linter.all false
set_option maxRecDepth 100000
set_option maxHeartbeats 4000000
/-! Vn: own errors: a base's __init__ called by the class, an error without fields. -/
namespace Vn
open PySem PySem.Spec PyProof.Rows L2
section
variable {X : Cx} {o e : Expr} {es : List Expr} {ta : TA} {x : Str} {p p1 p2 pos : Pos}
/-- V.__init__(self, ..), V an own class that has ValueError's -/
theorem pe_oinit {V : Addr} {mc : Value} {pl : Sem Bool} (hg : Gl X x) (hm : X.mg x = some (.ref V)) (hr : PySem.W.readsIn X.K V mc = true) (hga : PySem.W.specialIn X.K (.ref V) "__getattribute__" = some (some (.builtin "type.__getattribute__")))
    (vV : PySem.W.findCls X.K (.ref V) mc "__init__" = some (.val (.builtin "ValueError.__init__"))) (ha : PA X (e :: es) ta)
    (hdb : (x == ("__debug__" : Str)) = false := by decide)
    (hc : eval (.Call (.Attribute (.Name x p1) "__init__" p2) (e :: es) [] pos) X.env = (do
      let ov ← eval (.Name x p1) X.env
      standAt p2.atName
      let (f, first) ← holding [ov] (getMethod ov "__init__" pl)
      callWith pos f first (backTo pos (starEach (e :: es) X.env)) (backToKw pos (keywordEach [] X.env))) := by rfl)
    (he : starEach (e :: es) X.env = (false, eval e X.env) :: starEach es X.env := by rfl) (hpl : (backTo pos (starEach es X.env)).any (·.1) = false := by rfl) :
    PE X (.Call (.Attribute (.Name x p1) "__init__" p2) (e :: es) [] pos) (tVeI X.K ta) := by
  refine ⟨fun pins s σ H Q I h => ?_⟩
  refine PySem.W.methodCall_KW (ld_glob I hg hm ?_ hdb) hc
  refine PySem.W.method_cls I.kIn hga (PySem.W.cls_value I.kIn hr vV (by decide +kernel) ?_)
  show wpAny _ _ (callWith pos (Value.builtin "ValueError.__init__") [] (backTo pos (starEach (e :: es) X.env)) []) _ _ _
  refine PyProof.Rows.callWith_method1 (thn (ha.run pos pins _ σ H _ (I.tok _) h) fun us s1 ⟨vs, H1, I1, r1, a, C, ws, ev, hl, T, ea, q⟩ => ?_) he hpl
  subst ev
  cases r1 with
  | @cons _ u0 _ ur ra rw' =>
    obtain rfl : u0 = Value.ref a := ra
    have hlen : ur.length ≤ sizeLine := by
      rw [← Paired.length rw', sizeLine_eq]
      omega
    exact oinit_ok T I1 ea hlen fun s' J => ⟨.non, H1, J, rfl, q⟩
/-- the end of C(), no field: the exception is let go -/
theorem mk_endN {pins : List (Addr × Obj)} {σ : L2.St} {H1 H2 : Hp} {Q : XK} {hp hp2 h2 : Heap} {g1 g2 : Array GenState} {d1 d2 : Drawn} {t1 t2 : Nat} {os1 os2 : OsState} {a C : Addr} (T : Raises X (.ref C)) (I1 : Inv X pins σ H1 ⟨hp, g1, d1, t1, os1⟩)
    (ha : hp.objs.size ≤ a) (k : ∀ b o, hp.get? b = some o → hp2.get? b = some o) (un : Un (frs X.stack) [] (upd H1 a (exo a C none)) H2 hp2 h2) (hok : HOk X.prog X.w H2 h2) (ho : os2 = os1) (hb : AllBare g2)
    (ea : H2 a = some (exo a C none)) (q : Q (.ref C) none (del H2 a)) : MkP X pins σ Q (.ref a) ⟨h2, g2, d2, t2, os2⟩ := by
  obtain ⟨t0, hoe⟩ := exo_at hok ea
  have hn : H1 a = none := I1.hok.fresh ha
  obtain ⟨G, g1', g2'⟩ := restrict h2 fun b => decide (b ≠ a)
  have gk : ∀ b, b ≠ a → G.get? b = h2.get? b := fun b hb => g1' b (decide_eq_true hb)
  have ge : G.get? a = none := g2' a (by simp)
  have nha : ∀ {b : Addr} {o : Obj}, hp.get? b = some o → b ≠ a := fun {b o} z => Nat.ne_of_lt (Nat.lt_of_lt_of_le (Heap.lt_size z) ha)
  have up : ∀ {b : Addr}, b ≠ a → H1 b = none → upd H1 a (exo a C none) b = none := fun {b} hb n => by rw [upd_ne hb]; exact n
  have U : Un (frs X.stack) [] H1 (del H2 a) hp G := {
    keep := fun b o z n hf hx => by
      rw [gk b (nha z)]
      exact un.keep b o (k b o z) (up (nha z) n) hf hx
    slot := fun b o z n hf hx => by
      rw [gk b (nha z)]
      exact un.slot b o (k b o z) (up (nha z) n) hf hx
    free := fun b o z n hx => by
      rw [del_ne (nha z)]
      exact un.free b o (k b o z) (up (nha z) n) hx
    there := fun b o z hx => by
      rw [gk b (nha z)]
      exact un.there b o (k b o z) hx
    tups := fun b xs z => by
      rw [del_ne (ne_of_none z hn)]
      exact un.tups b xs (by rw [upd_ne (ne_of_none z hn)]; exact z)
    frzs := fun b o v z => by
      rw [del_ne (ne_of_none z hn)]
      exact un.frzs b o v (by rw [upd_ne (ne_of_none z hn)]; exact z)
    tbls := fun b ps z => by
      rw [del_ne (ne_of_none z hn)]
      exact un.tbls b ps (by rw [upd_ne (ne_of_none z hn)]; exact z) }
  have hok3 : HOk X.prog X.w (del H2 a) G := fun b o z => by
    have hba : b ≠ a := fun e => by
      rw [e, del_same] at z
      cases z
    rw [del_ne hba] at z
    have noa : ∀ {c : Addr}, H2 c = some (.own b) → c ≠ a := fun {c} hc => at_ne ea hc exo_own
    exact (hok b o z).stay (fun c v hc y => by
        have hca : c ≠ a := by
          rcases hc with hc | hc
          · rw [hc]
            exact hba
          · exact noa hc
        rw [gk c hca]
        exact y)
      (fun c hc => by rw [del_ne (noa hc)]; exact hc) (fun c xs hc => by rw [del_ne (at_ne ea hc exo_tup)]; exact hc)
  have J : Inv X pins σ (del H2 a) ⟨G, g2, d2, t2, os2⟩ := I1.call' (ch := []) ho U hok3 hb (fun b z => absurd z (by simp))
  have kG : ∀ b o, G.get? b = some o → h2.get? b = some o := fun b o z => by
    by_cases hba : b = a
    · rw [hba, ge] at z
      cases z
    · exact (gk b hba).symm.trans z
  exact ⟨a, _, _, ⟨G, g2, d2, t2, os2⟩, _, .ref C, none, rfl, J, kG, ge, hoe, ⟨rfl, rfl⟩, rfl, rfl, del_same, rfl, hb, T, q⟩
/-- C(), C's own __init__(self) keeping sp -/
def tMkO0 (C : Addr) (sp : Sp) : L2.St → Hp → XK → Prop := fun σ H Q => ∀ a, H a = none → sp [.ref a] (upd H a (exo a C none))
  (fun v H2 => v = .non ∧ H2 a = some (exo a C none) ∧ Q (.ref C) none (del H2 a)) (fun _ _ _ => False)
theorem pmk_oex0 {CX : CXT} {C fI : Addr} {k : Nat} {fd : FuncData} {ps : List Str} {sp : Sp} (T : OexC X.K C) (iC : PySem.W.findIn X.K (.ref C) "__init__" = some (some (.ref fI))) (tI : PySem.W.typeIn X.K (.ref fI) = some (.type "function"))
    (F1 : FnOk X.prog X.w X.K X.mg X.base CX k fI fd ps sp) (hr : Room (k + 1) X.A) (hb : Binds X.K fd ps []) (hx : Passes CX X (fun _ _ _ => False)) (hg : Gl X x) (hm : X.mg x = some (.ref C))
    (hdb : (x == ("__debug__" : Str)) = false := by decide) :
    PMk X (.Call (.Name x p) [] [] pos) (tMkO0 C sp) := by
  intro pins s σ H Q I q1
  obtain ⟨nm, q, N, bs, bm, sn, sub, ab, col, dd, k0, k1, k2, k3, k5, hC, hbm⟩ := T.cls
  refine wpAny_Call_Name_kw (ld_glob I hg hm ?_ hdb)
  refine PySem.W.callWith_K0 I.kIn T.kC ?_
  show wpAny _ _ (call (.ref C) []) _ _ _
  obtain ⟨hp, g, dr, tk, os⟩ := s
  have hsz : hp.objs.size ≤ hp.objs.size + 1 := Nat.le_succ _
  have hn : H (hp.objs.size + 1) = none := I.hok.fresh hsz
  have hq := q1 (hp.objs.size + 1) hn
  have kk : ∀ b o, hp.get? b = some o → ((hp.push (PySem.W.kdv_tup [])).push (PySem.HandSPX.excO C hp.objs.size)).get? b = some o := fun b o e => Heap.get?_push_of_some _ (Heap.get?_push_of_some _ e)
  have hget : ((hp.push (PySem.W.kdv_tup [])).push (PySem.HandSPX.excO C hp.objs.size)).get? (hp.objs.size + 1) = some (PySem.HandSPX.excO C hp.objs.size) := by heap_get
  have I2 : Inv X pins σ (upd H (hp.objs.size + 1) (exo (hp.objs.size + 1) C none)) ⟨(hp.push (PySem.W.kdv_tup [])).push (PySem.HandSPX.excO C hp.objs.size), g, dr, tk, os⟩ :=
    I.laid (t' := tk) (a := hp.objs.size + 1) (o := exo (hp.objs.size + 1) C none) (h' := (hp.push (PySem.W.kdv_tup [])).push (PySem.HandSPX.excO C hp.objs.size)) kk hsz (exo_ok hget)
  have r2 : Vals [V.ref (hp.objs.size + 1)] [Value.ref (hp.objs.size + 1)] := .cons rfl .nil
  have hl : [Value.ref (hp.objs.size + 1)].length = ps.length := by
    have e := r2.length
    rw [F1.len _ _ _ _ hq] at e
    exact e.symm
  refine wpAny_call (PySem.HandSPX.call_own F.excBase_ValueError (fun Y => PySem.HandSPX.refsVE_contains Y bm hbm) (I.kIn _ _ hC) (PySem.W.looks_findIn I.kIn iC) (fun self => PySem.W.bind_fn I.kIn self tI) (Nat.zero_le _)
    (codeAny_mono (F1.run _ X.stack _ _ ⟨[Value.ref (hp.objs.size + 1)], []⟩ [Value.ref (hp.objs.size + 1)] _ _ (fun _ _ _ => False) (hr.make C [] []) (I2.env0.make C [] []) (hb _ [Value.ref (hp.objs.size + 1)] I2.kIn hl) r2 hq) fun r s' hq' => ?_))
  cases r with
  | error er => exact hx pins σ _ _ er s' I2 hq'
  | ok fl =>
    cases fl with
    | ret u =>
      obtain ⟨v, H2, os2, bare2, un2, hok2, rv, ev, ea, q2⟩ := hq'
      subst ev
      obtain ⟨h2, g2, d2, t2, os'⟩ := s'
      exact ⟨rv, mk_endN (raises_own T.exC T.tyC) I hsz kk un2 hok2 os2 bare2 ea q2⟩
    | next => exact False.elim hq'
    | brk => exact False.elim hq'
    | cont => exact False.elim hq'
end
end Vn

set_option Elab.async false
set_option linter.all false
set_option maxRecDepth 100000
set_option maxHeartbeats 4000000
/-! Vn: the end of a law one of whose defs makes a lambda: its maker's table P is tracked from the beginning. -/
namespace Vn
open PySem PySem.Spec PyProof.Rows L2
abbrev tabO : Obj := { cls := .none, data := .fields #[] }
section
variable {P : Program} {w : World} {K : PySem.W.Frag} {mg mb : Str → Option Value} {k : Nat} {fa a c T : Addr} {fd : FuncData} {x : Str} {sp : Sp} {s₁ : Shared} {vs : List Value}
/-- law_at with one table T, that of the code object at c -/
theorem law_atT (KX : K.In s₁.heap) (hns : s₁.heap.Ns mainGlobals mg) (hb : s₁.heap.Ns builtinsNs mb)
    (hbb : ∀ y : Str, y ≠ "__name__" → mb y = bootBuiltins y) (hlim : s₁.heap.NoLimit) (hgen : s₁.gens = #[])
    (eT : s₁.heap.get? T = some tabO) (kT : K.lookup T = none) (cT : PySem.W.CodeHd s₁.heap c T)
    (hbm : ∃ (bm : Addr) (ob : Obj), mg "__builtins__" = some (.ref bm) ∧ bm ≠ builtinsNs ∧ s₁.heap.get? bm = some ob ∧ ob.cls = .type "module" ∧ ob.dict = some builtinsNs ∧ ob.data = .plain)
    (ha : s₁.heap.get? a = some { cls := .type "list", data := .seq vs.toArray }) (hr : Room k callerA)
    (F : ∀ base : Heap, K.In base → base.Ns mainGlobals mg → LamX.TabB base mg c T → FnG P w K mg base CX0 k fa fd [x] sp)
    (hbind : ∀ (s : Shared) (u : Value), BindsTo s fd ⟨[u], []⟩ [(x, u)]) (H : Hp) (hT : H T = some (.tbl #[]))
    (hO : ∀ b, b ≠ T → H b = none ∨ ∃ ob xs, H b = some (.frz ob (.lst xs)))
    (hsp : sp [.ref a] H (fun v _ => v = .bl true) fun _ _ _ => False) (hok : HOk P w H s₁.heap)
    (hA : ∀ b, H b ≠ none → b = a ∨ b = T) (hK : H a ≠ none → K.lookup a = none) :
    codeAny (model P w) callerA (.call (.ref fa) ⟨[.ref a], []⟩) (GoodEnd s₁) s₁ := by
  have untracked : ∀ {b : Addr} {o : Obj}, s₁.heap.get? b = some o → (∀ z n, o.data ≠ .seq z n) → o.data ≠ .fields #[] → H b = none := fun {b o} e h1 h2 => by
    cases q : H b with
    | none => rfl
    | some u =>
      rcases hA b (by rw [q]; exact Option.some_ne_none u) with z | z
      · rw [z, ha] at e
        cases e
        exact (h1 _ _ rfl).elim
      · rw [z, eT] at e
        cases e
        exact (h2 rfl).elim
  have noDict : ∀ {b : Addr} {o : Obj} {es : Array DictEntry} {ep : Nat}, s₁.heap.get? b = some o → o.data = .dict es ep → H b = none := fun {b o es ep} e d =>
    untracked e (fun z n y => by rw [d] at y; cases y) fun y => by rw [d] at y; cases y
  have nsH : ∀ {b : Addr} {m : Str → Option Value}, s₁.heap.Ns b m → (hidT s₁.heap H).Ns b m := by
    rintro b m ⟨o, es, ep, e, d, r⟩
    exact ⟨o, es, ep, hidT_get e (noDict e d), d, r⟩
  have inK : K.In (hidT s₁.heap H) := by
    intro b o e
    refine hidT_get (KX b o e) ?_
    cases q : H b with
    | none => rfl
    | some u =>
      rcases hA b (by rw [q]; exact Option.some_ne_none u) with z | z
      · subst z
        rw [hK (by rw [q]; exact Option.some_ne_none u)] at e
        cases e
      · subst z
        rw [kT] at e
        cases e
  have lim : (hidT s₁.heap H).NoLimit := by
    obtain ⟨mc, h1, h2⟩ := hlim
    exact ⟨mc, nsH h1, h2⟩
  have tb : LamX.TabB (hidT s₁.heap H) mg c T := by
    have gT : mainGlobals ≠ T := fun z => by
      obtain ⟨o, es, ep, e, d, _⟩ := hns
      rw [z, eT] at e
      cases e
      cases d
    refine ⟨?_, ?_, gT⟩
    · obtain ⟨o, us, fl, tf, fg, tg, nf, tx, tt, e1, r1, r2, r3, r4, r5, r6, r7, r8, ne⟩ := cT
      refine ⟨o, us, fl, tf, fg, tg, nf, tx, tt, hidT_get e1 (untracked e1 (fun z n y => ?_) fun y => ?_), r1, r2, r3, r4, r5, r6, r7, r8, ne⟩
      · rw [r2] at y
        cases y
      · rw [r2] at y
        cases y
        simp at r3
    · obtain ⟨bm, ob, b1, b2, b3, b4, b5, b6⟩ := hbm
      refine ⟨bm, ob, b1, b2, fun q => ?_, fun q => ?_, hidT_get b3 (untracked b3 (fun z n y => ?_) fun y => ?_), b4, b5, b6⟩
      · obtain ⟨o, es, ep, e, d, _⟩ := hns
        rw [q, e] at b3
        cases b3
        rw [d] at b6
        cases b6
      · rw [q, eT] at b3
        cases b3
        cases b6
      · rw [b6] at y
        cases y
      · rw [b6] at y
        cases y
  have no : ∀ {b : Addr}, ¬ b ∈ ([] : List Addr) := fun h => nomatch h
  have e0 : Env0 P w K mg (hidT s₁.heap H) callerA [] s₁ H :=
    { frames := rfl, mod := ⟨inK, nsH hns, ⟨mb, nsH hb, hbb⟩, lim⟩, bs := fun b o e => of_hidT e, bsz := Nat.le_of_eq (hidT_size _ _),
      funs := trivial, frf := fun b z => (no (b := b) z).elim, hok := hok, bare := .of_eq hgen }
  refine codeAny_mono ((F _ inK (nsH hns) tb).run callerA rfl hr [] s₁ H ⟨[.ref a], []⟩ [.ref a] [.ref a] _ _ e0
    (hbind s₁ (.ref a)) (.cons rfl .nil) hsp) fun r s' h => ?_
  match r, h with
  | .error e, h => exact h.elim
  | .ok .next, h => exact h.elim
  | .ok .brk, h => exact h.elim
  | .ok .cont, h => exact h.elim
  | .ok (.ret u), ⟨v, H', os, bare, un, hok', rv, (q : v = .bl true)⟩ =>
    subst q
    cases (show u = Value.bool true from rv)
    have keep : ∀ b o, b ≠ T → s₁.heap.get? b = some o → s'.heap.get? b = some o := fun b o n e => by
      rcases hO b n with z | ⟨ob, xs, z⟩
      · exact un.keep b o e z (fun m => (no (b := b) m).elim) (fun m => (no (b := b) m).elim)
      · obtain ⟨e1, _⟩ := hok b _ z
        obtain ⟨e2, _⟩ := hok' b _ (un.frzs b ob _ z)
        cases e.symm.trans e1
        exact e2
    obtain ⟨more, hm⟩ := un.tbls T #[] hT
    have eT' : s'.heap.get? T = some { cls := .none, data := .fields (#[] ++ more) } := hok' T _ hm
    refine ⟨rfl, ⟨fun b o e => ?_, fun b o e => ?_⟩, os, bare⟩
    · by_cases n : b = T
      · subst n
        rw [eT] at e
        cases e
        exact .inr (.inl ⟨(cT.tab eT).isCodeTable, rfl, #[], more, rfl, eT'⟩)
      · exact .inl (keep b o n e)
    · by_cases n : b = T
      · subst n
        exact ⟨_, eT'⟩
      · exact ⟨o, keep b o n e⟩
/-- the end of a law row with one table -/
theorem walk_ofT {l : PySem.W.OpenLaw} {n : Nat} {q : Program} {loose : List Str} {XP : (Str → Option Value) → Heap → Prop} {YP : World → Heap → Prop} {d : DefRec} {K : Params → PySem.W.Frag} {sp : World → Addr → Sp}
    (hn : l.most = some n) (hn2 : n ≤ sizeLine) (hdf : d.params.defaults = []) (hr : Room k callerA)
    (hY : ∀ (w : World) (h : Heap), YP w h → (K w.params).In h)
    (F : ∀ (w : World) (mg : Str → Option Value) (fa : Addr) (h : Heap), YP w h → (K w.params).In h → h.Ns mainGlobals mg → mg d.name = some (.ref fa) →
      ∃ (fd : FuncData) (c T : Addr), h.get? T = some tabO ∧ (K w.params).lookup T = none ∧ PySem.W.CodeHd h c T ∧ (∀ (s : Shared) (u : Value), BindsTo s fd ⟨[u], []⟩ [(x, u)]) ∧
        ∀ base : Heap, (K w.params).In base → base.Ns mainGlobals mg → LamX.TabB base mg c T → FnG l.prog w (K w.params) mg base CX0 k fa fd [x] (sp w T))
    (hsp : ∀ (w : World) (H : Hp) (a T : Addr) (ns : List Int), ns.length ≤ n → H T = some (.tbl #[]) → SqL (K w.params) H a (ns.map V.int) → sp w T [.ref a] H (fun v _ => v = .bl true) fun _ _ _ => False) :
    PySem.W.WalkO q loose XP YP l.row.toRowW d [] (fun f vs => PySem.call f vs) := by
  refine Att.attach_callB hn hdf ?_
  intro w s₀ s₁ mg mb fa o pm cd doc a vs ns G Y ho hd hcd hmg hobj hints hlen hbits hgen
  have KX := hY w _ Y
  obtain ⟨fd, c, T, eT, kT, cT, hb, hF⟩ := F w mg fa _ Y KX G.T.g hmg
  have rv := vals_ints hints
  have small : ns.length ≤ sizeLine := Nat.le_trans hlen hn2
  have aT : a ≠ T := fun z => by
    rw [← z, hobj] at eT
    cases eT
  have go := law_atT (P := l.prog) (w := w) KX G.T.g G.T.b G.T.builtins G.T.nolimit hgen eT kT cT G.T.bmain hobj hr hF hb
  cases hk : (K w.params).lookup a with
  | some ob =>
    have e := KX a ob hk
    rw [hobj] at e
    cases e
    refine go (fun b => if b = T then some (.tbl #[]) else none) (if_pos rfl) (fun b n => .inl (if_neg n)) (hsp w _ a T ns hlen (if_pos rfl) (.inr ⟨_, vs.toArray, _, hk, rfl, rfl, rfl, ?_, rv⟩)) (fun b u z => ?_) (fun b z => ?_) (fun z => absurd (if_neg aT) z)
    · rw [List.size_toArray, hints.length]
      exact small
    · by_cases e : b = T
      · cases (if_pos e).symm.trans z
        rw [e]
        exact eT
      · cases (if_neg e).symm.trans z
    · by_cases e : b = T
      · exact .inr e
      · exact absurd (if_neg e) z
  | none =>
    have ea : (fun b => if b = a then some (HO.frz { cls := .type "list", data := .seq vs.toArray } (.lst (ns.map V.int))) else if b = T then some (.tbl #[]) else none) a = some (HO.frz { cls := .type "list", data := .seq vs.toArray } (.lst (ns.map V.int))) := if_pos rfl
    have et : (fun b => if b = a then some (HO.frz { cls := .type "list", data := .seq vs.toArray } (.lst (ns.map V.int))) else if b = T then some (.tbl #[]) else none) T = some (HO.tbl #[]) := (if_neg aT.symm).trans (if_pos rfl)
    have eo : ∀ b, b ≠ a → b ≠ T → (fun b => if b = a then some (HO.frz { cls := .type "list", data := .seq vs.toArray } (.lst (ns.map V.int))) else if b = T then some (.tbl #[]) else none) b = none := fun b n1 n2 => (if_neg n1).trans (if_neg n2)
    generalize (fun b => if b = a then some (HO.frz { cls := .type "list", data := .seq vs.toArray } (.lst (ns.map V.int))) else if b = T then some (.tbl #[]) else none) = H at ea et eo
    refine go H et (fun b n => ?_) (hsp w _ a T ns hlen et (.inl (.inr ⟨_, ea⟩))) (fun b u z => ?_) (fun b z => ?_) fun _ => hk
    · by_cases e : b = a
      · exact .inr ⟨_, _, by rw [e]; exact ea⟩
      · exact .inl (eo b e n)
    · by_cases e : b = a
      · subst e
        rw [ea] at z
        cases z
        exact ⟨hobj, by rw [List.length_map]; exact small, vs, _, rv, hobj⟩
      · by_cases e2 : b = T
        · subst e2
          rw [et] at z
          cases z
          exact eT
        · rw [eo b e e2] at z
          cases z
    · by_cases e : b = a
      · exact .inl e
      · by_cases e2 : b = T
        · exact .inr e2
        · exact absurd (eo b e e2) z
end
end Vn
namespace Vn
open PySem PySem.Spec PyProof.Rows L2
/-! ### classes, a def with defaults, the maker of a lambda: what the top says of them -/
def inS : Stmt → Nat → Stmt
  | .ClassDef _ _ _ b _ _ _ _ _ _ _, j => b.getD j (.Pass ⟨0, 0, 0, 0⟩)
  | _, _ => .Pass ⟨0, 0, 0, 0⟩
/-- an own class over ValueError without rows of its own -/
structure VBase (K : PySem.W.Frag) (mg : Str → Option Value) (x : String) (V : Addr) : Prop where
  m : mg x = some (.ref V)
  rd : PySem.W.readsIn K V (.type "type") = true
  ga : PySem.W.specialIn K (.ref V) "__getattribute__" = some (some (.builtin "type.__getattribute__"))
  ini : PySem.W.findCls K (.ref V) (.type "type") "__init__" = some (.val (.builtin "ValueError.__init__"))
/-- an error class with its own __init__ -/
structure ECls (K : PySem.W.Frag) (mg : Str → Option Value) (x qual : String) (st : Stmt) (ps : List Str) (C fI : Addr) (fd : FuncData) (V : Addr) : Prop where
  m : mg x = some (.ref C)
  T : OexC K C
  iC : PySem.W.findIn K (.ref C) "__init__" = some (some (.ref fI))
  tI : PySem.W.typeIn K (.ref fI) = some (.type "function")
  F : Fun K "__init__" qual st fI fd
  b : Binds K fd ps []
  te : PySem.W.exmOne K (.ref C) (.ref C) = some true
  E : ExcC K C
  kV : PySem.W.kitOne K (.ref C) (.ref V) = some true
  kE : PySem.W.kitOne K (.ref C) (.type "ValueError") = some true
/-- the empty tuple of the written part -/
def NilT (K : PySem.W.Frag) (e : Addr) : Prop := ∃ (dd : Option Addr) (n : Nat) (sl : Array (Option Value)), K.lookup e = some ⟨.type "tuple", dd, .seq #[] n, sl⟩
theorem NilT.sq {K : PySem.W.Frag} {e : Addr} (h : NilT K e) (H : Hp) : SqT K H e [] := by
  obtain ⟨dd, n, sl, e⟩ := h
  exact .inr ⟨_, #[], n, e, rfl, rfl, Nat.zero_le _, .nil⟩
/-- a def of two parameters, () their defaults -/
structure Df2 (K : PySem.W.Frag) (mg : Str → Option Value) (x : String) (st : Stmt) (ps : List Str) (f : Addr) (fd : FuncData) (e0 e1 : Addr) : Prop where
  F : FunD K x x (defArgs st) (defBody st) (defScope st) [.ref e0, .ref e1] [] f fd
  n0 : NilT K e0
  n1 : NilT K e1
  b2 : Binds K fd ps []
  b1 : ∃ ds, Vals [.ref e1] ds ∧ Binds K fd ps ds
  b0 : ∃ ds, Vals [.ref e0, .ref e1] ds ∧ Binds K fd ps ds
  m : mg x = some (.ref f)
/-- a def whose code object stands at c -/
structure DfC (K : PySem.W.Frag) (mg : Str → Option Value) (x : String) (st : Stmt) (ps : List Str) (f : Addr) (fd : FuncData) (c : Addr) : Prop where
  ex : ∃ (oc : Value) (od : Option Addr) (kV doc pm : Value) (an : Option Addr) (ct : Value) (osl : Array (Option Value)),
    fd = PySem.W.fnOf x x (defArgs st) (defBody st) (defScope st) .none kV doc pm an (.ref c) ct ∧ K.lookup f = some ⟨oc, od, .func fd, osl⟩ ∧ PySem.W.codeIn K (.ref c) x = true
  kp : PySem.W.keepIn K (.ref f) = true
  b : Binds K fd ps []
  m : mg x = some (.ref f)
structure KpO (K : PySem.W.Frag) (f : Addr) : Prop where
  kp : PySem.W.keepIn K (.ref f) = true
theorem DfC.F {K : PySem.W.Frag} {mg : Str → Option Value} {x : String} {st : Stmt} {ps : List Str} {f c : Addr} {fd : FuncData} (D : DfC K mg x st ps f fd c) : KpO K f := ⟨D.kp⟩
theorem DfC.ok {P : Program} {w : World} {K : PySem.W.Frag} {mg : Str → Option Value} {base : Heap} {x : String} {st : Stmt} {ps N : List Str} {f c : Addr} {fd : FuncData} {k : Nat} {sp : Sp} (D : DfC K mg x st ps f fd c) (S : FnScope N ps (defScope st))
    (len : ∀ vs H Q E, sp vs H Q E → vs.length = ps.length)
    (body : ∀ (A : Around) (outer : List Env) (s : Shared) (H : Hp) (vs : List V) (Q : VK) (E : XK), Room k (A.deeper (envOfC x (defScope st) s.heap.objs.size f (.ref c))) → sp vs H Q E →
      ∃ t, PSs (cxOf CX0 P w K mg base N x (defScope st) f (.ref c) A outer s H E).nox (defBody st) t ∧ t { nx := fun _ H' => Q .non H', rt := Q } (start N vs) H) : FnOk P w K mg base CX0 (k + 1) f fd ps sp := by
  obtain ⟨oc, od, kV, doc, pm, an, ct, osl, rfl, lk, hcd⟩ := D.ex
  refine fn_of lk hcd S len fun A outer s H vs Q E hr hsp => ?_
  obtain ⟨t, h, q⟩ := body A outer s H vs Q E hr hsp
  exact ⟨t, h.nox, q⟩
end Vn

set_option Elab.async false
set_option linter.all false
set_option maxRecDepth 100000
set_option maxHeartbeats 4000000
/-! Vn: sorted(t, key=lambda pair: pair[0]) of a tuple of tuples that begin with texts. -/
namespace Vn
open PySem PySem.Spec PyProof.Rows L2
section
variable {prog : Program} {w : World} {A : Around} {E : Value → Shared → Prop} {s : Shared}
/-- a tuple's items, gathered -/
theorem collect_tup {l : Addr} {vs : List Value} {Q : List Value → Shared → Prop} (hl : IsTup s.heap l vs.toArray)
    (h : Q vs { s with heap := (s.heap.push (seqObj "list" #[] 0)).update s.heap.objs.size (Obj.mapSeq (· ++ vs.toArray)) }) (hz : vs.length ≤ sizeLine) :
    wpAny (model prog w) A (collect (.ref l)) Q E s := by
  obtain ⟨o, ho, hc, n, hd⟩ := id hl
  have new0 := Heap.get?_push_size s.heap (o := seqObj "list" #[] 0) rfl
  unfold collect
  refine wpAny_bind (wpAny_runValue (codeAny_builtin entry_proto_collect' ?_))
  show wpAny _ _ (do again (.builtin "list.__iadd__" ⟨[← newList [], .ref l], []⟩)) _ _ s
  refine wpAny_bind (wpAny_newList (wpAny_pure ⟨Code.quiet_builtin _ (by decide +kernel), codeAny_builtin entry_list_iadd' ?_⟩))
  show wpAny _ _ (Builtin.List.listExtendWith (.ref s.heap.objs.size) (.ref l) (.ref s.heap.objs.size)) _ _ { s with heap := s.heap.push (seqObj "list" #[] 0) }
  have ho' : (s.heap.push (seqObj "list" #[] 0)).get? l = some o := Heap.get?_push_of_some _ ho
  have two : (Value.type "tuple" == Value.type "list" || Value.type "tuple" == Value.type "tuple") = true := by decide
  unfold Builtin.List.listExtendWith
  refine wpAny_bind (wpAny_typeOf (T := "tuple") ⟨o, ho', hc⟩ ?_)
  rw [if_pos (by first | exact two | (simp; done) | decide)]
  refine wpAny_bind (listItems_at ho' hd ?_)
  refine wpAny_bind (listItems_at (xs := #[]) (n := 0) new0 rfl ?_)
  rw [if_neg (by simp)]
  have fits : ((#[] : Array Value) ++ vs.toArray).size ≤ sizeLine + 1 := by
    simp only [Array.size_append, List.size_toArray, List.length_nil]
    omega
  refine wpAny_bind (listUpdate_at (xs := #[]) (n := 0) new0 rfl ?_ (Nat.zero_le _) fits)
  refine wpAny_pure ?_
  show wpAny (model prog w) A (do
      let o ← load s.heap.objs.size
      match o.data with
      | .seq xs _ => pure xs.toList
      | _ => unsupported "internal:collect") Q E { s with heap := (s.heap.push (seqObj "list" #[] 0)).update s.heap.objs.size (Obj.mapSeq (· ++ vs.toArray)) }
  refine wpAny_bind (wpAny_load (get?_update_seq new0 _) ?_)
  show wpAny _ _ (pure ((#[] : Array Value) ++ vs.toArray).toList) Q E _
  have e : ((#[] : Array Value) ++ vs.toArray).toList = vs := by simp
  rw [e]
  exact wpAny_pure h
/-- sorted(t, ..): list.sort(..) of a new list of the tuple's items -/
theorem sorted_tup {l : Addr} {vs : List Value} {kw : List (Str × Value)} {Q : Value → Shared → Prop} (hl : IsTup s.heap l vs.toArray) (hz : vs.length ≤ sizeLine) (ha1 : argsOk "sorted" ⟨[.ref l], kw⟩) (ha2 : ∀ x, argsOk "list.sort" ⟨[.ref x], kw⟩)
    (body : ∀ E' : Value → Shared → Prop, wpAny (model prog w) A.in1.in1 (Builtin.«list.sort» ⟨[.ref (s.heap.objs.size + 1)], kw⟩) (fun f s' => f = .done (.ret .none) ∧ Q (.ref (s.heap.objs.size + 1)) s') E' { s with heap := PySem.W.copyHeap s.heap vs }) :
    wpAny (model prog w) A (call (.builtin "sorted") [.ref l] kw) Q E s := by
  have size2 : ((s.heap.push (seqObj "list" #[] 0)).update s.heap.objs.size (Obj.mapSeq (· ++ vs.toArray))).objs.size = s.heap.objs.size + 1 := by
    rw [Heap.size_update, size_push']
  refine PyProof.Rows.call_function_entry_kw kind_sorted plain_sorted entry_sorted ha1 ?_
  unfold Builtin.«sorted»
  refine wpAny_bind (m := checkCount "sorted" 1 1 _) (wpAny_pure (wpAny_bind (collect_tup hl ?_ hz)))
  refine wpAny_bind (wpAny_newList ?_ hz)
  show wpAny _ _ _ _ _ { s with heap := PySem.W.copyHeap s.heap vs }
  rw [size2]
  refine wpAny_bind (wpAny_holding (wpAny_call_entry_kw slot_list_sort ⟨_, PySem.W.copyHeap_at s.heap vs, rfl⟩ entry_list_sort ?go (ha2 _)))
  case go =>
    show wpAny (model prog w) A.in1.in1 (Builtin.«list.sort» ⟨[.ref (s.heap.objs.size + 1)], kw⟩) _ _ _
    refine wpAny_mono (body _) (fun f s' z => ?_) fun _ _ z => z
    obtain ⟨rfl, q⟩ := z
    exact ⟨_, rfl, wpAny_pure ⟨_, rfl, q⟩⟩
/-- .. by keys that are alike data -/
theorem sorted_tup_key {β : Type} {vs : List Value} {bs : List β} {R : Value → β → Prop} {l : Addr} {f : Value} {kw : List (Str × Value)} {b : Bool} {Q : Value → Shared → Prop} (k : β → PyData) (hl : IsTup s.heap l vs.toArray) (e : PySem.W.EachIs R vs bs) (hal : PySem.W.AllAlike (bs.map k)) (hk : PySem.W.Sortable (bs.map k)) (hL : bs.length ≤ sizeLine)
    (hu : ∀ x, x ∈ bs → A.units + 2 + (k x).depth < cLine) (ha1 : argsOk "sorted" ⟨[.ref l], kw⟩) (ha2 : ∀ x, argsOk "list.sort" ⟨[.ref x], kw⟩) (ht : ∀ x, Builtin.«list.sort» ⟨[.ref x], kw⟩ = ksk_tree x f b)
    (turn : ∀ (v : Value) (x : β), R v x → x ∈ bs → ∀ (h : Heap) (tk : Nat), (∀ b o, s.heap.get? b = some o → h.get? b = some o) →
      wpAny (model prog w) A.in1.in1 (call f [v]) (PySem.W.KeyPure (k x) { s with heap := h, toks := tk }) (fun _ _ => False) { s with heap := h, toks := tk })
    (h : ∀ out c h' tk, (∀ b o, s.heap.get? b = some o → h'.get? b = some o) → h'.get? (s.heap.objs.size + 1) = some (seqObj "list" (List.toArray out) c) → PySem.W.EachIs R out (bs.mergeSort (PySem.W.dataLe b k)) →
      Q (.ref (s.heap.objs.size + 1)) { s with heap := h', toks := tk }) :
    wpAny (model prog w) A (call (.builtin "sorted") [.ref l] kw) Q E s := by
  have len := e.length
  have up : ∀ {g : Heap}, PySem.W.KeepsBut (s.heap.objs.size + 1) (PySem.W.copyHeap s.heap vs) g → ∀ b o, s.heap.get? b = some o → g.get? b = some o := fun {g} kp b o q =>
    kp b o (Nat.ne_of_lt (Nat.lt_succ_of_lt (Heap.lt_size q))) (PySem.W.copyHeap_old q)
  refine sorted_tup hl (by rw [len]; exact hL) ha1 ha2 fun E' => ?_
  rw [ht]
  refine PySem.W.keyH_tree (kz := bs.map k) (s := { s with heap := PySem.W.copyHeap s.heap vs }) (PySem.W.copyHeap_at s.heap vs) (by rw [List.length_map]; exact len.symm) (by rw [len]; exact hL) hal hk (PySem.W.bound_map (A := A.in1.in1) hu)
    (PySem.W.keyH_turns (s := { s with heap := PySem.W.copyHeap s.heap vs }) e fun v x hR hx h tk kp => turn v x hR hx h tk (up kp)) fun h' tk out c kp hD ko => ⟨rfl, ?_⟩
  exact h out c h' tk (up kp) hD (PySem.W.keyedOut_each k ko e)
end
/-! ### the lambda -/
def lamP (pp : Pos) : Arguments := { posonlyargs := [], args := [{ arg := "pair", annotation := none, pos := pp }], vararg := none, kwonlyargs := [], kw_defaults := [], kwarg := none, defaults := [] }
def lamSc : Scope := { kind := .function, names := [(Str.ofString "pair", .local)], isGenerator := false, isCoroutine := false, more := [] }
def lamB (p1 p2 p3 : Pos) (k : Nat) : Expr := .Subscript (.Name "pair" p1) (.Constant (.int 0) k p2) p3
section
variable {prog : Program} {w : World} {A : Around} {s : Shared}
/-- the call of the lambda at a tuple that begins with the text x -/
theorem lam_call {f c' t : Addr} {q : Str} {pp p1 p2 p3 : Pos} {k : Nat} {cl : List (Str × Addr)} {pm ctv : Value} {us : List Value} {x : Str} {tk0 : Tok} (hf : s.heap.get? f = some (PySem.W.kla_obj "<lambda>" q (lamP pp) (lamB p1 p2 p3 k) lamSc cl pm c' ctv))
    (hc : ∃ (oc : Obj) (vs : Array Value) (t : Tok), s.heap.get? c' = some oc ∧ oc.data = .fields vs ∧ vs[1]? = some (.str q t)) (lim : s.heap.NoLimit) (hd : A.depth < recursionLimit)
    (ht : IsTup s.heap t (Value.str x tk0 :: us).toArray) :
    wpAny (model prog w) A (call (.ref f) [.ref t]) (PySem.W.KeyPure (.str x) s) (fun _ _ => False) s := by
  obtain ⟨oc, vs, tq, hoc, hdc, hvc⟩ := hc
  refine wpAny_call (PySem.W.kla_callFunE hd hf rfl rfl rfl rfl ⟨c', oc, vs, tq, rfl, hoc, hdc, hvc⟩ ?_)
  have hb : bindArgs (PySem.W.kla_fn "<lambda>" q (lamP pp) (lamB p1 p2 p3 k) lamSc cl pm (.ref c') ctv) ⟨[.ref t], []⟩ = pure [(Str.ofString "pair", Value.ref t)] := by first | rfl | with_unfolding_all rfl
  show wpAny _ _ (bindArgs (PySem.W.kla_fn "<lambda>" q (lamP pp) (lamB p1 p2 p3 k) lamSc cl pm (.ref c') ctv) ⟨[.ref t], []⟩) _ _ _
  rw [hb]
  refine wpAny_pure (wpAny_newFunctionEnv (fun y hy => ?_) (fun y hy => ?_) (fun h₁ hns hsb => ⟨lim.fresh _ hsb, ?_⟩) rfl)
  · obtain rfl := List.mem_singleton.mp hy
    exact fun z => nomatch z
  · obtain rfl := List.mem_singleton.mp hy
    rfl
  · have kp : ∀ b o, s.heap.get? b = some o → h₁.get? b = some o := fun b o e => hsb.extBut b o (Nat.ne_of_lt (Heap.lt_size e)) (Heap.get?_push_of_some _ e)
    show codeAny _ _ (.expr (lamB p1 p2 p3 k) _) _ _
    refine PySem.W.kla_codeExpr (Subscript_ ?_)
    refine wpAny_Name (wpAny_loadName_local rfl (by first | rfl | decide +kernel) hns (v := .ref t) (by first | rfl | decide +kernel) ?_)
    have ht1 : IsTup h₁ t (Value.str x tk0 :: us).toArray := by
      obtain ⟨o, e1, e2, n, e3⟩ := ht
      exact ⟨o, kp _ _ e1, e2, n, e3⟩
    refine wpAny_Constant_int (item_tuple ht1 (by decide) (by decide) (j := 0) ?_ (x := .str x tk0) ?_ ?_)
    · have : 0 < (Value.str x tk0 :: us).toArray.size := by simp
      exact seqIx (by decide) (by exact_mod_cast this)
    · simp
    · exact ⟨_, _, rfl, kp, .str _ _⟩
end
/-! ### the rule -/
/-- all but the table at T stays, and what is tracked stays tracked -/
structure ExtT (T : Addr) (H H' : Hp) : Prop where
  keep : ∀ b o, b ≠ T → H b = some o → H' b = some o
  ext : Ext H H'
theorem ExtT.refl (T : Addr) (H : Hp) : ExtT T H H := ⟨fun _ _ _ h => h, fun _ h => h⟩
theorem ExtT.trans {T : Addr} {H H1 H2 : Hp} (a : ExtT T H H1) (b : ExtT T H1 H2) : ExtT T H H2 := ⟨fun c o n h => b.keep c o n (a.keep c o n h), a.ext.trans b.ext⟩
theorem ExtT.of {T : Addr} {H H' : Hp} (e : Same H H') : ExtT T H H' := ⟨fun b o _ h => e b o h, .of_same e⟩
theorem ExtT.sq {K : PySem.W.Frag} {T : Addr} {H H' : Hp} {q : Str} {a : Addr} {xs : List V} (t : LamX.TabS H T q) (e : ExtT T H H') (h : SqT K H a xs) : SqT K H' a xs := by
  obtain ⟨ps, hT, _⟩ := t
  have ne : ∀ {o : HO}, H a = some o → (∀ ps, o ≠ .tbl ps) → a ≠ T := fun {o} h n z => by
    rw [z, hT] at h
    exact n ps (Option.some.inj h).symm
  rcases h with (h | ⟨o, h⟩) | h
  · exact .inl (.inl (e.keep _ _ (ne h fun _ z => nomatch z) h))
  · exact .inl (.inr ⟨o, e.keep _ _ (ne h fun _ z => nomatch z) h⟩)
  · exact .inr h
/-- the lambda is made: the table grows by its code object, or has it -/
theorem lam_made {X : Cx} {pins : List (Addr × Obj)} {σ : L2.St} {H : Hp} {s : Shared} {T c : Addr} {q : Str} {params : Arguments} {body : Expr} {scope : Scope} {pos : Pos} {E : Value → Shared → Prop} {Q : Value → Shared → Prop} (I : Inv X pins σ H s) (TB : LamX.TabB X.base X.mg c T) (hcode : X.env.code = .ref c)
    (hq : X.env.qual ++ "<lambda>" = q) (hT : LamX.TabS H T q) (hdef : defaultsOf params X.env = ([], [])) (hfree : ∀ y ∈ scope.names, y.2 = .free → ∃ c, X.env.cells.lookup y.1 = some c)
    (h : ∀ (f c' : Addr) (pm ctv : Value) (H1 : Hp) (s' : Shared), Inv X pins σ H1 s' → ExtT T H H1 → LamX.TabS H1 T q →
      s'.heap.get? f = some (PySem.W.kla_obj "<lambda>" q params body scope (cloFrom X.env.cells scope.names []) pm c' ctv) → H1 c' = some (LamX.CodeO c' q) → Q (.ref f) s') :
    wpAny (model X.prog X.w) X.A (eval (.Lambda params body scope pos) X.env) Q E s := by
  subst hq
  obtain ⟨ps, tT, ok3, found⟩ := hT
  have bT : s.heap.BuiltinsAt X.mg T := TB.bm.keeps I.bk
  have oT : s.heap.get? T = some { cls := .none, data := .fields ps } := I.hok T _ tT
  refine PySem.W.kla_eval hdef ?_
  cases hit : codeAmong pos ps.toList with
  | some cv =>
    obtain ⟨c', rfl, eC⟩ := found pos cv hit
    refine PySem.W.kla_makeFunctionHit (mg := X.mg) (c := c) (P := T) (ps := ps) (closure_ok hfree) I.ok.glob (I.mod.glob.keeps I.bk) hcode (TB.code.keeps I.bk) oT ok3 hit bT fun ctv h' tk keep _ => ?_
    have J : Inv X pins σ H { s with heap := h'.push (PySem.W.kla_obj "<lambda>" (X.env.qual ++ "<lambda>") params body scope (cloFrom X.env.cells scope.names []) ((X.mg "__name__").getD .none) c' ctv), toks := tk } := I.kept fun b o e => Heap.get?_push_of_some _ (keep b o e)
    exact h h'.objs.size c' _ ctv H _ J (ExtT.refl T H) ⟨ps, tT, ok3, found⟩ (Heap.get?_push_size _ rfl) eC
  | none =>
    refine PySem.W.kla_makeFunction (mg := X.mg) (c := c) (P := T) (ps := ps) (closure_ok hfree) I.ok.glob (I.mod.glob.keeps I.bk) hcode (TB.code.keeps I.bk) oT ok3 hit TB.gP bT fun c' ctv h' tk keep ge lt rec_ tab => ?_
    obtain ⟨c2, oc, vs, t, e2, hoc, hd, hv⟩ := rec_
    cases e2
    have nC : H c' = none := I.hok.fresh ge
    have neTC : T ≠ c' := ne_of_none tT nC
    have J := LamX.inv_table (t' := tk) (more := #[rawInt pos.line, rawInt pos.col, .ref c']) (h' := h'.push (PySem.W.kla_obj "<lambda>" (X.env.qual ++ "<lambda>") params body scope (cloFrom X.env.cells scope.names []) ((X.mg "__name__").getD .none) c' ctv)) I tT
      (fun b o n e => Heap.get?_push_of_some _ (keep b o n e)) (Heap.get?_push_of_some _ tab) ge ⟨oc, vs, t, Heap.get?_push_of_some _ hoc, hd, hv⟩
    have grown : (ps ++ #[rawInt pos.line, rawInt pos.col, .ref c']).toList = ps.toList ++ [rawInt pos.line, rawInt pos.col, .ref c'] := by simp
    have ext : ExtT T H (upd (upd H T (.tbl (ps ++ #[rawInt pos.line, rawInt pos.col, .ref c']))) c' (LamX.CodeO c' (X.env.qual ++ "<lambda>"))) :=
      ⟨fun b o n e => by rw [upd_ne (ne_of_none e nC), upd_ne n]; exact e, Ext.upd.trans Ext.upd⟩
    refine h h'.objs.size c' _ ctv _ _ J ext ⟨_, by rw [upd_ne neTC, upd_same], by rw [grown]; exact PySem.TriplesOk_snoc _ _ _ _ ok3, fun p' cv e => ?_⟩ (Heap.get?_push_size _ rfl) upd_same
    rw [grown] at e
    rcases LamX.among_app _ ok3 e with z | z
    · obtain ⟨c0, e1, e2⟩ := found p' cv z
      exact ⟨c0, e1, ext.keep _ _ (fun w => LamX.codeO_ne ps (Option.some.inj ((by rw [← w]; exact e2 : H T = _).symm.trans tT))) e2⟩
    · exact ⟨c', z, upd_same⟩
def leS (a b : Addr × Str) : Bool := decide (a.2.cps.toList ≤ b.2.cps.toList)
def tSortL (K : PySem.W.Frag) (T : Addr) (q : Str) (te : TE) : TE := fun σ H Q => te σ H fun x H1 => ∃ (a : Addr) (bs : List (Addr × Str)), x = .ref a ∧ SqT K H1 a (bs.map fun b => V.ref b.1) ∧ bs.length ≤ sizeLine ∧ (∀ b ∈ bs, ∃ us, SqT K H1 b.1 (.str b.2 :: us)) ∧
  LamX.TabS H1 T q ∧ ∀ (H2 : Hp) (l : Addr), ExtT T H1 H2 → LamX.TabS H2 T q → H2 l = none → Q (.ref l) (upd H2 l (.lst ((bs.mergeSort leS).map fun b => V.ref b.1)))
theorem each_refs {R : Value → Addr × Str → Prop} : ∀ {bs : List (Addr × Str)} {its : List Value}, Vals (bs.map fun b => V.ref b.1) its → (∀ b ∈ bs, R (.ref b.1) b) → PySem.W.EachIs R its bs
  | [], _, .nil, _ => .nil
  | b :: bs, _, .cons r t, h => by
    cases r
    exact .cons (h b List.mem_cons_self) (each_refs t fun c hc => h c (List.mem_cons_of_mem _ hc))
theorem refs_each {R : Value → Addr × Str → Prop} (hR : ∀ v b, R v b → v = .ref b.1) : ∀ {its : List Value} {bs : List (Addr × Str)}, PySem.W.EachIs R its bs → Vals (bs.map fun b => V.ref b.1) its
  | _, _, .nil => .nil
  | _, _, .cons r t => by
    obtain rfl := hR _ _ r
    exact .cons rfl (refs_each hR t)
theorem pe_sortL {X : Cx} {K : PySem.W.Frag} {c T : Addr} {q : Str} {e : Expr} {te : TE} {p lp pos pp p1 p2 p3 kp : Pos} {j : Nat} {k : Nat} (hg : Gl X "sorted") (hm : X.mg "sorted" = none) (he : PE X e te) (TB : LamX.TabB X.base X.mg c T) (hc : X.env.code = .ref c)
    (hr : Room k X.A) (hq : X.env.qual ++ "<lambda>" = q) (hK : X.K = K := by rfl)
    (h1 : backTo pos (starEach (e :: []) X.env) = (false, eval e X.env) :: backTo pos (starEach [] X.env) := by rfl) (h2 : (backTo pos (starEach (e :: []) X.env)).any (·.1) = false := by rfl)
    (hdf : defaultsOf (lamP pp) X.env = ([], []) := by rfl) :
    PE X (.Call (.Name "sorted" p) [e] [⟨some "key", .Lambda (lamP pp) (lamB p1 p2 p3 j) lamSc lp, kp⟩] pos) (tSortL K T q te) := by
  subst hK hq
  refine ⟨fun pins s σ H Q I h => ?_⟩
  refine wpAny_Call_Name_kw (ld_blt I hg hm (u := .builtin "sorted") (by decide +kernel) ?_ (by decide) (by decide))
  refine PyProof.Rows.callWith_kw ?_ h1 h2
  rw [h1]
  refine Calls.spliced_cons (thn (he.run pins s σ H _ I h) ?_)
  rintro v s1 ⟨x, H1, I1, r1, a, bs, rfl, hS, hl, hp, hT, q⟩
  cases r1
  refine Calls.spliced_nil ?_
  show wpAny _ _ (evalAll [do let v ← eval (.Lambda (lamP pp) (lamB p1 p2 p3 j) lamSc lp) X.env; standAt pos; pure v]) _ _ s1
  refine wpAny_evalAll_cons (wpAny_bind (lam_made I1 TB hc rfl hT hdf (fun y hy z => ?_) fun f c' pm ctv H2 s2 I2 eN T2 hf hco => wpAny_bind (wpAny_standAt (wpAny_pure ?_))))
  · obtain rfl := List.mem_singleton.mp hy
    cases z
  refine wpAny_evalAll_nil ?_
  show wpAny _ _ (call (.builtin "sorted") [.ref a] [(Str.ofString "key", .ref f)]) _ _ s2
  have hS2 := eN.sq hT hS
  obtain ⟨its, rv, pl, hz⟩ := I2.tuple hS2
  obtain ⟨⟨oc, vs, tq, hoc, hdc, hvc⟩, _, _⟩ := I2.hok c' _ hco
  have hlen : its.length = bs.length := by rw [← rv.length, List.length_map]
  refine sorted_tup_key (β := Addr × Str) (b := false) (bs := bs) (R := fun v b => v = .ref b.1 ∧ ∃ (tk0 : Tok) (us : List Value), IsTup s2.heap b.1 (Value.str b.2 tk0 :: us).toArray) (fun b => .str b.2) pl (each_refs rv fun b hb => ⟨rfl, ?_⟩) (PySem.W.AllAlike.of fun _ _ => by simp [PySem.W.alike]) (PySem.W.Sortable.others fun b => ⟨(fun z => nomatch z), (fun _ z => nomatch z)⟩) hl
    (fun x _ => ?_) (PyProof.Rows.ksk_s1 _ _) (fun _ => PyProof.Rows.ksk_l1 _ _) (fun x => PyProof.Rows.ksk_t1 f x) ?_ ?_
  · obtain ⟨us, hu⟩ := hp b hb
    obtain ⟨its2, rv2, pl2, _⟩ := I2.tuple (eN.sq hT hu)
    cases rv2 with
    | cons r0 rr =>
      obtain ⟨tk0, rfl⟩ := r0
      exact ⟨tk0, _, pl2⟩
  · have := hr.un
    show X.A.units + 2 + 0 < _
    omega
  · rintro v b ⟨rfl, tk0, us, ht⟩ _ h tk kp
    refine lam_call (s := { s2 with heap := h, toks := tk }) (tk0 := tk0) (us := us) (kp _ _ hf) ⟨oc, vs, tq, kp _ _ hoc, hdc, hvc⟩ (I2.nolimit.keeps kp) ?_ ?_
    · have := hr.dp
      show X.A.depth < _
      omega
    · obtain ⟨o, e1, e2, n, e3⟩ := ht
      exact ⟨o, kp _ _ e1, e2, n, e3⟩
  · intro out cc h' tk kp hD eo
    have hsort : bs.mergeSort (PySem.W.dataLe false fun b : Addr × Str => .str b.2) = bs.mergeSort leS := by
      rw [PySem.W.dataLe_str]
      rfl
    rw [hsort] at eo
    have rO := refs_each (fun v b z => z.1) eo
    have hn : H2 (s2.heap.objs.size + 1) = none := I2.hok.fresh (Nat.le_succ _)
    have hlo : ((bs.mergeSort leS).map fun b => V.ref b.1).length ≤ sizeLine := by
      rw [List.length_map, List.length_mergeSort]
      exact hl
    exact ⟨.ref _, upd H2 (s2.heap.objs.size + 1) (.lst ((bs.mergeSort leS).map fun b => V.ref b.1)), I2.laid (t' := tk) kp (Nat.le_succ _) ⟨hlo, out, cc, rO, hD⟩, rfl, q H2 _ eN T2 hn⟩
end Vn

set_option Elab.async false
set_option linter.all false
set_option maxRecDepth 100000
set_option maxHeartbeats 4000000
/-! Vn: what make_tree makes: pairs by their names. -/
namespace Vn
open PySem PySem.Spec PyProof.Rows L2
/-! ### lists as tuples: as large as before -/
mutual
theorem tup_size : ∀ d : PyData, fine (tupD d) = fine d ∧ big (tupD d) = big d ∧ (tupD d).depth = d.depth
  | .none => ⟨rfl, rfl, rfl⟩
  | .bool _ => ⟨rfl, rfl, rfl⟩
  | .int _ => ⟨rfl, rfl, rfl⟩
  | .str _ => ⟨rfl, rfl, rfl⟩
  | .dict _ => ⟨rfl, rfl, rfl⟩
  | .list xs => by
    obtain ⟨h1, h2, h3⟩ := tups_size xs
    rw [tupD]
    refine ⟨?_, ?_, ?_⟩
    · simp only [Vn.fine]; exact h1
    · simp only [Vn.big]; rw [h2]
    · simp only [PyData.depth]; rw [h3]
  | .tuple xs => by
    obtain ⟨h1, h2, h3⟩ := tups_size xs
    rw [tupD]
    refine ⟨?_, ?_, ?_⟩
    · simp only [Vn.fine]; exact h1
    · simp only [Vn.big]; rw [h2]
    · simp only [PyData.depth]; rw [h3]
theorem tups_size : ∀ ds : List PyData, fines (tupDs ds) = fines ds ∧ bigs (tupDs ds) = bigs ds ∧ PyData.depthAll (tupDs ds) = PyData.depthAll ds
  | [] => ⟨rfl, rfl, rfl⟩
  | d :: ds => by
    obtain ⟨a1, a2, a3⟩ := tup_size d
    obtain ⟨b1, b2, b3⟩ := tups_size ds
    rw [tupDs]
    refine ⟨?_, ?_, ?_⟩
    · simp only [Vn.fines]; rw [a1, b1]
    · simp only [Vn.bigs]; rw [a2, b2]
    · simp only [PyData.depthAll]; rw [a3, b3]
end
theorem Ok.tup {d : PyData} (h : Ok d) : Ok (tupD d) := by
  obtain ⟨h1, h2, h3⟩ := tup_size d
  exact ⟨by rw [h1]; exact h.fine, by rw [h2]; exact h.big, by rw [h3]; exact h.depth⟩
theorem perm_size {ds es : List PyData} (p : ds.Perm es) : fines ds = fines es ∧ bigs ds = bigs es ∧ PyData.depthAll ds = PyData.depthAll es := by
  induction p with
  | nil => exact ⟨rfl, rfl, rfl⟩
  | cons x _ ih =>
    obtain ⟨h1, h2, h3⟩ := ih
    exact ⟨by simp only [Vn.fines]; rw [h1], by simp only [Vn.bigs]; rw [h2], by simp only [PyData.depthAll]; rw [h3]⟩
  | swap x y l =>
    refine ⟨?_, ?_, ?_⟩
    · simp only [Vn.fines]; cases fine x <;> cases fine y <;> rfl
    · simp only [Vn.bigs]; omega
    · simp only [PyData.depthAll]; omega
  | trans _ _ ih1 ih2 => exact ⟨ih1.1.trans ih2.1, ih1.2.1.trans ih2.2.1, ih1.2.2.trans ih2.2.2⟩
/-! ### by name -/
def leD (d e : PyData) : Bool := decide ((keyD d).cps.toList ≤ (keyD e).cps.toList)
def byD (d : PyData) : PyData := if namedD d = true then .tuple ((itemsD d).mergeSort leD) else d
theorem by_size (d : PyData) : fine (byD d) = fine d ∧ big (byD d) = big d ∧ (byD d).depth = d.depth := by
  unfold byD
  by_cases h : namedD d = true
  · rw [if_pos h]
    obtain ⟨ds, rfl⟩ := named_tup h
    obtain ⟨h1, h2, h3⟩ := perm_size (List.mergeSort_perm ds leD)
    refine ⟨?_, ?_, ?_⟩
    · simp only [Vn.fine]; exact h1
    · simp only [Vn.big]; rw [show itemsD (.tuple ds) = ds from rfl, h2]
    · simp only [PyData.depth]; rw [show itemsD (.tuple ds) = ds from rfl, h3]
  · rw [if_neg h]
    exact ⟨rfl, rfl, rfl⟩
/-- the tree of pairs as they are passed, if it is one -/
def mkD (p c : PyData) : PyData := .tuple [byD (tupD p), byD (tupD c)]
theorem mk_ok {p c : PyData} (h : Ok (.tuple [p, c])) : Ok (mkD p c) := by
  obtain ⟨a1, a2, a3⟩ := by_size (tupD p)
  obtain ⟨b1, b2, b3⟩ := by_size (tupD c)
  obtain ⟨c1, c2, c3⟩ := tup_size p
  obtain ⟨d1, d2, d3⟩ := tup_size c
  have e1 := h.fine
  have e2 := h.big
  have e3 := h.depth
  simp only [Vn.fine, Vn.fines] at e1
  simp only [Vn.big, Vn.bigs] at e2
  simp only [PyData.depth, PyData.depthAll] at e3
  refine ⟨?_, ?_, ?_⟩
  · simp only [mkD, Vn.fine, Vn.fines]
    rw [a1, b1, c1, d1]
    exact e1
  · simp only [mkD, Vn.big, Vn.bigs]
    rw [a2, b2, c2, d2]
    exact e2
  · simp only [mkD, PyData.depth, PyData.depthAll]
    rw [a3, b3, c3, d3]
    exact e3
/-! ### items by their places -/
theorem DpAll_pairs {K : PySem.W.Frag} {H : Hp} : ∀ {ds : List PyData} {xs : List V}, DpAll K H xs ds → (∀ d ∈ ds, nmD d = true) → ∃ L : List (Addr × PyData), xs = L.map (fun p => V.ref p.1) ∧ ds = L.map (·.2) ∧ ∀ p ∈ L, Dp K H (.ref p.1) p.2
  | [], _, .nil, _ => ⟨[], rfl, rfl, fun _ h => nomatch h⟩
  | d :: ds, _, .cons h t, hn => by
    obtain ⟨L, e1, e2, h3⟩ := DpAll_pairs t fun x hx => hn x (List.mem_cons_of_mem _ hx)
    obtain ⟨x, b, rfl, _⟩ := named_is (hn d List.mem_cons_self)
    cases h with
    | @tup a xs _ hs ha =>
      refine ⟨(a, .tuple [.str x, b]) :: L, by rw [e1]; rfl, by rw [e2]; rfl, fun p hp => ?_⟩
      rcases List.mem_cons.mp hp with rfl | hp
      · exact .tup hs ha
      · exact h3 p hp
theorem pairs_DpAll {K : PySem.W.Frag} {H : Hp} : ∀ {L : List (Addr × PyData)}, (∀ p ∈ L, Dp K H (.ref p.1) p.2) → DpAll K H (L.map fun p => V.ref p.1) (L.map (·.2))
  | [], _ => .nil
  | p :: L, h => .cons (h p List.mem_cons_self) (pairs_DpAll fun q hq => h q (List.mem_cons_of_mem _ hq))
theorem pairs_key {K : PySem.W.Frag} {H : Hp} {a : Addr} {d : PyData} (h : Dp K H (.ref a) d) (n : nmD d = true) : ∃ us, SqT K H a (.str (keyD d) :: us) := by
  obtain ⟨x, b, rfl, _⟩ := named_is n
  cases h with
  | tup hs ha =>
    cases ha with
    | cons h0 h1 =>
      cases h0
      exact ⟨_, hs⟩
/-- the sort's own order, told of data -/
theorem sort_data (L : List (Addr × PyData)) : (((L.map fun p => (p.1, keyD p.2)).mergeSort leS).map fun b => V.ref b.1) = (L.mergeSort fun p q => leD p.2 q.2).map (fun p => V.ref p.1) := by
  have e : (L.map fun p => (p.1, keyD p.2)).mergeSort leS = (L.mergeSort fun p q => leD p.2 q.2).map fun p => (p.1, keyD p.2) :=
    (List.map_mergeSort (f := fun p : Addr × PyData => (p.1, keyD p.2)) (r := fun p q => leD p.2 q.2) (s := leS) fun a _ b _ => rfl).symm
  rw [e, List.map_map]
  rfl
theorem sort_snd (L : List (Addr × PyData)) : ((L.mergeSort fun p q => leD p.2 q.2).map (·.2)) = (L.map (·.2)).mergeSort leD :=
  List.map_mergeSort fun a _ b _ => rfl
/-! ### a table beside all -/
def qL : Str := Str.ofString "by_name.<locals>.<lambda>"
theorem TabS.ne {T a : Addr} {H : Hp} {q : Str} {o : HO} (t : LamX.TabS H T q) (h : H a = some o) (n : ∀ ps, o ≠ .tbl ps) : a ≠ T := fun z => by
  obtain ⟨ps, hT, _⟩ := t
  rw [z, hT] at h
  exact n ps (Option.some.inj h).symm
theorem ExtT.sqL {K : PySem.W.Frag} {T : Addr} {H H' : Hp} {q : Str} {a : Addr} {xs : List V} (t : LamX.TabS H T q) (e : ExtT T H H') (h : SqL K H a xs) : SqL K H' a xs := by
  rcases h with (h | ⟨o, h⟩) | h
  · exact .inl (.inl (e.keep _ _ (TabS.ne t h fun _ z => nomatch z) h))
  · exact .inl (.inr ⟨o, e.keep _ _ (TabS.ne t h fun _ z => nomatch z) h⟩)
  · exact .inr h
mutual
/-- data stands where all but a table stays -/
theorem Dp_extT {K : PySem.W.Frag} {T : Addr} {H H' : Hp} {q : Str} (t : LamX.TabS H T q) (e : ExtT T H H') : ∀ {d : PyData} {v : V}, Dp K H v d → Dp K H' v d
  | _, _, .non => .non
  | _, _, .bl b => .bl b
  | _, _, .int i => .int i
  | _, _, .str x => .str x
  | _, _, .lst h a => .lst (e.sqL t h) (DpAll_extT t e a)
  | _, _, .tup h a => .tup (e.sq t h) (DpAll_extT t e a)
theorem DpAll_extT {K : PySem.W.Frag} {T : Addr} {H H' : Hp} {q : Str} (t : LamX.TabS H T q) (e : ExtT T H H') : ∀ {ds : List PyData} {vs : List V}, DpAll K H vs ds → DpAll K H' vs ds
  | _, _, .nil => .nil
  | _, _, .cons h a => .cons (Dp_extT t e h) (DpAll_extT t e a)
end
/-- what was new ahead of B's table's growth -/
theorem newp_extT {T : Addr} {B H H' : Hp} (hT : B T ≠ none) (e : ExtT T H H') : Same (newp B H) (newp B H') := fun a o h => by
  obtain ⟨h1, h2⟩ := newp_some h
  rw [newp_of h1]
  exact e.keep a o (fun z => hT (by rw [← z]; exact h1)) h2
/-- by_name(pairs) -/
def spBy (K : PySem.W.Frag) (T : Addr) : Sp := fun vs H Q _ => ∃ (v : V) (d : PyData) (B : Hp), vs = [v] ∧ Dp K (newp B H) v d ∧ Ok d ∧ Ext B H ∧ B T ≠ none ∧ LamX.TabS H T qL ∧
  ∀ v' H', ExtT T H H' → LamX.TabS H' T qL → Dp K (newp B H') v' (byD d) → Q v' H'
/-- make_tree(props, children); C: the class of what is raised -/
def spMake (K : PySem.W.Frag) (T C : Addr) : Sp := fun vs H Q E => ∃ (v0 v1 : V) (d0 d1 : PyData), vs = [v0, v1] ∧ Dp K H v0 d0 ∧ Dp K H v1 d1 ∧ Ok (.tuple [d0, d1]) ∧ LamX.TabS H T qL ∧
  (treeD 9 (mkD d0 d1) = true → ∀ v' H', ExtT T H H' → LamX.TabS H' T qL → Dp K (newp H H') v' (mkD d0 d1) → Q v' H') ∧
  (treeD 9 (mkD d0 d1) = false → ∀ H', ExtT T H H' → LamX.TabS H' T qL → E (.ref C) none H')
end Vn

set_option Elab.async false
set_option linter.all false
set_option maxRecDepth 100000
set_option maxHeartbeats 4000000
/-! Vn: sorted(d) of a dict with texts as keys, of any length; what is due of pairs. -/
namespace Vn
open PySem PySem.Spec PyProof.Rows L2
def leStr (x y : Str) : Bool := decide (x.cps.toList ≤ y.cps.toList)
theorem each_strs : ∀ {out : List Value} {ys : List Str}, PySem.W.EachIs (fun v x => ∃ t : Tok, v = Value.str x t) out ys → Vals (ys.map V.str) out
  | _, _, .nil => .nil
  | _, _, .cons h t => .cons h (each_strs t)
theorem strs_each : ∀ {us : List Value} {ks : List Str}, us.length = ks.length → (∀ (j : Nat) (v : Value), us[j]? = some v → ∃ (x : Str) (t : Tok), ks[j]? = some x ∧ v = Value.str x t) → PySem.W.EachIs (fun v x => ∃ t : Tok, v = Value.str x t) us ks
  | [], [], _, _ => .nil
  | u :: us, k :: ks, hl, h => by
    obtain ⟨x, t, e1, e2⟩ := h 0 u rfl
    obtain rfl := Option.some.inj e1
    exact .cons ⟨t, e2⟩ (strs_each (by simpa using hl) fun j v e => by
      obtain ⟨x, t, a, b⟩ := h (j + 1) v (by simpa using e)
      exact ⟨x, t, by simpa using a, b⟩)
  | [], _ :: _, hl, _ => by simp at hl
  | _ :: _, [], hl, _ => by simp at hl
/-- sorted(d), the keys texts, any number of them -/
theorem sortedDA {X : Cx} (hcalm : X.calm = true) (hu : X.A.units + 64 < cLine) : CallR X (.builtin "sorted") (fun xs H Q => ∃ (a : Addr) (kvs : List (Key × V)) (ks : List Str), xs = [.ref a] ∧ Rd H a (.dK kvs) ∧ kvs.map (·.1) = ks.map Sum.inr ∧ ks.length ≤ sizeLine ∧
    ∀ p, H p = none → Q (.ref p) (upd H p (.lst ((ks.mergeSort leStr).map V.str)))) := by
  intro pins s σ H xs us Q I r q
  obtain ⟨a, kvs, ks, rfl, hd, hks, hz, q⟩ := q
  obtain ⟨u, rfl, rx⟩ := vals1 r
  cases rx
  obtain ⟨z, lo, vs, rel, dd⟩ := dk_rd I.hok hd
  obtain ⟨ep, hat⟩ := dd.dictAt
  have hkeys : vs.map (·.1) = ks.map Sum.inr := rel.keys.symm.trans hks
  have hl : vs.length = ks.length := by
    have e := congrArg List.length hkeys
    rw [List.length_map, List.length_map] at e
    exact e
  refine Calls.call_function_entry PyProof.Rows.kind_sorted PyProof.Rows.plain_sorted PyProof.Rows.entry_sorted (PyProof.Rows.args_sorted1 _) ?_
  unfold Builtin.«sorted»
  refine wpAny_bind (m := checkCount "sorted" 1 1 _) (wpAny_pure ?_)
  refine wpAny_bind (PySem.W.kdu_collect (A := X.A.in1) (PySem.W.kdl_dict (knd := mixKind X.prog X.w) (kvs := vs) (ep := ep) lo) (I.ok.hd hcalm) hat (by rw [hl]; exact hz) fun h' tk acc hk hacc => ?_)
  have hal : acc.toList.length = ks.length := by rw [Array.length_toList, hacc.1, hl]
  have each := strs_each hal fun j v e => by
    obtain ⟨k, x, e1, e2⟩ := hacc.2 j v (by rw [← Array.getElem?_toList]; exact e)
    have e3 : (vs.map (·.1))[j]? = some k := by rw [List.getElem?_map, e1]; all_goals rfl
    rw [hkeys, List.getElem?_map] at e3
    cases e4 : ks[j]? with
    | none => rw [e4] at e3; cases e3
    | some y =>
      rw [e4] at e3
      obtain rfl : Sum.inr y = k := Option.some.inj e3
      obtain ⟨t, ev⟩ := Value.isStrOf_shape (x := y) (v := v) e2
      exact ⟨y, t, rfl, ev⟩
  have I1 : Inv X pins σ H { s with heap := h', toks := tk } := I.kept hk
  refine wpAny_bind (wpAny_newList ?_ (by rw [hal]; exact hz))
  have hoL : (h'.push (seqObj "list" acc.toList.toArray 0)).get? h'.objs.size = some (seqObj "list" acc.toList.toArray 0) := Heap.get?_push_size _ rfl
  show wpAny _ _ _ _ _ { s with heap := h'.push (seqObj "list" acc.toList.toArray 0), toks := tk }
  refine wpAny_bind (wpAny_holding (PySem.W.list_sort_data (s := { s with heap := h'.push (seqObj "list" acc.toList.toArray 0), toks := tk }) (bs := ks) (enc := PyData.str) hoL each (each.mono fun v x ⟨t, e⟩ => ⟨[], by rw [e]; exact .str _ _, by simp⟩) (PySem.W.AllAlike.of fun _ _ => by simp [PySem.W.alike]) (PySem.W.Sortable.others fun b => ⟨(fun z => nomatch z), (fun _ z => nomatch z)⟩) hz (fun b _ => ?_) fun out lo' eo => ?_))
  · show X.A.units + 1 + 1 + 0 < _
    omega
  have hsort : ks.mergeSort (PySem.W.dataLe false PyData.str) = ks.mergeSort leStr := by
    rw [PySem.W.dataLe_str (k := fun x : Str => x)]
    rfl
  rw [hsort] at eo
  obtain ⟨e', he'⟩ := PyProof.Rows.sortedHeap_at (vs := acc.toList) (out := out.toArray) hoL
  have hlen : ((ks.mergeSort leStr).map V.str).length ≤ sizeLine := by
    rw [List.length_map, List.length_mergeSort]
    exact hz
  refine wpAny_pure ⟨_, rfl, .ref h'.objs.size, upd H h'.objs.size (.lst ((ks.mergeSort leStr).map V.str)), I1.laid (t' := tk) (fun b u e => ?_) (Nat.le_refl _)
    ⟨hlen, out, e', each_strs eo, he'⟩, rfl, q _ (I1.hok.fresh (Nat.le_refl _))⟩
  have hb : b < h'.objs.size := Heap.lt_size e
  show (sortedHeap (h'.push (seqObj "list" acc.toList.toArray 0)) h'.objs.size acc.toList out.toArray).get? b = some u
  rw [PyProof.Rows.sortedHeap_old (Nat.ne_of_lt hb) (by rw [size_push']; exact Nat.lt_succ_of_lt hb)]
  exact Heap.get?_push_of_some _ e
/-! ### dict(pairs): names that stand twice -/
theorem putK_keys (M : List (Key × V)) (k : Key) (v : V) : (∀ x, x ∈ (putK M k v).map (·.1) ↔ x ∈ M.map (·.1) ∨ x = k) ∧ (k ∈ M.map (·.1) → (putK M k v).length = M.length) ∧ (k ∉ M.map (·.1) → putK M k v = M ++ [(k, v)]) := by
  unfold putK
  by_cases h : (M.any fun kv => decide (kv.1 = k)) = true
  · have hk : k ∈ M.map (·.1) := by
      obtain ⟨kv, h1, h2⟩ := List.any_eq_true.mp h
      exact List.mem_map.mpr ⟨kv, h1, of_decide_eq_true h2⟩
    rw [if_pos h]
    have em : (M.map fun kv => if kv.1 = k then (kv.1, v) else kv).map (·.1) = M.map (·.1) := by
      rw [List.map_map]
      refine List.map_congr_left fun kv _ => ?_
      show (if kv.1 = k then (kv.1, v) else kv).1 = kv.1
      split <;> rfl
    refine ⟨fun x => ?_, fun _ => List.length_map _, fun n => absurd hk n⟩
    rw [em]
    exact ⟨.inl, fun z => z.elim id fun e => by rw [e]; exact hk⟩
  · have hk : k ∉ M.map (·.1) := fun z => by
      obtain ⟨kv, h1, h2⟩ := List.mem_map.mp z
      exact h (List.any_eq_true.mpr ⟨kv, h1, decide_eq_true h2⟩)
    rw [if_neg h]
    refine ⟨fun x => ?_, fun z => absurd z hk, fun _ => rfl⟩
    rw [List.map_append, List.mem_append, List.map_cons, List.map_nil, List.mem_singleton]
theorem merge_keys : ∀ (l M : List (Key × V)), (∀ x, x ∈ (mergeK M l).map (·.1) ↔ x ∈ M.map (·.1) ∨ x ∈ l.map (·.1)) ∧ (mergeK M l).length ≤ M.length + l.length ∧
    ((mergeK M l).length = M.length + l.length → (∀ x ∈ l.map (·.1), x ∉ M.map (·.1)) ∧ (l.map (·.1)).Nodup) ∧ ((∀ x ∈ l.map (·.1), x ∉ M.map (·.1)) → (l.map (·.1)).Nodup → mergeK M l = M ++ l)
  | [], M => ⟨fun x => by simp [mergeK], Nat.le_refl _, fun _ => ⟨fun _ h => (nomatch h), List.nodup_nil⟩, fun _ _ => (List.append_nil M).symm⟩
  | p :: l, M => by
    obtain ⟨a1, a2, a3⟩ := putK_keys M p.1 p.2
    obtain ⟨b1, b2, b3, b4⟩ := merge_keys l (putK M p.1 p.2)
    have e : mergeK M (p :: l) = mergeK (putK M p.1 p.2) l := rfl
    have lenp : (putK M p.1 p.2).length ≤ M.length + 1 := by
      by_cases h : p.1 ∈ M.map (·.1)
      · rw [a2 h]; omega
      · rw [a3 h, List.length_append]; exact Nat.le_refl _
    rw [e]
    refine ⟨fun x => ?_, by rw [List.length_cons]; omega, fun h => ?_, fun h n => ?_⟩
    · rw [b1, a1, List.map_cons, List.mem_cons, or_assoc]
    · rw [List.length_cons] at h
      have hp : p.1 ∉ M.map (·.1) := fun z => by
        have := a2 z
        omega
      have ep := a3 hp
      have lp : (putK M p.1 p.2).length = M.length + 1 := by rw [ep, List.length_append]; rfl
      obtain ⟨c1, c2⟩ := b3 (by omega)
      refine ⟨fun x hx => ?_, ?_⟩
      · rw [List.map_cons, List.mem_cons] at hx
        rcases hx with rfl | hx
        · exact hp
        · exact fun z => c1 x hx ((a1 x).mpr (.inl z))
      · rw [List.map_cons, List.nodup_cons]
        exact ⟨fun z => c1 _ z ((a1 _).mpr (.inr rfl)), c2⟩
    · rw [List.map_cons, List.nodup_cons] at n
      have hp := h p.1 (by rw [List.map_cons]; exact List.mem_cons_self)
      rw [b4 (fun x hx z => ?_) n.2, a3 hp, List.append_assoc]
      · rfl
      · rcases (a1 x).mp z with z | z
        · exact h x (by rw [List.map_cons]; exact List.mem_cons_of_mem _ hx) z
        · exact n.1 (by rw [← z]; exact hx)
theorem merge_len (l : List (Key × V)) : (mergeK [] l).length = l.length ↔ (l.map (·.1)).Nodup := by
  obtain ⟨_, _, h3, h4⟩ := merge_keys l []
  refine ⟨fun h => (h3 (by rw [h]; simp)).2, fun n => ?_⟩
  rw [h4 (fun _ _ z => nomatch z) n]
  rfl
theorem merge_nodup {l : List (Key × V)} (n : (l.map (·.1)).Nodup) : mergeK [] l = l := (merge_keys l []).2.2.2 (fun _ _ z => nomatch z) n
/-! ### pairs, their keys -/
abbrev kvOf (L : List (Addr × PyData)) : List (Key × V) := L.map fun p => (Sum.inr (keyD p.2), V.ref p.1)
theorem kv_keys (L : List (Addr × PyData)) : (kvOf L).map (·.1) = (L.map fun p => keyD p.2).map Sum.inr := by
  unfold kvOf
  rw [List.map_map, List.map_map]
  rfl
theorem kv_nodup {L : List (Addr × PyData)} : ((kvOf L).map (·.1)).Nodup ↔ (L.map fun p => keyD p.2).Nodup := by
  rw [kv_keys, List.nodup_iff_pairwise_ne, List.nodup_iff_pairwise_ne, List.pairwise_map]
  exact ⟨fun h => h.imp fun z e => z (congrArg _ e), fun h => h.imp fun z e => z (Sum.inr.inj e)⟩
theorem kv_val : ∀ {L : List (Addr × PyData)} {p : Addr × PyData}, (L.map fun p => keyD p.2).Nodup → p ∈ L → valV (kvOf L) (Sum.inr (keyD p.2)) = some (V.ref p.1)
  | q :: L, p, n, h => by
    rw [List.map_cons, List.nodup_cons] at n
    rcases List.mem_cons.mp h with rfl | h
    · exact valV_pos rfl
    · have ne : ¬ (Sum.inr (keyD q.2) : Key) = Sum.inr (keyD p.2) := fun e => n.1 (List.mem_map.mpr ⟨p, h, (Sum.inr.inj e).symm⟩)
      exact (valV_neg (p := (Sum.inr (keyD q.2), V.ref q.1)) ne).trans (kv_val n.2 h)
theorem sort_keys (L : List (Addr × PyData)) : (L.map fun p => keyD p.2).mergeSort leStr = (L.mergeSort fun p q => leD p.2 q.2).map fun p => keyD p.2 :=
  (List.map_mergeSort (f := fun p : Addr × PyData => keyD p.2) (r := fun p q => leD p.2 q.2) (s := leStr) fun a _ b _ => rfl).symm
theorem asc_pairs : ∀ {ss : List Str}, ascD ss = true → ss.Pairwise fun a b => a.cps.toList < b.cps.toList
  | [], _ => .nil
  | [x], _ => List.pairwise_singleton _ _
  | x :: y :: r, h => by
    have h' : (decide (x.cps.toList < y.cps.toList) && ascD (y :: r)) = true := h
    rw [Bool.and_eq_true] at h'
    have ih := asc_pairs h'.2
    have hxy := of_decide_eq_true h'.1
    refine .cons (fun z hz => ?_) ih
    rcases List.mem_cons.mp hz with rfl | hz
    · exact hxy
    · exact List.lt_trans hxy ((List.pairwise_cons.mp ih).1 z hz)
theorem asc_nodup {ss : List Str} (h : ascD ss = true) : ss.Nodup := by
  rw [List.nodup_iff_pairwise_ne]
  have key : ∀ a b : Str, a.cps.toList < b.cps.toList → a ≠ b := fun a b h e => by
    rw [e] at h
    exact List.lt_irrefl _ h
  exact (asc_pairs h).imp (fun {a b} => key a b)
/-- a part by names that is one has named pairs, no name twice -/
theorem by_part {d : PyData} (h : partD (byD d) = true) : namedD d = true ∧ (keysL (itemsD d)).Nodup := by
  unfold partD at h
  rw [Bool.and_eq_true] at h
  by_cases hn : namedD d = true
  · refine ⟨hn, ?_⟩
    have e : byD d = .tuple ((itemsD d).mergeSort leD) := if_pos hn
    have h2 := asc_nodup h.2
    rw [e] at h2
    have p : (keysL ((itemsD d).mergeSort leD)).Perm (keysL (itemsD d)) := (List.mergeSort_perm _ _).map _
    exact p.nodup_iff.mp h2
  · have e : byD d = d := if_neg hn
    rw [e] at h
    exact absurd h.1 hn
theorem mk_parts {p c : PyData} (h : treeD 9 (mkD p c) = true) : (namedD (tupD p) = true ∧ (keysL (itemsD (tupD p))).Nodup) ∧ (namedD (tupD c) = true ∧ (keysL (itemsD (tupD c))).Nodup) := by
  unfold mkD at h
  rw [treeD_parts] at h
  simp only [Bool.and_eq_true] at h
  exact ⟨by_part h.1.1, by_part h.1.2⟩
/-! ### promises of the law's defs -/
mutual
/-- how many tuples -/
def nt : PyData → Nat
  | .tuple xs => 1 + nts xs
  | _ => 0
def nts : List PyData → Nat
  | [] => 0
  | d :: ds => nt d + nts ds
end
mutual
theorem nt_big : ∀ d : PyData, 3 * nt d ≤ big d
  | .none => Nat.zero_le _
  | .bool _ => Nat.zero_le _
  | .int _ => Nat.zero_le _
  | .str _ => Nat.zero_le _
  | .list _ => Nat.zero_le _
  | .dict _ => Nat.zero_le _
  | .tuple xs => by
    have := nts_big xs
    simp only [nt, Vn.big]
    omega
theorem nts_big : ∀ ds : List PyData, 3 * nts ds ≤ bigs ds
  | [] => Nat.le_refl _
  | d :: ds => by
    have h1 := nt_big d
    have h2 := nts_big ds
    simp only [nts, bigs]
    omega
end
theorem nts_take {ds : List PyData} {i : Nat} {d : PyData} (h : ds[i]? = some d) : nts (ds.take (i + 1)) = nts (ds.take i) + nt d := by
  rw [take_snoc h]
  have app : ∀ a b : List PyData, nts (a ++ b) = nts a + nts b := fun a b => by
    induction a with
    | nil => simp [nts]
    | cons x a ih =>
      simp only [List.cons_append, nts, ih]
      omega
  rw [app]
  simp only [nts]
  omega
/-- _law_mixed(stream, some) -/
def spMixed (K : PySem.W.Frag) : Sp := fun vs H Q _ => ∃ (S C : Addr) (n nb : Nat) (B : Hp) (v : V) (ds : List PyData), vs = [.ref S, v] ∧ Strm S C n H ∧ n + ds.length ≤ 20000000 ∧ Strm S C nb B ∧ Ext B H ∧ Dp K (newp B H) v (.tuple ds) ∧ ds.length ≤ 10000000 ∧
  ∀ (p : Addr) (vs' : List V) (es : List PyData) (H' : Hp), H p = none → H' p = some (.lst vs') → DpAll K (newp B H') vs' es → es.Perm ds → Strm S C (n + ds.length) H' → Fr S C H H' → Q (.ref p) H'
/-- _law_listed(stream, thing), thing of at most n levels -/
def spListed (K : PySem.W.Frag) (m : Nat) : Sp := fun vs H Q _ => ∃ (S C : Addr) (n nb : Nat) (B : Hp) (v : V) (d : PyData), vs = [.ref S, v] ∧ Strm S C n H ∧ n + nt d ≤ 20000000 ∧ Strm S C nb B ∧ Ext B H ∧ Dp K (newp B H) v d ∧ d.depth ≤ m ∧ Ok d ∧
  ∀ (v' : V) (d' : PyData) (H' : Hp), Dp K (newp B H') v' d' → tupD d' = tupD d → (LivL (newp B H) v d → LivL (newp B H') v' d') → Strm S C (n + nt d) H' → Fr S C H H' → Q v' H'
/-- _law_tupled(thing), thing of at most m levels -/
def spTupled (K : PySem.W.Frag) (m : Nat) : Sp := fun vs H Q _ => ∃ (v : V) (d : PyData), vs = [v] ∧ Dp K H v d ∧ d.depth ≤ m ∧ Ok d ∧ ∀ v' H', Same H H' → Dp K (newp H H') v' (tupD d) → Q v' H'
/-- _law_due_tree(props, children) -/
def spDue (K : PySem.W.Frag) : Sp := fun vs H Q _ => ∃ (v0 v1 : V) (d0 d1 : PyData), vs = [v0, v1] ∧ Dp K H v0 d0 ∧ Dp K H v1 d1 ∧ Ok (.tuple [d0, d1]) ∧
  (treeD 9 (mkD d0 d1) = true → ∀ v' H', Same H H' → Dp K (newp H H') v' (mkD d0 d1) → Q v' H') ∧ (treeD 9 (mkD d0 d1) = false → ∀ H', Same H H' → Q .non H')
/-- _law_tree_made(first, second) -/
def spMade (K : PySem.W.Frag) (T : Addr) : Sp := fun vs H Q _ => ∃ (v0 v1 : V) (d0 d1 : PyData), vs = [v0, v1] ∧ Dp K H v0 d0 ∧ Dp K H v1 d1 ∧ Ok (.tuple [d0, d1]) ∧ LamX.TabS H T qL ∧
  (treeD 9 (mkD d0 d1) = true → ∀ v' H', ExtT T H H' → LamX.TabS H' T qL → Dp K (newp H H') v' (mkD d0 d1) → Q v' H') ∧
  (treeD 9 (mkD d0 d1) = false → ∀ H', ExtT T H H' → LamX.TabS H' T qL → Q (.str "bad") H')
section
variable {X : Cx} {K : PySem.W.Frag} {a D : Addr} {oe : Obj} {cls : Value} {d : Option Addr} {pn : List (Addr × Obj)}
/-- isinstance(e, ..) in the suite that holds e -/
theorem isE (C : ExcC X.K D) (hz : Zc cls d oe) (hf : ∃ vs, oe.data = .fields vs) (hK : X.K = K := by rfl) : CallR (X.suite a ((a, oe) :: pn)) (.builtin "isinstance") (fun xs H Q => cls = .ref D ∧ d = none ∧ rIsE K D a xs H Q) := by
  subst hK
  intro pins s σ H xs us Q I r h
  obtain ⟨rfl, rfl, q⟩ := h
  exact call_isE C hz hf pins s σ H xs us Q I r q
end
section
variable {X : Cx} {K : PySem.W.Frag} {o e : Expr} {es : List Expr} {name : Str} {T : String} {id : String} {r : V → List V → Hp → VK → Prop} {to : TE} {t : TA} {apos cpos : Pos}
/-- o.m(e, ..) within a comprehension -/
theorem pe_bmE (pa : PlainAttrs T) (slot : Slot T name id) (hty : typeOf (.builtin id) = pure (.type "method_descriptor")) (hm : MtR X id r) (ho : PE X o to) (ha : PA X (e :: es) t)
    (hK : X.K = K := by rfl) (h1 : attributeBase o name X.env (eval o X.env) = eval o X.env := by rfl)
    (h2 : ((backTo cpos (starEach (e :: es) X.env)).all (fun x => !x.1) && (backToKw cpos (keywordEach [] X.env)).all (fun x => x.1.isSome)
      && decide ((e :: es).length + ([] : List Keyword).length + (if ([] : List Keyword).isEmpty then 0 else 1) < 30)) = true := by rfl)
    (h3 : (apos.endLine == cpos.line) = true := by rfl) (h4 : starEach (e :: es) X.env = (false, eval e X.env) :: starEach es X.env := by rfl) (h5 : (backTo cpos (starEach es X.env)).any (·.1) = false := by rfl) :
    PE X (.Call (.Attribute o name apos) (e :: es) [] cpos) (tBM K T r to t) := by
  subst hK
  exact pe_bm pa slot hty hm ho ha h1 h2 h3 h4 h5
end
theorem getElem_perm : ∀ {ds : List PyData} {i : Nat} {x : PyData}, ds[i]? = some x → (x :: ds.eraseIdx i).Perm ds
  | [], _, _, h => by simp at h
  | d :: ds, 0, x, h => by
    obtain rfl := Option.some.inj h
    exact .refl _
  | d :: ds, i + 1, x, h => by
    have ih := getElem_perm (ds := ds) (i := i) (x := x) h
    exact (List.Perm.swap d x _).trans (ih.cons d)
end Vn

set_option Elab.async false
set_option linter.all false
set_option maxRecDepth 100000
set_option maxHeartbeats 4000000
/-! Vn: dict(pairs) within the law's defs. -/
namespace Vn
open PySem PySem.Spec PyProof.Rows L2
theorem dictK {X : Cx} {K : PySem.W.Frag} (hc : X.calm = true) (h : X.K = K := by rfl) : CallR X (.type "dict") (fun xs H Q => ∃ (a : Addr) (ps : List Addr) (kvs : List (Key × V)), xs = [.ref a] ∧ SqL K H a (ps.map V.ref) ∧ Paired (fun p kv => SqT K H p [kV kv.1, kv.2]) ps kvs ∧
    ∀ p, H p = none → Q (.ref p) (upd H p (.dK (mergeK [] kvs)))) := by
  subst h
  exact call_dictP hc
theorem paired_mono {α β : Type} {R R' : α → β → Prop} (h : ∀ a b, R a b → R' a b) : ∀ {as : List α} {bs : List β}, Paired R as bs → Paired R' as bs
  | _, _, .nil => .nil
  | _, _, .cons a t => .cons (h _ _ a) (paired_mono h t)
theorem paired_snoc {α β : Type} {R : α → β → Prop} {a : α} {b : β} (h : R a b) : ∀ {as : List α} {bs : List β}, Paired R as bs → Paired R (as ++ [a]) (bs ++ [b])
  | _, _, .nil => .cons h .nil
  | _, _, .cons x t => .cons x (paired_snoc h t)
theorem pair_dec {K : PySem.W.Frag} {H : Hp} {xs : List V} {ds : List PyData} (h : DpAll K H xs ds) : decide (V.int (xs.length : Int) = V.int 2) = pairD (.tuple ds) := by
  have hl := DpAll_len h
  by_cases h2 : xs.length = 2
  · obtain ⟨x, y, d0, d1, rfl, rfl, _, _⟩ := two_of h h2
    exact decide_eq_true rfl
  · rw [not_pair (by rw [← hl]; exact h2)]
    exact Bool.eq_false_iff.mpr fun c => h2 (is_two' c)
end Vn

set_option Elab.async false
set_option linter.all false
set_option maxRecDepth 100000
set_option maxHeartbeats 4000000
/-! Vn: k06's law: the table beside the stream; what a turn's pairs are. -/
namespace Vn
open PySem PySem.Spec PyProof.Rows L2
theorem passF {X : Cx} : Passes (L2.CX X.prog X.w) X (fun _ _ _ => False) := fun _ _ _ _ _ _ _ c => by
  obtain ⟨_, _, _, _, _, _, _, _, _, _, _, _, z⟩ := c
  exact z.elim
theorem TabS.fr {S C T : Addr} {n : Nat} {H H' : Hp} {q : Str} (t : LamX.TabS H T q) (s : Strm S C n H) (f : Fr S C H H') : LamX.TabS H' T q := by
  obtain ⟨s0, ns, x1, x2, x3, eS, eC, _⟩ := s
  have no : ∀ {a : Addr} {o : HO}, H a = some o → (∀ xs, o ≠ .lst xs) → H' a = some o := fun {a o} e n =>
    cut_keep f (fun z => by rw [z, eS] at e; exact n _ (Option.some.inj e).symm) (fun z => by rw [z, eC] at e; exact n _ (Option.some.inj e).symm) e
  obtain ⟨ps, eT, h2, h3⟩ := t
  refine ⟨ps, no eT (fun _ z => nomatch z), h2, fun pos cv hc => ?_⟩
  obtain ⟨c, e1, e2⟩ := h3 pos cv hc
  refine ⟨c, e1, no e2 fun xs z => ?_⟩
  unfold LamX.CodeO at z
  cases z
theorem TabS.up {T p : Addr} {H : Hp} {q : Str} {xs : List V} {o : HO} (t : LamX.TabS H T q) (e : H p = some (.lst xs)) : LamX.TabS (upd H p o) T q := by
  obtain ⟨ps, eT, h2, h3⟩ := t
  refine ⟨ps, ?_, h2, fun pos cv hc => ?_⟩
  · rw [upd_ne (fun z => by rw [z, e] at eT; cases eT)]
    exact eT
  · obtain ⟨c, e1, e2⟩ := h3 pos cv hc
    refine ⟨c, e1, ?_⟩
    rw [upd_ne (fun z => by
      rw [z, e] at e2
      have e3 := Option.some.inj e2
      unfold LamX.CodeO at e3
      cases e3)]
    exact e2
theorem TabS.some {T : Addr} {H : Hp} {q : Str} (t : LamX.TabS H T q) : H T ≠ none := by
  obtain ⟨ps, e, _⟩ := t
  rw [e]
  exact Option.some_ne_none _
theorem Strm.extT {S C T : Addr} {n : Nat} {H H' : Hp} {q : Str} (s : Strm S C n H) (t : LamX.TabS H T q) (e : ExtT T H H') : Strm S C n H' := by
  obtain ⟨s0, ns, x1, x2, x3, eS, eC, r⟩ := s
  exact ⟨s0, ns, x1, x2, x3, e.keep _ _ (TabS.ne t eS fun _ z => nomatch z) eS, e.keep _ _ (TabS.ne t eC fun _ z => nomatch z) eC, r⟩
/-- the pairs as they were mixed -/
def stA (m : Nat) (d0 d1 : PyData) : Prop := ∃ es0 es1, d0 = .tuple es0 ∧ d1 = .tuple es1 ∧ Nices 36 839900 es0 ∧ Nices 36 839900 es1 ∧ es0.all pairD = true ∧ es1.all pairD = true ∧ (∀ e ∈ es1, shD 11 (sndD e) = true) ∧ es1.length = m
/-- the pairs as they are handed on -/
def stB (d0 d1 : PyData) : Prop := fine d0 = true ∧ fine d1 = true ∧ d0.depth ≤ 44 ∧ d1.depth ≤ 44 ∧ big d0 + big d1 ≤ 5200000
theorem stA_B {m : Nat} {d0 d1 : PyData} (h : stA m d0 d1) : stB d0 d1 := by
  obtain ⟨es0, es1, rfl, rfl, n0, n1, _⟩ := h
  have a := n0.tup
  have b := n1.tup
  have h1 := a.depth
  have h2 := b.depth
  have h3 := a.big
  have h4 := b.big
  exact ⟨a.fine, b.fine, by omega, by omega, by omega⟩
theorem stB_ok {d0 d1 : PyData} (h : stB d0 d1) : Ok (.tuple [d0, d1]) := by
  obtain ⟨h1, h2, h3, h4, h5⟩ := h
  refine ⟨?_, ?_, ?_⟩
  · simp only [Vn.fine, Vn.fines, h1, h2]
    rfl
  · simp only [Vn.big, Vn.bigs]
    rw [sizeLine_eq]
    omega
  · simp only [PyData.depth, PyData.depthAll]
    omega
theorem stB_okL {d0 d1 : PyData} (h : stB d0 d1) : Ok (.list [d0, d1]) := by
  obtain ⟨h1, h2, h3, h4, h5⟩ := h
  refine ⟨?_, ?_, ?_⟩
  · simp only [Vn.fine, Vn.fines, h1, h2]
    rfl
  · simp only [Vn.big, Vn.bigs]
    rw [sizeLine_eq]
    omega
  · simp only [PyData.depth, PyData.depthAll]
    omega
/-- lists in the place of tuples change nothing of that -/
theorem stB_tup {d0 d1 e0 e1 : PyData} (h : stB d0 d1) (a : tupD e0 = tupD d0) (b : tupD e1 = tupD d1) : stB e0 e1 ∧ mkD e0 e1 = mkD d0 d1 := by
  obtain ⟨h1, h2, h3, h4, h5⟩ := h
  obtain ⟨a1, a2, a3⟩ := tup_size d0
  obtain ⟨b1, b2, b3⟩ := tup_size d1
  obtain ⟨c1, c2, c3⟩ := tup_size e0
  obtain ⟨g1, g2, g3⟩ := tup_size e1
  rw [a] at c1 c2 c3
  rw [b] at g1 g2 g3
  refine ⟨⟨?_, ?_, ?_, ?_, ?_⟩, ?_⟩
  · rw [← c1, a1]; exact h1
  · rw [← g1, b1]; exact h2
  · rw [← c3, a3]; exact h3
  · rw [← g3, b3]; exact h4
  · rw [← c2, a2, ← g2, b2]; exact h5
  · unfold mkD
    rw [a, b]
theorem perm_nices {n b : Nat} {ds es : List PyData} (p : es.Perm ds) (h : Nices n b ds) : Nices n b es := by
  obtain ⟨h1, h2, h3⟩ := perm_size p
  exact ⟨h1.trans h.fine, by rw [h3]; exact h.depth, by rw [h2]; exact h.big⟩
theorem perm_all {ds es : List PyData} {f : PyData → Bool} (p : es.Perm ds) (h : ds.all f = true) : es.all f = true := by
  rw [List.all_eq_true] at h ⊢
  exact fun e he => h e (p.mem_iff.mp he)
/-- law(script) -/
def spLawT (K : PySem.W.Frag) (T : Addr) : Sp := fun vs H Q _ => ∃ (a : Addr) (ns : List Int), vs = [.ref a] ∧ SqL K H a (ns.map V.int) ∧ ns.length ≤ 63 ∧ H T = some (.tbl #[]) ∧ ∀ H', Q (.bl true) H'
/-- between the ways of a turn: up to the way c has been looked at -/
structure MidP (K : PySem.W.Frag) (S C PL aP : Addr) (G H1 : Hp) (vp vc : V) (cs : List PyData) (way c : Int) (n : Nat) (Hx : Hp) : Prop where
  pr : ∃ v0 v1 d0 d1, Hx PL = some (.lst [v0, v1]) ∧ Dp K (newp G Hx) v0 d0 ∧ Dp K (newp G Hx) v1 d1 ∧ (stA cs.length d0 d1 ∨ (stB d0 d1 ∧ way ≤ c)) ∧ LivL (newp G Hx) v0 d0 ∧ LivL (newp G Hx) v1 d1
  sq : SqT K (newp G Hx) aP [vp, vc]
  dc : Dp K (newp G Hx) vc (.tuple cs)
  st : Strm S C n Hx
  fr : Fr S C H1 Hx
  ex : Ext G Hx
/-- what the places of a turn's list are -/
structure PlP (S C PL : Addr) (G H1 : Hp) : Prop where
  g : G PL ≠ none
  nS : PL ≠ S
  nC : PL ≠ C
  n1 : H1 PL = none
  sg : ∃ n, Strm S C n G
section
variable {K : PySem.W.Frag} {S C PL aP : Addr} {G H1 Hx Hy : Hp} {vp vc : V} {cs : List PyData} {way c c' at_ : Int} {n m : Nat} {v' : V} {d' : PyData}
theorem MidP.to (M : MidP K S C PL aP G H1 vp vc cs way c n Hx) (P : PlP S C PL G H1) (hc : c ≤ c') (f : Fr S C Hx Hy) (s : Strm S C m Hy) : MidP K S C PL aP G H1 vp vc cs way c' m Hy := by
  obtain ⟨nb, sg⟩ := P.sg
  have w := newp_fr sg f
  obtain ⟨v0, v1, d0, d1, e, a, b, z, l0, l1⟩ := M.pr
  exact ⟨⟨v0, v1, d0, d1, cut_keep f P.nS P.nC e, Dp_mono w a, Dp_mono w b, z.imp id fun z => ⟨z.1, Int.le_trans z.2 hc⟩, l0.mono w, l1.mono w⟩, Same.seqT w M.sq, Dp_mono w M.dc, s, M.fr.trans f, M.ex.trans (Fr.ext s f)⟩
theorem stA_set {k : Nat} {d0 d1 : PyData} (h : stA k d0 d1) (f : fine d' = true) (z : d'.depth ≤ 44) (b : big d' ≤ 4300000) : stB d' d1 ∧ stB d0 d' := by
  obtain ⟨h1, h2, h3, h4, h5⟩ := stA_B h
  obtain ⟨es0, es1, rfl, rfl, n0, n1, _⟩ := h
  have a := n0.tup.big
  have b' := n1.tup.big
  exact ⟨⟨f, h2, z, h4, by omega⟩, ⟨h1, f, h3, z, by omega⟩⟩
theorem two_at (h0 : 0 ≤ at_) (h1 : at_ < 2) : at_ = 0 ∨ at_ = 1 := by omega
theorem MidP.look (M : MidP K S C PL aP G H1 vp vc cs way c n Hx) (hw : c < way) (h0 : 0 ≤ at_) (h1 : at_ < 2) : ∃ v0 v1 va es, Hx PL = some (.lst [v0, v1]) ∧ atI [v0, v1] at_ = some va ∧ Dp K (newp G Hx) va (.tuple es) ∧ Nices 36 839900 es ∧ es.all pairD = true := by
  obtain ⟨v0, v1, d0, d1, e, a, b, z, _, _⟩ := M.pr
  rcases z with z | z
  · obtain ⟨es0, es1, rfl, rfl, n0, n1, p0, p1, _⟩ := z
    rcases two_at h0 h1 with rfl | rfl
    · exact ⟨v0, v1, v0, es0, e, rfl, a, n0, p0⟩
    · exact ⟨v0, v1, v1, es1, e, rfl, b, n1, p1⟩
  · omega
theorem MidP.look1 (M : MidP K S C PL aP G H1 vp vc cs way c n Hx) (hw : c < way) : ∃ v0 v1 es, Hx PL = some (.lst [v0, v1]) ∧ Dp K (newp G Hx) v1 (.tuple es) ∧ Nices 36 839900 es ∧ es.all pairD = true ∧ (∀ e ∈ es, shD 11 (sndD e) = true) ∧ es.length = cs.length := by
  obtain ⟨v0, v1, d0, d1, e, a, b, z, _, _⟩ := M.pr
  rcases z with z | z
  · obtain ⟨es0, es1, rfl, rfl, n0, n1, p0, p1, h⟩ := z
    exact ⟨v0, v1, es1, e, b, n1, p1, h⟩
  · omega
theorem MidP.put (M : MidP K S C PL aP G H1 vp vc cs way c n Hx) (P : PlP S C PL G H1) (hw : c < way) (hc : way ≤ c') (h0 : 0 ≤ at_) (h1 : at_ < 2) (f : Fr S C Hx Hy) (s : Strm S C m Hy) (dv : Dp K (newp G Hy) v' d') (lv : LivL (newp G Hy) v' d') (fd : fine d' = true) (zd : d'.depth ≤ 44) (bd : big d' ≤ 4300000) :
    ∃ ws, Hy PL = some (.lst ws) ∧ ixN ws.length at_ = some at_.toNat ∧ MidP K S C PL aP G H1 vp vc cs way c' m (upd Hy PL (.lst (ws.set at_.toNat v'))) := by
  have M2 := M.to P (Int.le_refl c) f s
  obtain ⟨v0, v1, d0, d1, e, a, b, z, l0, l1⟩ := M2.pr
  have A : stA cs.length d0 d1 := by
    rcases z with z | z
    · exact z
    · omega
  obtain ⟨q0, q1⟩ := stA_set A fd zd bd
  have w : ∀ o : HO, Same (newp G Hy) (newp G (upd Hy PL o)) := fun o => newp_upd P.g
  refine ⟨_, e, ?_, ?_⟩
  · rcases two_at h0 h1 with rfl | rfl <;> rfl
  refine ⟨?_, Same.seqT (w _) M2.sq, Dp_mono (w _) M2.dc, s.upd P.nS P.nC _, Fr.upd M2.fr P.n1, M2.ex.trans Ext.upd⟩
  rcases two_at h0 h1 with rfl | rfl
  · exact ⟨v', v1, d', d1, upd_same, Dp_mono (w _) dv, Dp_mono (w _) b, .inr ⟨q0, hc⟩, lv.mono (w _), l1.mono (w _)⟩
  · exact ⟨v0, v', d0, d', upd_same, Dp_mono (w _) a, Dp_mono (w _) dv, .inr ⟨q1, hc⟩, l0.mono (w _), lv.mono (w _)⟩
end
/-! ### the last part of a turn -/
def DueV (K : PySem.W.Frag) (H : Hp) (v : V) (m : PyData) : Prop := (treeD 9 m = true ∧ Dp K H v m) ∨ (treeD 9 m = false ∧ v = .non)
def FndV (K : PySem.W.Frag) (H : Hp) (v : V) (m : PyData) : Prop := (treeD 9 m = true ∧ Dp K H v m) ∨ (treeD 9 m = false ∧ v = .str (Str.ofString "bad"))
theorem DueV.mono {K : PySem.W.Frag} {H H' : Hp} {v : V} {m : PyData} (e : Same H H') (h : DueV K H v m) : DueV K H' v m := h.imp (fun z => ⟨z.1, Dp_mono e z.2⟩) id
theorem FndV.mono {K : PySem.W.Frag} {H H' : Hp} {v : V} {m : PyData} (e : Same H H') (h : FndV K H v m) : FndV K H' v m := h.imp (fun z => ⟨z.1, Dp_mono e z.2⟩) id
theorem due_of {K : PySem.W.Frag} {H : Hp} {v0 v1 : V} {d0 d1 : PyData} {Q : VK} {E : XK} (h0 : Dp K H v0 d0) (h1 : Dp K H v1 d1) (ok : Ok (.tuple [d0, d1]))
    (q : ∀ vd H', Same H H' → DueV K (newp H H') vd (mkD d0 d1) → Q vd H') : spDue K [v0, v1] H Q E :=
  ⟨v0, v1, d0, d1, rfl, h0, h1, ok, fun t v' H' w d => q v' H' w (.inl ⟨t, d⟩), fun t H' w => q .non H' w (.inr ⟨t, rfl⟩)⟩
theorem made_of {K : PySem.W.Frag} {T : Addr} {H : Hp} {v0 v1 : V} {d0 d1 : PyData} {Q : VK} {E : XK} (h0 : Dp K H v0 d0) (h1 : Dp K H v1 d1) (ok : Ok (.tuple [d0, d1])) (t : LamX.TabS H T qL)
    (q : ∀ vf H', ExtT T H H' → LamX.TabS H' T qL → FndV K (newp H H') vf (mkD d0 d1) → Q vf H') : spMade K T [v0, v1] H Q E :=
  ⟨v0, v1, d0, d1, rfl, h0, h1, ok, t, fun t v' H' w t' d => q v' H' w t' (.inl ⟨t, d⟩), fun t H' w t' => q _ H' w t' (.inr ⟨t, rfl⟩)⟩
theorem same_due {K : PySem.W.Frag} {σ : L2.St} {H : Hp} {k : VK} {vd vf : V} {m : PyData} (hi : σ[15]? = some (some vf)) (hj : σ[14]? = some (some vd)) (d : DueV K H vd m) (f : FndV K H vf m) (ok : Ok m) (q : k (.bl true) H) :
    tCall (spSame K) [] E0 (tCons (tVar 15) (tCons (tIf (tTest (tOp (fun x y H Q => y = V.non ∧ Q (V.bl (decide (x = V.non))) H) (tVar 14) (tC V.non))) (tC (V.str (Str.ofString "bad"))) (tVar 14)) tNil)) σ H k := by
  have fin : ∀ {x y : V} {e : PyData}, Dp K H x e → Dp K H y e → Ok e → spSame K ([x, y] ++ []) H k E0 := fun {x y e} hx hy o => ⟨x, y, e, e, rfl, hx, hy, o, o, by rw [decide_eq_true rfl]; exact q⟩
  rcases d with ⟨t, d⟩ | ⟨t, rfl⟩
  · rcases f with ⟨_, f⟩ | ⟨t', _⟩
    · have hne : vd ≠ .non := fun z => by
        subst z
        cases d
        exact absurd t (by decide)
      refine ⟨vf, hi, vd, hj, rfl, _, rfl, ?_⟩
      rw [decide_eq_false hne]
      exact iteF ⟨vd, hj, fin f d ok⟩
    · rw [t] at t'
      cases t'
  · rcases f with ⟨t', _⟩ | ⟨_, rfl⟩
    · rw [t] at t'
      cases t'
    · refine ⟨_, hi, _, hj, rfl, _, rfl, ?_⟩
      rw [decide_eq_true rfl]
      exact iteT (fin (.str _) (.str _) ⟨by decide +kernel, by decide +kernel, by decide +kernel⟩)
/-- what is handed, while lists are lengthened -/
def ShV (K : PySem.W.Frag) (S C D : Addr) (B : Hp) (n : Nat) (H : Hp) (v : V) : Prop :=
  (∃ a xs, v = .ref a ∧ a ≠ S ∧ a ≠ C ∧ a ≠ D ∧ B a ≠ none ∧ H a = some (.lst xs) ∧ xs.length ≤ n) ∨ ((∃ a xs, v = .ref a ∧ SqT K H a xs) ∨ ∃ d, isSeqD d = false ∧ Dp K H v (tupD d))
theorem ShV.same {K : PySem.W.Frag} {S C D : Addr} {B : Hp} {n : Nat} {H H' : Hp} {v : V} (h : ShV K S C D B n H v) (w : Same H H') : ShV K S C D B n H' v := by
  rcases h with ⟨a, xs, r, h1, h2, h3, h4, h5, h6⟩ | ⟨a, xs, r, h⟩ | ⟨d, z, h⟩
  · exact .inl ⟨a, xs, r, h1, h2, h3, h4, w _ _ h5, h6⟩
  · exact .inr (.inl ⟨a, xs, r, Same.seqT w h⟩)
  · exact .inr (.inr ⟨d, z, Dp_mono w h⟩)
theorem ShV.up {K : PySem.W.Frag} {S C D p : Addr} {B : Hp} {n : Nat} {H : Hp} {v y : V} {zs : List V} (h : ShV K S C D B n H v) (e : H p = some (.lst zs)) (hl : zs.length ≤ n) : ShV K S C D B (n + 1) (upd H p (.lst (zs ++ [y]))) v := by
  rcases h with ⟨a, xs, r, h1, h2, h3, h4, h5, h6⟩ | ⟨a, xs, r, h⟩ | ⟨d, z, h⟩
  · by_cases ap : a = p
    · subst ap
      exact .inl ⟨a, _, r, h1, h2, h3, h4, upd_same, by rw [List.length_append]; show zs.length + 1 ≤ n + 1; omega⟩
    · exact .inl ⟨a, xs, r, h1, h2, h3, h4, (upd_ne ap).trans h5, by omega⟩
  · refine .inr (.inl ⟨a, xs, r, ?_⟩)
    rcases h with (h | ⟨o, h⟩) | h
    · exact .inl (.inl ((upd_ne fun z => by rw [z, e] at h; cases h).trans h))
    · exact .inl (.inr ⟨o, (upd_ne fun z => by rw [z, e] at h; cases h).trans h⟩)
    · exact .inr h
  · exact .inr (.inr ⟨d, z, by
      have := Dp_atom (H' := upd H p (.lst (zs ++ [y]))) h (by rw [tupD_atom z]; exact z)
      rwa [tupD_atom (d := tupD d) (by rw [tupD_atom z]; exact z)] at this⟩)
theorem ShV.extT {K : PySem.W.Frag} {S C D T : Addr} {B : Hp} {n : Nat} {H H' : Hp} {q : Str} {v : V} (h : ShV K S C D B n H v) (t : LamX.TabS H T q) (e : ExtT T H H') : ShV K S C D B n H' v := by
  rcases h with ⟨a, xs, r, h1, h2, h3, h4, h5, h6⟩ | ⟨a, xs, r, h⟩ | ⟨d, z, h⟩
  · exact .inl ⟨a, xs, r, h1, h2, h3, h4, e.keep _ _ (TabS.ne t h5 fun _ z => nomatch z) h5, h6⟩
  · exact .inr (.inl ⟨a, xs, r, ExtT.sq t e h⟩)
  · exact .inr (.inr ⟨d, z, Dp_extT t e h⟩)
theorem ShV.of {K : PySem.W.Frag} {S C D : Addr} {G H : Hp} {n m : Nat} {v : V} {e : PyData} (d : Dp K (newp G H) v e) (l : LivL (newp G H) v e) (sG : Strm S C n G) (gD : G D ≠ none) (hb : big e ≤ m) : ShV K S C D H m H v := by
  cases e with
  | list ds =>
    obtain ⟨a, xs, rfl, q, hl⟩ := l ds rfl
    obtain ⟨n1, n2⟩ := newp_some q
    have lb := bigs_len ds
    have hb' : bigs ds + 3 ≤ m ∨ bigs ds ≤ m := .inr (Nat.le_trans (by simp only [Vn.big]; omega) hb)
    exact .inl ⟨a, xs, rfl, sG.neS n1, sG.neC n1, fun z => gD (by rw [← z]; exact n1), by rw [n2]; exact Option.some_ne_none _, n2, by omega⟩
  | tuple ds =>
    cases Dp_mono newp_same d with
    | tup hs _ => exact .inr (.inl ⟨_, _, rfl, hs⟩)
  | none => exact .inr (.inr ⟨_, by rfl, Dp_atom d rfl⟩)
  | bool b => exact .inr (.inr ⟨_, by rfl, Dp_atom d rfl⟩)
  | int b => exact .inr (.inr ⟨_, by rfl, Dp_atom d rfl⟩)
  | str b => exact .inr (.inr ⟨_, by rfl, Dp_atom d rfl⟩)
  | dict b => exact .inr (.inr ⟨_, by rfl, Dp_atom d rfl⟩)
/-- isinstance(v, list) of it -/
theorem ShV.isi {K : PySem.W.Frag} {S C D : Addr} {B : Hp} {n : Nat} {H : Hp} {v : V} {Q : VK} (h : ShV K S C D B n H v)
    (yes : ∀ a xs, v = .ref a → a ≠ S → a ≠ C → a ≠ D → B a ≠ none → H a = some (.lst xs) → xs.length ≤ n → Q (.bl true) H) (no : Q (.bl false) H) : rIsi K [v, .ty "list"] H Q := by
  rcases h with ⟨a, xs, r, h1, h2, h3, h4, h5, h6⟩ | ⟨a, xs, rfl, h⟩ | ⟨d, z, h⟩
  · refine ⟨_, _, .type "list", _, true, rfl, .ty "list", ?_, kit_ty (by decide +kernel), yes a xs r h1 h2 h3 h4 h5 h6⟩
    rw [r]
    exact .base (.lst h5)
  · refine ⟨_, _, .type "tuple", _, false, rfl, .ty "list", ?_, kit_ty (by decide +kernel), no⟩
    rcases h with (h | ⟨o, h⟩) | ⟨o, its, n, h, hc, _⟩
    · exact .base (.tup h)
    · exact .fTuple h
    · exact .kTuple h hc
  · rw [tupD_atom z] at h
    refine ⟨_, _, _, _, _, rfl, .ty "list", Dp_type h, kit_lst h, ?_⟩
    have : isLst d = false := by
      cases d <;> first | rfl | (simp [isSeqD] at z)
    rw [this]
    exact no
theorem ShV.test {K : PySem.W.Frag} {S C D : Addr} {B : Hp} {n i : Nat} {σ : L2.St} {H : Hp} {v : V} {Q : Bool → Hp → Prop} (hi : σ[i]? = some (some v)) (h : ShV K S C D B n H v)
    (yes : ∀ a xs, v = .ref a → a ≠ S → a ≠ C → a ≠ D → B a ≠ none → H a = some (.lst xs) → xs.length ≤ n → Q true H) (no : Q false H) : tB (tCB (rIsi K) (tCons (tVar i) (tCons (tC (V.ty "list")) tNil))) σ H Q :=
  ⟨v, hi, ShV.isi (Q := fun x H1 => ∃ c, x = V.bl c ∧ Q c H1) h (fun a xs r h1 h2 h3 h4 h5 h6 => ⟨true, rfl, yes a xs r h1 h2 h3 h4 h5 h6⟩) ⟨false, rfl, no⟩⟩
/-! ### what is made at the end -/
def mA : PyData := .tuple [.tuple [], .tuple []]
def mB : PyData := .tuple [.tuple [.tuple [.str (Str.ofString "a"), .int 1], .tuple [.str (Str.ofString "b"), .int 2]], .tuple []]
def mC : PyData := .tuple [.tuple [], .tuple [.tuple [.str (Str.ofString "k"), .tuple [.tuple [], .tuple []]]]]
theorem mkA : mkD (.tuple []) (.tuple []) = mA := by kernel_rfl
theorem mkB : mkD (.list [.tuple [.str (Str.ofString "b"), .int 2], .tuple [.str (Str.ofString "a"), .int 1]]) (.tuple []) = mB := by
  unfold mkD byD
  rw [if_pos (by decide +kernel), if_pos (by decide +kernel)]
  have e1 : itemsD (tupD (.list [.tuple [.str (Str.ofString "b"), .int 2], .tuple [.str (Str.ofString "a"), .int 1]])) = [.tuple [.str (Str.ofString "b"), .int 2], .tuple [.str (Str.ofString "a"), .int 1]] := by kernel_rfl
  have e2 : itemsD (tupD (.tuple [])) = [] := by kernel_rfl
  have h : leD (.tuple [.str (Str.ofString "b"), .int 2]) (.tuple [.str (Str.ofString "a"), .int 1]) = false := by decide +kernel
  rw [e1, e2, List.mergeSort_nil]
  have e3 : [PyData.tuple [.str (Str.ofString "b"), .int 2], .tuple [.str (Str.ofString "a"), .int 1]].mergeSort leD = [.tuple [.str (Str.ofString "a"), .int 1], .tuple [.str (Str.ofString "b"), .int 2]] := by
    rw [List.mergeSort]
    simp [List.MergeSort.Internal.splitInTwo, List.merge, h]
  rw [e3]
  rfl
theorem mkC : mkD (.tuple []) (.list [.tuple [.str (Str.ofString "k"), .list [.list [], .tuple []]]]) = mC := by kernel_rfl
theorem trA : treeD 9 mA = true := by decide +kernel
theorem trB : treeD 9 mB = true := by decide +kernel
theorem trC : treeD 9 mC = true := by decide +kernel
theorem lay_t {K : PySem.W.Frag} {H : Hp} {p : Addr} {vs : List V} {ds : List PyData} (np : H p = none) (h : DpAll K H vs ds) : Dp K (upd H p (.tup vs)) (.ref p) (.tuple ds) := .tup (SqT.of upd_same) (DpAll_mono (same_new np _) h)
theorem lay_l {K : PySem.W.Frag} {H : Hp} {p : Addr} {vs : List V} {ds : List PyData} (np : H p = none) (h : DpAll K H vs ds) : Dp K (upd H p (.lst vs)) (.ref p) (.list ds) := .lst (SqL.of upd_same) (DpAll_mono (same_new np _) h)
theorem sameL : ∀ (x : PyData) {K : PySem.W.Frag} {v u : V} {H : Hp} {Q : VK} {E : XK}, Dp K H v x → Dp K H u x → Ok x → Q (.bl true) H → spSame K [v, u] H Q E := fun x {K v u H Q E} h1 h2 ok q => ⟨v, u, x, x, rfl, h1, h2, ok, ok, by rw [decide_eq_true rfl]; exact q⟩
end Vn

set_option Elab.async false
set_option linter.all false
set_option maxRecDepth 100000
set_option maxHeartbeats 8000000
namespace Vn
open PySem PySem.Spec PyProof.Rows L2
/-! ### the text by places -/
def topS (i : Nat) : Stmt := PySem.Challenge.pw_variantnest_k06_trees_made.main.body.getD i (.Pass ⟨0, 0, 0, 0⟩)
abbrev s_as_tuples : Stmt := topS 1
theorem sc_as_tuples : FnScope ["value", "levels", "source", "built"] ["value"] (defScope s_as_tuples) :=
  ⟨rfl, rfl, rfl, by decide +kernel, rfl, by decide +kernel, by decide +kernel⟩
abbrev s_is_pair : Stmt := topS 2
theorem sc_is_pair : FnScope ["value"] ["value"] (defScope s_is_pair) :=
  ⟨rfl, rfl, rfl, by decide +kernel, rfl, by decide +kernel, by decide +kernel⟩
abbrev s_ascends : Stmt := topS 3
theorem sc_ascends : FnScope ["keys", "one", "other"] ["keys"] (defScope s_ascends) :=
  ⟨rfl, rfl, rfl, by decide +kernel, rfl, by decide +kernel, by decide +kernel⟩
abbrev s_is_name : Stmt := topS 10
theorem sc_is_name : FnScope ["value", "sign"] ["value"] (defScope s_is_name) :=
  ⟨rfl, rfl, rfl, by decide +kernel, rfl, by decide +kernel, by decide +kernel⟩
abbrev s_is_path : Stmt := topS 11
theorem sc_is_path : FnScope ["value", "name"] ["value"] (defScope s_is_path) :=
  ⟨rfl, rfl, rfl, by decide +kernel, rfl, by decide +kernel, by decide +kernel⟩
abbrev s_is_value : Stmt := topS 12
theorem sc_is_value : FnScope ["value"] ["value"] (defScope s_is_value) :=
  ⟨rfl, rfl, rfl, by decide +kernel, rfl, by decide +kernel, by decide +kernel⟩
abbrev s_is_integer : Stmt := topS 13
theorem sc_is_integer : FnScope ["value"] ["value"] (defScope s_is_integer) :=
  ⟨rfl, rfl, rfl, by decide +kernel, rfl, by decide +kernel, by decide +kernel⟩
abbrev s_is_link : Stmt := topS 14
theorem sc_is_link : FnScope ["value"] ["value"] (defScope s_is_link) :=
  ⟨rfl, rfl, rfl, by decide +kernel, rfl, by decide +kernel, by decide +kernel⟩
abbrev s_is_tree : Stmt := topS 16
theorem sc_is_tree : FnScope ["value"] ["value"] (defScope s_is_tree) :=
  ⟨rfl, rfl, rfl, by decide +kernel, rfl, by decide +kernel, by decide +kernel⟩
abbrev s_is_tree_within : Stmt := topS 17
theorem sc_is_tree_within : FnScope ["value", "levels", "props", "children", "pair"] ["value", "levels"] (defScope s_is_tree_within) :=
  ⟨rfl, rfl, rfl, by decide +kernel, rfl, by decide +kernel, by decide +kernel⟩
abbrev s_are_props : Stmt := topS 18
theorem sc_are_props : FnScope ["pairs", "pair"] ["pairs"] (defScope s_are_props) :=
  ⟨rfl, rfl, rfl, by decide +kernel, rfl, by decide +kernel, by decide +kernel⟩
abbrev s_are_rows : Stmt := topS 19
theorem sc_are_rows : FnScope ["pairs"] ["pairs"] (defScope s_are_rows) :=
  ⟨rfl, rfl, rfl, by decide +kernel, rfl, by decide +kernel, by decide +kernel⟩
abbrev s_are_named : Stmt := topS 20
theorem sc_are_named : FnScope ["pairs", "pair"] ["pairs"] (defScope s_are_named) :=
  ⟨rfl, rfl, rfl, by decide +kernel, rfl, by decide +kernel, by decide +kernel⟩
abbrev s_names_of : Stmt := topS 21
theorem sc_names_of : FnScope ["pairs", "pair"] ["pairs"] (defScope s_names_of) :=
  ⟨rfl, rfl, rfl, by decide +kernel, rfl, by decide +kernel, by decide +kernel⟩
abbrev s_make_tree : Stmt := topS 22
theorem sc_make_tree : FnScope ["props", "children", "tree"] ["props", "children"] (defScope s_make_tree) :=
  ⟨rfl, rfl, rfl, by decide +kernel, rfl, by decide +kernel, by decide +kernel⟩
abbrev s_by_name : Stmt := topS 23
theorem sc_by_name : FnScope ["pairs"] ["pairs"] (defScope s_by_name) :=
  ⟨rfl, rfl, rfl, by decide +kernel, rfl, by decide +kernel, by decide +kernel⟩
abbrev s__law_draw : Stmt := topS 25
theorem sc__law_draw : FnScope ["_law_stream", "_law_many", "_law_digit", "_law_mixed_here"] ["_law_stream", "_law_many"] (defScope s__law_draw) :=
  ⟨rfl, rfl, rfl, by decide +kernel, rfl, by decide +kernel, by decide +kernel⟩
abbrev s__law_same : Stmt := topS 26
theorem sc__law_same : FnScope ["_law_found", "_law_due"] ["_law_found", "_law_due"] (defScope s__law_same) :=
  ⟨rfl, rfl, rfl, by decide +kernel, rfl, by decide +kernel, by decide +kernel⟩
abbrev s__law_mixed : Stmt := topS 27
theorem sc__law_mixed : FnScope ["_law_stream", "_law_some", "_law_left", "_law_k"] ["_law_stream", "_law_some"] (defScope s__law_mixed) :=
  ⟨rfl, rfl, rfl, by decide +kernel, rfl, by decide +kernel, by decide +kernel⟩
abbrev s__law_path : Stmt := topS 28
theorem sc__law_path : FnScope ["_law_stream", "_law_most", "_law_k"] ["_law_stream", "_law_most"] (defScope s__law_path) :=
  ⟨rfl, rfl, rfl, by decide +kernel, rfl, by decide +kernel, by decide +kernel⟩
abbrev s__law_value : Stmt := topS 29
theorem sc__law_value : FnScope ["_law_stream", "_law_way"] ["_law_stream"] (defScope s__law_value) :=
  ⟨rfl, rfl, rfl, by decide +kernel, rfl, by decide +kernel, by decide +kernel⟩
abbrev s__law_props : Stmt := topS 30
theorem sc__law_props : FnScope ["_law_stream", "_law_name"] ["_law_stream"] (defScope s__law_props) :=
  ⟨rfl, rfl, rfl, by decide +kernel, rfl, by decide +kernel, by decide +kernel⟩
abbrev s__law_listed : Stmt := topS 31
theorem sc__law_listed : FnScope ["_law_stream", "_law_thing_here", "_law_parts", "_law_part"] ["_law_stream", "_law_thing_here"] (defScope s__law_listed) :=
  ⟨rfl, rfl, rfl, by decide +kernel, rfl, by decide +kernel, by decide +kernel⟩
abbrev s__law_is_name : Stmt := topS 32
theorem sc__law_is_name : FnScope ["_law_thing_here", "_law_sign"] ["_law_thing_here"] (defScope s__law_is_name) :=
  ⟨rfl, rfl, rfl, by decide +kernel, rfl, by decide +kernel, by decide +kernel⟩
abbrev s__law_is_path : Stmt := topS 33
theorem sc__law_is_path : FnScope ["_law_thing_here", "_law_one"] ["_law_thing_here"] (defScope s__law_is_path) :=
  ⟨rfl, rfl, rfl, by decide +kernel, rfl, by decide +kernel, by decide +kernel⟩
abbrev s__law_is_value : Stmt := topS 34
theorem sc__law_is_value : FnScope ["_law_thing_here"] ["_law_thing_here"] (defScope s__law_is_value) :=
  ⟨rfl, rfl, rfl, by decide +kernel, rfl, by decide +kernel, by decide +kernel⟩
abbrev s__law_letters : Stmt := topS 35
theorem sc__law_letters : FnScope ["_law_stream", "_law_many", "_law_letters_here", "_law_k"] ["_law_stream", "_law_many"] (defScope s__law_letters) :=
  ⟨rfl, rfl, rfl, by decide +kernel, rfl, by decide +kernel, by decide +kernel⟩
abbrev s__law_near_name : Stmt := topS 36
theorem sc__law_near_name : FnScope ["_law_stream", "_law_found", "_law_at", "_law_sign"] ["_law_stream"] (defScope s__law_near_name) :=
  ⟨rfl, rfl, rfl, by decide +kernel, rfl, by decide +kernel, by decide +kernel⟩
abbrev s__law_thing : Stmt := topS 37
theorem sc__law_thing : FnScope ["_law_stream", "_law_deep", "_law_some", "_law_parts", "_law_k"] ["_law_stream", "_law_deep"] (defScope s__law_thing) :=
  ⟨rfl, rfl, rfl, by decide +kernel, rfl, by decide +kernel, by decide +kernel⟩
abbrev s__law_near_path : Stmt := topS 38
theorem sc__law_near_path : FnScope ["_law_stream", "_law_many", "_law_parts", "_law_k", "_law_odd"] ["_law_stream"] (defScope s__law_near_path) :=
  ⟨rfl, rfl, rfl, by decide +kernel, rfl, by decide +kernel, by decide +kernel⟩
abbrev s__law_near_value : Stmt := topS 39
theorem sc__law_near_value : FnScope ["_law_stream", "_law_way", "_law_parts"] ["_law_stream"] (defScope s__law_near_value) :=
  ⟨rfl, rfl, rfl, by decide +kernel, rfl, by decide +kernel, by decide +kernel⟩
abbrev s__law_some_names : Stmt := topS 40
theorem sc__law_some_names : FnScope ["_law_stream", "_law_many", "_law_found", "_law_k", "_law_name"] ["_law_stream", "_law_many"] (defScope s__law_some_names) :=
  ⟨rfl, rfl, rfl, by decide +kernel, rfl, by decide +kernel, by decide +kernel⟩
abbrev s__law_wide_tree : Stmt := topS 41
theorem sc__law_wide_tree : FnScope ["_law_stream", "_law_left", "_law_deep", "_law_props_here", "_law_name", "_law_children"] ["_law_stream", "_law_left", "_law_deep"] (defScope s__law_wide_tree) :=
  ⟨rfl, rfl, rfl, by decide +kernel, rfl, by decide +kernel, by decide +kernel⟩
abbrev s__law_under : Stmt := topS 42
theorem sc__law_under : FnScope ["_law_stream", "_law_part", "_law_levels", "_law_k"] ["_law_stream", "_law_part", "_law_levels"] (defScope s__law_under) :=
  ⟨rfl, rfl, rfl, by decide +kernel, rfl, by decide +kernel, by decide +kernel⟩
abbrev s__law_any_tree : Stmt := topS 43
theorem sc__law_any_tree : FnScope ["_law_stream", "_law_part"] ["_law_stream"] (defScope s__law_any_tree) :=
  ⟨rfl, rfl, rfl, by decide +kernel, rfl, by decide +kernel, by decide +kernel⟩
abbrev s__law_is_tree : Stmt := topS 44
theorem sc__law_is_tree : FnScope ["_law_thing_here", "_law_levels", "_law_pairs", "_law_last", "_law_pair"] ["_law_thing_here", "_law_levels"] (defScope s__law_is_tree) :=
  ⟨rfl, rfl, rfl, by decide +kernel, rfl, by decide +kernel, by decide +kernel⟩
abbrev s__law_bent_pairs : Stmt := topS 45
theorem sc__law_bent_pairs : FnScope ["_law_stream", "_law_pairs", "_law_at", "_law_name", "_law_value_here", "_law_some", "_law_one"] ["_law_stream", "_law_pairs"] (defScope s__law_bent_pairs) :=
  ⟨rfl, rfl, rfl, by decide +kernel, rfl, by decide +kernel, by decide +kernel⟩
abbrev s__law_bent_tree : Stmt := topS 46
theorem sc__law_bent_tree : FnScope ["_law_stream", "_law_part", "_law_at", "_law_name", "_law_child", "_law_way", "_law_parts"] ["_law_stream", "_law_part"] (defScope s__law_bent_tree) :=
  ⟨rfl, rfl, rfl, by decide +kernel, rfl, by decide +kernel, by decide +kernel⟩
abbrev s__law_tupled : Stmt := topS 47
theorem sc__law_tupled : FnScope ["_law_thing_here", "_law_part"] ["_law_thing_here"] (defScope s__law_tupled) :=
  ⟨rfl, rfl, rfl, by decide +kernel, rfl, by decide +kernel, by decide +kernel⟩
abbrev s__law_due_tree : Stmt := topS 48
theorem sc__law_due_tree : FnScope ["_law_props_here", "_law_children", "_law_found", "_law_pairs", "_law_pair", "_law_known", "_law_name"] ["_law_props_here", "_law_children"] (defScope s__law_due_tree) :=
  ⟨rfl, rfl, rfl, by decide +kernel, rfl, by decide +kernel, by decide +kernel⟩
abbrev s__law_tree_made : Stmt := topS 49
theorem sc__law_tree_made : FnScope ["_law_first", "_law_second", "_law_found", "e"] ["_law_first", "_law_second"] (defScope s__law_tree_made) :=
  ⟨rfl, rfl, rfl, by decide +kernel, rfl, by decide +kernel, by decide +kernel⟩
abbrev s_law : Stmt := topS 50
theorem sc_law : FnScope ["_law_script", "_law_stream", "_law_turn", "_law_part", "_law_pairs", "_law_way", "_law_at", "_law_name", "_law_value_here", "_law_more", "_law_child", "_law_handed", "_law_some", "_law_kept", "_law_due", "_law_found"] ["_law_script"] (defScope s_law) :=
  ⟨rfl, rfl, rfl, by decide +kernel, rfl, by decide +kernel, by decide +kernel⟩
abbrev s_BadTree : Stmt := inS (topS 6) 0
theorem sc_BadTree : FnScope ["self"] ["self"] (defScope s_BadTree) :=
  ⟨rfl, rfl, rfl, by decide +kernel, rfl, by decide +kernel, by decide +kernel⟩
/-- a def of the text, bound to its name -/
structure Df (K : PySem.W.Frag) (mg : Str → Option Value) (x : String) (st : Stmt) (ps : List Str) (f : Addr) (fd : FuncData) : Prop where
  F : Fun K x x st f fd
  b : Binds K fd ps []
  m : mg x = some (.ref f)
/-- the built-in's names that the text calls are the built-in's -/
structure Bi (mg : Str → Option Value) : Prop where
  len : mg "len" = none
  isinstance : mg "isinstance" = none
  all : mg "all" = none
  int : mg "int" = none
  str : mg "str" = none
  tuple : mg "tuple" = none
  list : mg "list" = none
  range : mg "range" = none
  repr : mg "repr" = none
  sorted : mg "sorted" = none
  bool : mg "bool" = none
  zip : mg "zip" = none
  dict : mg "dict" = none
  ValueError : mg "ValueError" = none
/-- where the defs of the text stand -/
structure Env (K : PySem.W.Frag) (mg : Str → Option Value) where
  T : Bi mg
  t_LONGEST_NAME : Tok
  g_LONGEST_NAME : mg "LONGEST_NAME" = some (.int 8 t_LONGEST_NAME)
  t_LONGEST_PATH : Tok
  g_LONGEST_PATH : mg "LONGEST_PATH" = some (.int 8 t_LONGEST_PATH)
  c_VariantError : Addr
  V_VariantError : VBase K mg "VariantError" c_VariantError
  c_BadTree : Addr
  i_BadTree : Addr
  fd_BadTree : FuncData
  E_BadTree : ECls K mg "BadTree" "BadTree.__init__" s_BadTree ["self"] c_BadTree i_BadTree fd_BadTree c_VariantError
  cB : Addr
  PB : Addr
  f_as_tuples : Addr
  fd_as_tuples : FuncData
  D_as_tuples : Df K mg "as_tuples" s_as_tuples ["value"] f_as_tuples fd_as_tuples
  f_is_pair : Addr
  fd_is_pair : FuncData
  D_is_pair : Df K mg "is_pair" s_is_pair ["value"] f_is_pair fd_is_pair
  f_ascends : Addr
  fd_ascends : FuncData
  D_ascends : Df K mg "ascends" s_ascends ["keys"] f_ascends fd_ascends
  f_is_name : Addr
  fd_is_name : FuncData
  D_is_name : Df K mg "is_name" s_is_name ["value"] f_is_name fd_is_name
  f_is_path : Addr
  fd_is_path : FuncData
  D_is_path : Df K mg "is_path" s_is_path ["value"] f_is_path fd_is_path
  f_is_value : Addr
  fd_is_value : FuncData
  D_is_value : Df K mg "is_value" s_is_value ["value"] f_is_value fd_is_value
  f_is_integer : Addr
  fd_is_integer : FuncData
  D_is_integer : Df K mg "is_integer" s_is_integer ["value"] f_is_integer fd_is_integer
  f_is_link : Addr
  fd_is_link : FuncData
  D_is_link : Df K mg "is_link" s_is_link ["value"] f_is_link fd_is_link
  f_is_tree : Addr
  fd_is_tree : FuncData
  D_is_tree : Df K mg "is_tree" s_is_tree ["value"] f_is_tree fd_is_tree
  f_is_tree_within : Addr
  fd_is_tree_within : FuncData
  D_is_tree_within : Df K mg "is_tree_within" s_is_tree_within ["value", "levels"] f_is_tree_within fd_is_tree_within
  f_are_props : Addr
  fd_are_props : FuncData
  D_are_props : Df K mg "are_props" s_are_props ["pairs"] f_are_props fd_are_props
  f_are_rows : Addr
  fd_are_rows : FuncData
  D_are_rows : Df K mg "are_rows" s_are_rows ["pairs"] f_are_rows fd_are_rows
  f_are_named : Addr
  fd_are_named : FuncData
  D_are_named : Df K mg "are_named" s_are_named ["pairs"] f_are_named fd_are_named
  f_names_of : Addr
  fd_names_of : FuncData
  D_names_of : Df K mg "names_of" s_names_of ["pairs"] f_names_of fd_names_of
  f_make_tree : Addr
  fd_make_tree : FuncData
  e0_make_tree : Addr
  e1_make_tree : Addr
  D_make_tree : Df2 K mg "make_tree" s_make_tree ["props", "children"] f_make_tree fd_make_tree e0_make_tree e1_make_tree
  f_by_name : Addr
  fd_by_name : FuncData
  D_by_name : DfC K mg "by_name" s_by_name ["pairs"] f_by_name fd_by_name cB
  f__law_draw : Addr
  fd__law_draw : FuncData
  D__law_draw : Df K mg "_law_draw" s__law_draw ["_law_stream", "_law_many"] f__law_draw fd__law_draw
  f__law_same : Addr
  fd__law_same : FuncData
  D__law_same : Df K mg "_law_same" s__law_same ["_law_found", "_law_due"] f__law_same fd__law_same
  f__law_mixed : Addr
  fd__law_mixed : FuncData
  D__law_mixed : Df K mg "_law_mixed" s__law_mixed ["_law_stream", "_law_some"] f__law_mixed fd__law_mixed
  f__law_path : Addr
  fd__law_path : FuncData
  D__law_path : Df K mg "_law_path" s__law_path ["_law_stream", "_law_most"] f__law_path fd__law_path
  f__law_value : Addr
  fd__law_value : FuncData
  D__law_value : Df K mg "_law_value" s__law_value ["_law_stream"] f__law_value fd__law_value
  f__law_props : Addr
  fd__law_props : FuncData
  D__law_props : Df K mg "_law_props" s__law_props ["_law_stream"] f__law_props fd__law_props
  f__law_listed : Addr
  fd__law_listed : FuncData
  D__law_listed : Df K mg "_law_listed" s__law_listed ["_law_stream", "_law_thing_here"] f__law_listed fd__law_listed
  f__law_is_name : Addr
  fd__law_is_name : FuncData
  D__law_is_name : Df K mg "_law_is_name" s__law_is_name ["_law_thing_here"] f__law_is_name fd__law_is_name
  f__law_is_path : Addr
  fd__law_is_path : FuncData
  D__law_is_path : Df K mg "_law_is_path" s__law_is_path ["_law_thing_here"] f__law_is_path fd__law_is_path
  f__law_is_value : Addr
  fd__law_is_value : FuncData
  D__law_is_value : Df K mg "_law_is_value" s__law_is_value ["_law_thing_here"] f__law_is_value fd__law_is_value
  f__law_letters : Addr
  fd__law_letters : FuncData
  D__law_letters : Df K mg "_law_letters" s__law_letters ["_law_stream", "_law_many"] f__law_letters fd__law_letters
  f__law_near_name : Addr
  fd__law_near_name : FuncData
  D__law_near_name : Df K mg "_law_near_name" s__law_near_name ["_law_stream"] f__law_near_name fd__law_near_name
  f__law_thing : Addr
  fd__law_thing : FuncData
  D__law_thing : Df K mg "_law_thing" s__law_thing ["_law_stream", "_law_deep"] f__law_thing fd__law_thing
  f__law_near_path : Addr
  fd__law_near_path : FuncData
  D__law_near_path : Df K mg "_law_near_path" s__law_near_path ["_law_stream"] f__law_near_path fd__law_near_path
  f__law_near_value : Addr
  fd__law_near_value : FuncData
  D__law_near_value : Df K mg "_law_near_value" s__law_near_value ["_law_stream"] f__law_near_value fd__law_near_value
  f__law_some_names : Addr
  fd__law_some_names : FuncData
  D__law_some_names : Df K mg "_law_some_names" s__law_some_names ["_law_stream", "_law_many"] f__law_some_names fd__law_some_names
  f__law_wide_tree : Addr
  fd__law_wide_tree : FuncData
  D__law_wide_tree : Df K mg "_law_wide_tree" s__law_wide_tree ["_law_stream", "_law_left", "_law_deep"] f__law_wide_tree fd__law_wide_tree
  f__law_under : Addr
  fd__law_under : FuncData
  D__law_under : Df K mg "_law_under" s__law_under ["_law_stream", "_law_part", "_law_levels"] f__law_under fd__law_under
  f__law_any_tree : Addr
  fd__law_any_tree : FuncData
  D__law_any_tree : Df K mg "_law_any_tree" s__law_any_tree ["_law_stream"] f__law_any_tree fd__law_any_tree
  f__law_is_tree : Addr
  fd__law_is_tree : FuncData
  D__law_is_tree : Df K mg "_law_is_tree" s__law_is_tree ["_law_thing_here", "_law_levels"] f__law_is_tree fd__law_is_tree
  f__law_bent_pairs : Addr
  fd__law_bent_pairs : FuncData
  D__law_bent_pairs : Df K mg "_law_bent_pairs" s__law_bent_pairs ["_law_stream", "_law_pairs"] f__law_bent_pairs fd__law_bent_pairs
  f__law_bent_tree : Addr
  fd__law_bent_tree : FuncData
  D__law_bent_tree : Df K mg "_law_bent_tree" s__law_bent_tree ["_law_stream", "_law_part"] f__law_bent_tree fd__law_bent_tree
  f__law_tupled : Addr
  fd__law_tupled : FuncData
  D__law_tupled : Df K mg "_law_tupled" s__law_tupled ["_law_thing_here"] f__law_tupled fd__law_tupled
  f__law_due_tree : Addr
  fd__law_due_tree : FuncData
  D__law_due_tree : Df K mg "_law_due_tree" s__law_due_tree ["_law_props_here", "_law_children"] f__law_due_tree fd__law_due_tree
  f__law_tree_made : Addr
  fd__law_tree_made : FuncData
  D__law_tree_made : Df K mg "_law_tree_made" s__law_tree_made ["_law_first", "_law_second"] f__law_tree_made fd__law_tree_made
section
variable {P : Program} {w : World} {K : PySem.W.Frag} {mg : Str → Option Value} {base : Heap} (Z : Env K mg)
include Z

/-! ### _law_draw -/
theorem ok__law_draw : FnOk P w K mg base CX0 1 Z.f__law_draw Z.fd__law_draw ["_law_stream", "_law_many"] spDraw := by
  refine Z.D__law_draw.F.ok sc__law_draw (fun vs H Q E h => ?_) (fun cdv A outer s H vs Q E hr h => ?_)
  · obtain ⟨S, C, n, m, rfl, _⟩ := h
    rfl
  obtain ⟨S, C, n, m, rfl, ⟨nSC, ns, x1, x2, x3, hS, hC, hl, h1, h2, h2', h3, h3'⟩, hn, m0, m1, q⟩ := h
  refine ⟨_, (pss_cons (ps_asg (pe_op op_add (pe_ix (ixL (K := K)) (pv 0) pe_int (fun _ _ => rfl)) pe_int) (pg_sub (pv 0) pe_int set_list))
    (C8.pss_cut (ps_if (PW.pt (pw_and (pt_cmpR op_eq (pe_ix (ixL (K := K)) (pv 0) pe_int (fun _ _ => rfl)) pe_int (nomark _)) (pw_and1 (pt_cmpR (neDK (K := K) hr.units) (pe_ix (ixL (K := K)) (pv 0) pe_int (fun _ _ => rfl)) (pe_lst pa_nil) (nomark _))))) (pss_cons (ps_asg (pe_bm PySem.F.plainAttrs_list PySem.F.slot_list_pop PySem.F.type_list_pop mt_popAt (pe_ix (ixL (K := K)) (pv 0) pe_int (fun _ _ => rfl)) (pa_cons pe_int pa_nil)) (pg_sub (pv 0) pe_int set_list))
    (pss_one (ps_if (pt_cmpR op_lt (pe_ix (ixL (K := K)) (pv 0) pe_int (fun _ _ => rfl)) (pe_op op_pow pe_int pe_int) (nomark _)) (pss_cons (ps_asg (pe_op op_mod (pe_callTy call_int1 (by rfl) Z.T.int (by decide +kernel) (pa_cons (pe_op op_add (pe_op op_add (pe_op op_mul (pe_ix (ixL (K := K)) (pv 0) pe_int (fun _ _ => rfl)) pe_int) (pe_ix (ixL (K := K)) (pv 0) pe_int (fun _ _ => rfl))) pe_int) pa_nil)) pe_int) (pg_sub (pv 0) pe_int set_list))
    (pss_one (ps_asg pe_int (pg_sub (pv 0) pe_int set_list)))) pss_nil))) pss_nil)
    (pss_cons (ps_if (pt_cmpR op_gt (pe_ix (ixL (K := K)) (pv 0) pe_int (fun _ _ => rfl)) pe_int (nomark _)) (pss_cons (ps_set (i := 2) sc__law_draw.nd rfl (.inl rfl) (pe_op op_mod (pe_callTy call_int1 (by rfl) Z.T.int (by decide +kernel) (pa_cons (pe_ix (ixL (K := K)) (pv 0) pe_int (fun _ _ => rfl)) pa_nil)) (pv 1)))
    (pss_cons (ps_asg (pe_op op_fdivW (pe_ix (ixL (K := K)) (pv 0) pe_int (fun _ _ => rfl)) (pv 1)) (pg_sub (pv 0) pe_int set_list))
    (pss_one (ps_ret (pv 2))))) pss_nil)
    (pss_cons (ps_set (i := 3) sc__law_draw.nd rfl (.inl rfl) (pe_op op_mod (pe_op op_pow (pe_op op_add (pe_op op_add (pe_ix (ixL (K := K)) (pv 0) pe_int (fun _ _ => rfl)) (pe_op op_mul pe_int (pe_ix (ixL (K := K)) (pv 0) pe_int (fun _ _ => rfl)))) pe_int) pe_int) pe_int))
    (pss_one (ps_ret (pe_op op_mod (pe_op op_mod (pe_op op_pow (pe_op op_add (pe_op op_add (pe_op op_mul (pv 3) pe_int) (pe_op op_mul (pe_op op_mul pe_int (pe_ix (ixL (K := K)) (pv 0) pe_int (fun _ _ => rfl))) (pe_ix (ixL (K := K)) (pv 0) pe_int (fun _ _ => rfl)))) pe_int) pe_int) pe_int) (pv 1)))))))), ?_⟩
  -- stream[2] += 1
  refine ⟨_, rfl, S, _, _, _, rfl, rfl, SqL.of hS, rfl, _, _, rfl, rfl, _, rfl, S, _, _, 2, rfl, rfl, hS, rfl, ?_⟩
  have f0 : Fr S C H (upd H S (.lst ([V.ref C, V.int x1, V.int x2, V.int x3].set 2 (.int (x2 + 1))))) := Fr.updS
  have gS : (upd H S (.lst ([V.ref C, V.int x1, V.int x2, V.int x3].set 2 (.int (x2 + 1))))) S = some (.lst [V.ref C, .int x1, .int (x2 + 1), .int x3]) := upd_same
  have gC : (upd H S (.lst ([V.ref C, V.int x1, V.int x2, V.int x3].set 2 (.int (x2 + 1))))) C = some (.lst (ns.map V.int)) := (upd_ne nSC.symm).trans hC
  generalize (upd H S (.lst ([V.ref C, V.int x1, V.int x2, V.int x3].set 2 (.int (x2 + 1))))) = H0 at f0 gS gC
  refine ⟨fun σ H' => σ = [some (.ref S), some (.int m), none, none] ∧ ∃ (ns : List Int) (x1 x3 : Int), Fr S C H H' ∧ H' S = some (.lst [V.ref C, .int x1, .int (x2 + 1), .int x3]) ∧ H' C = some (.lst (ns.map V.int)) ∧ ns.length ≤ 63 ∧ 0 ≤ x1 ∧ 0 ≤ x3 ∧ x3 < 2147483647, ?_, ?_⟩
  · refine ⟨_, rfl, S, _, _, _, rfl, rfl, SqL.of gS, rfl, rfl, _, rfl, ite2 (fun c => ?_) (fun c => ?_)⟩
    · refine ⟨_, rfl, S, _, _, _, rfl, rfl, SqL.of gS, rfl, (by show 0 ≤ sizeLine; decide), fun e ne => ?_⟩
      have neS : S ≠ e := ne_of_none gS ne
      have neC : C ≠ e := ne_of_none gC ne
      have f1 : Fr S C H (upd H0 e (.lst [])) := f0.trans (Fr.of_same (same_new ne _))
      have gS1 : (upd H0 e (.lst [])) S = _ := (upd_ne neS).trans gS
      have gC1 : (upd H0 e (.lst [])) C = _ := (upd_ne neC).trans gC
      have gE1 : (upd H0 e (.lst [])) e = some (.lst []) := upd_same
      generalize (upd H0 e (.lst [])) = H1 at f1 gS1 gC1 gE1
      refine ⟨.list (ns.map PyData.int), .list [], .lst (SqL.of gC1) (DpAll_ints ns), .lst (SqL.of gE1) .nil, ints_shaped ns, ints_shaped [], _, rfl, ?_⟩
      rw [ints_eqv_nil]
      cases ns with
      | nil => exact iteF ⟨rfl, [], x1, x3, f1, gS1, gC1, hl, h1, h3, h3'⟩
      | cons y ns =>
        refine iteT ?_
        refine ⟨_, rfl, S, _, _, _, rfl, rfl, SqL.of gS1, rfl, .inl ⟨rfl, _, SqL.of gC1⟩, C, _, 0, 0, .int y, rfl, rfl, gC1, (by decide), (by decide), ?_, rfl, ?_⟩
        · simp [seqIndex?]
        have f2 : Fr S C H (upd H1 C (.lst (((y :: ns).map V.int).eraseIdx 0))) := f1.trans Fr.updC
        have gS2 : (upd H1 C (.lst (((y :: ns).map V.int).eraseIdx 0))) S = _ := (upd_ne nSC).trans gS1
        have gC2 : (upd H1 C (.lst (((y :: ns).map V.int).eraseIdx 0))) C = some (.lst (ns.map V.int)) := upd_same
        generalize (upd H1 C (.lst (((y :: ns).map V.int).eraseIdx 0))) = H2 at f2 gS2 gC2
        refine ⟨_, rfl, S, _, _, 1, rfl, rfl, gS2, rfl, ?_⟩
        have f3 : Fr S C H (upd H2 S (.lst ([V.ref C, V.int x1, V.int (x2 + 1), V.int x3].set 1 (.int y)))) := f2.trans Fr.updS
        have gS3 : (upd H2 S (.lst ([V.ref C, V.int x1, V.int (x2 + 1), V.int x3].set 1 (.int y)))) S = some (.lst [V.ref C, .int y, .int (x2 + 1), .int x3]) := upd_same
        have gC3 : (upd H2 S (.lst ([V.ref C, V.int x1, V.int (x2 + 1), V.int x3].set 1 (.int y)))) C = _ := (upd_ne nSC.symm).trans gC2
        generalize (upd H2 S (.lst ([V.ref C, V.int x1, V.int (x2 + 1), V.int x3].set 1 (.int y)))) = H3 at f3 gS3 gC3
        have hl' : ns.length ≤ 63 := by rw [List.length_cons] at hl; omega
        refine ⟨_, rfl, S, _, _, _, rfl, rfl, SqL.of gS3, rfl, _, _, rfl, rfl, ten18_ok, _, _, rfl, rfl, _, rfl, ite2 (fun c => ?_) (fun c => ?_)⟩
        · refine ⟨_, rfl, S, _, _, _, rfl, rfl, SqL.of gS3, rfl, _, _, rfl, rfl, .inl ⟨by omega, by omega⟩, _, rfl, S, _, _, _, rfl, rfl, SqL.of gS3, rfl, _, _, rfl, rfl, _, _, rfl, rfl, .inl ⟨_, rfl, _, _, rfl, rfl, (by show (0 : Int) < 2147483647; decide), ?_⟩⟩
          have z0 := Int.emod_nonneg (x3 * 31 + y + 7) (by decide : (2147483647 : Int) ≠ 0)
          have z1 := Int.emod_lt_of_pos (x3 * 31 + y + 7) (by decide : (0 : Int) < 2147483647)
          show gSub (tVar 0) (tC (V.int 3)) rSetL (.int ((x3 * 31 + y + 7) % 2147483647)) _ _ _
          generalize (x3 * 31 + y + 7) % 2147483647 = z at z0 z1 ⊢
          refine ⟨_, rfl, S, _, _, 3, rfl, rfl, gS3, rfl, ?_⟩
          refine ⟨_, rfl, S, _, _, 1, rfl, rfl, upd_same, rfl, rfl, ns, 0, z, (f3.trans Fr.updS).trans Fr.updS, upd_same, ?_, hl', Int.le_refl _, z0, z1⟩
          rw [upd_ne nSC.symm, upd_ne nSC.symm]
          exact gC3
        · have c' : ¬ y < 10 ^ (18 : Int).toNat := of_decide_eq_false (Bool.eq_false_iff.mpr c)
          have e18 : (10 : Int) ^ (18 : Int).toNat = 1000000000000000000 := by decide
          rw [e18] at c'
          exact ⟨rfl, ns, y, x3, f3, gS3, gC3, hl', by omega, h3, h3'⟩
    · exact ⟨rfl, ns, x1, x3, f0, gS, gC, hl, h1, h3, h3'⟩
  · rintro σ H1 ⟨rfl, ns, x1, x3, f1, gS1, gC1, hl, h1, h3, h3'⟩
    refine ⟨_, rfl, S, _, _, _, rfl, rfl, SqL.of gS1, rfl, _, _, rfl, rfl, _, rfl, ite2 (fun c => ?_) (fun c => ?_)⟩
    · refine ⟨_, rfl, S, _, _, _, rfl, rfl, SqL.of gS1, rfl, .inl ⟨_, rfl, _, rfl, _, _, rfl, rfl, m0, ?_⟩⟩
      refine ⟨_, rfl, S, _, _, _, rfl, rfl, SqL.of gS1, rfl, _, rfl, _, _, rfl, rfl, many_div m0 m1, _, rfl, S, _, _, 1, rfl, rfl, gS1, rfl, ?_⟩
      refine ⟨_, rfl, q _ _ (Int.emod_nonneg _ (by omega)) (Int.emod_lt_of_pos _ m0) ⟨nSC, ns, x1 / m, x2 + 1, x3, upd_same, (upd_ne nSC.symm).trans gC1, hl, Int.ediv_nonneg h1 (by omega), by omega, by omega, h3, h3'⟩ (f1.trans Fr.updS)⟩
    · refine ⟨_, rfl, S, _, _, _, rfl, rfl, SqL.of gS1, rfl, _, rfl, S, _, _, _, rfl, rfl, SqL.of gS1, rfl, _, _, rfl, rfl, .inl ⟨by decide, by decide⟩, _, _, rfl, rfl, _, _, rfl, rfl, _, _, rfl, rfl, pow5_ok h3 h3' (by omega) (by omega), _, _, rfl, rfl, (by show (0 : Int) < 2147483629; decide), ?_⟩
      have z0 := Int.emod_nonneg ((x3 + 104729 * (x2 + 1) + 17) ^ (5 : Int).toNat) (by decide : (2147483629 : Int) ≠ 0)
      have z1 := Int.emod_lt_of_pos ((x3 + 104729 * (x2 + 1) + 17) ^ (5 : Int).toNat) (by decide : (0 : Int) < 2147483629)
      show gName 3 (.int ((x3 + 104729 * (x2 + 1) + 17) ^ (5 : Int).toNat % 2147483629)) _ _ _
      generalize (x3 + 104729 * (x2 + 1) + 17) ^ (5 : Int).toNat % 2147483629 = z at z0 z1 ⊢
      refine ⟨_, rfl, _, _, rfl, rfl, .inl ⟨by omega, by omega⟩, _, rfl, S, _, _, _, rfl, rfl, SqL.of gS1, rfl, _, _, rfl, rfl, .inl ⟨by decide, by decide⟩, _, rfl, S, _, _, _, rfl, rfl, SqL.of gS1, rfl, _, _, rfl, rfl, .inl ⟨by omega, by omega⟩, _, _, rfl, rfl, _, _, rfl, rfl, _, _, rfl, rfl, pow3_ok z0 z1 (by omega) (by omega), _, _, rfl, rfl, (by show (0 : Int) < 1000000007; decide), _, rfl, _, _, rfl, rfl, m0, ?_⟩
      exact q _ _ (Int.emod_nonneg _ (by omega)) (Int.emod_lt_of_pos _ m0) ⟨nSC, ns, x1, x2 + 1, x3, gS1, gC1, hl, h1, by omega, by omega, h3, h3'⟩ f1

/-! ### is_name, is_path -/
theorem ok_is_name : FnOk P w K mg base CX0 1 Z.f_is_name Z.fd_is_name ["value"] (spTell K nameD) := by
  refine Z.D_is_name.F.ok sc_is_name (fun vs H Q E h => ?_) (fun cdv A outer s H vs Q E hr h => ?_)
  · obtain ⟨v, d, rfl, _⟩ := h
    rfl
  obtain ⟨v, d, rfl, hd, ok, q⟩ := h
  refine ⟨_, (pss_cons (ps_if (PW.pt (pw_or (pt_not (pt_val (pe_callB (isiK (K := K)) (by rfl) Z.T.isinstance (by decide +kernel) (pa_cons (pv 0) (pa_cons (pe_bltn (v := .ty "str") (u := .type "str") (by rfl) Z.T.str (by decide +kernel) rfl) pa_nil))))) (pw_or1 (pt_not (pt_chain op_le op_le pe_int (pe_callB call_len_str (by rfl) Z.T.len (by decide +kernel) (pa_cons (pv 0) pa_nil)) (pe_glob (v := .int 8) (by rfl) Z.g_LONGEST_NAME ⟨_, rfl⟩)))))) (pss_one (ps_ret pe_bl)) pss_nil)
    (pss_one (ps_ret (pe_callB (allK (K := K) rfl) (by rfl) Z.T.all (by decide +kernel) (pa_cons (pe_lc (own := [("sign", 1)]) (g := gName 1) (tt := tYes) rfl sc_is_name.nd (pi_str (pv 0)) (blkOk_by (own := [("sign", 1)]) (N := ["value", "sign"]) (sc := defScope s_is_name) (by decide +kernel)) (fun _ _ _ _ _ => (pg_name (i := 1) sc_is_name.nd rfl (.inl rfl))) (fun _ _ _ _ _ => pts_nil) (fun _ _ _ _ _ => (pe_chain op_le_str op_le_str pe_str (pv 1) pe_str))) pa_nil))))), ?_⟩
  refine ⟨_, rfl, _, _, _, _, isStr d, rfl, .ty "str", Dp_type hd, kit_str hd, _, rfl, ?_⟩
  cases d with
  | str x =>
    cases hd
    have hx := ok.str
    refine iteF ?_
    refine ⟨_, rfl, x, rfl, hx, _, _, rfl, rfl, _, rfl, ?_⟩
    have name : ∀ H', Same H H' → Q (.bl ((decide (1 ≤ x.length) && decide (x.length ≤ 8)) && (x.cps.toList.map fun c => decide (97 ≤ c) && decide (c ≤ 122)).all id)) H' := fun H' s' => by
      have e := q H' s'
      simp only [nameD] at e
      rw [List.all_map]
      exact e
    refine ite2 (fun c1 => ?_) (fun c1 => ?_)
    · have c1' := of_decide_eq_true c1
      refine ⟨_, _, rfl, rfl, _, rfl, ?_⟩
      refine ite2 (fun c2 => ?_) (fun c2 => ?_)
      · have c2' : ¬ (x.length : Int) ≤ 8 := by simpa using c2
        have e := name H (Same.refl H)
        rw [decide_eq_false (show ¬ x.length ≤ 8 by omega), Bool.and_false, Bool.false_and] at e
        exact e
      · have c2' : (x.length : Int) ≤ 8 := by simpa using c2
        refine ⟨_, rfl, x, rfl, fun D nD => lc_signs (fun c => decide (97 ≤ c) && decide (c ≤ 122)) nD hx (fun _ => rfl) (fun c H3 q3 _ h3 => ?_) fun H' s' e' => ?_⟩
        · refine ⟨_, rfl, _, _, rfl, rfl, _, rfl, ?_⟩
          rw [← sign_az c] at h3
          refine ite2 (fun d1 => ?_) (fun d1 => ?_)
          · rw [show (!decide ([c] < [97])) = true from d1, Bool.true_and] at h3
            exact ⟨_, _, rfl, rfl, h3⟩
          · rw [show (!decide ([c] < [97])) = false from Bool.eq_false_iff.mpr d1, Bool.false_and] at h3
            exact h3
        · refine ⟨D, _, rfl, SqL.of e', ?_⟩
          have e := name H' s'
          rw [decide_eq_true (show 1 ≤ x.length by omega), decide_eq_true (show x.length ≤ 8 by omega), Bool.true_and, Bool.true_and] at e
          exact e
    · have c1' := of_decide_eq_false (Bool.eq_false_iff.mpr c1)
      refine ⟨_, rfl, iteT ?_⟩
      have e := name H (Same.refl H)
      rw [decide_eq_false (show ¬ 1 ≤ x.length by omega), Bool.false_and, Bool.false_and] at e
      exact e
  | _ => exact iteT (q H (Same.refl H))
theorem ok_is_path : FnOk P w K mg base CX0 2 Z.f_is_path Z.fd_is_path ["value"] (spTell K pathD) := by
  refine Z.D_is_path.F.ok sc_is_path (fun vs H Q E h => ?_) (fun cdv A outer s H vs Q E hr h => ?_)
  · obtain ⟨v, d, rfl, _⟩ := h
    rfl
  obtain ⟨v, d, rfl, hd, ok, q⟩ := h
  refine ⟨_, (pss_cons (ps_if (PW.pt (pw_or (pt_not (pt_val (pe_callB (isiK (K := K)) (by rfl) Z.T.isinstance (by decide +kernel) (pa_cons (pv 0) (pa_cons (pe_bltn (v := .ty "tuple") (u := .type "tuple") (by rfl) Z.T.tuple (by decide +kernel) rfl) pa_nil))))) (pw_or1 (pt_cmpR op_gt (pe_callB (lenK (K := K)) (by rfl) Z.T.len (by decide +kernel) (pa_cons (pv 0) pa_nil)) (pe_glob (v := .int 8) (by rfl) Z.g_LONGEST_PATH ⟨_, rfl⟩) (nomark _))))) (pss_one (ps_ret pe_bl)) pss_nil)
    (pss_one (ps_ret (pe_callB (allK (K := K) rfl) (by rfl) Z.T.all (by decide +kernel) (pa_cons (pe_lc (own := [("name", 1)]) (g := gName 1) (tt := tYes) rfl sc_is_path.nd (pi_tup (pv 0)) (blkOk_by (own := [("name", 1)]) (N := ["value", "name"]) (sc := defScope s_is_path) (by decide +kernel)) (fun _ _ _ _ _ => (pg_name (i := 1) sc_is_path.nd rfl (.inl rfl))) (fun _ _ _ _ _ => pts_nil) (fun _ _ _ _ _ => (pe_call (ok_is_name Z) (hr.mono (by decide)) (by rfl) Z.D_is_name.m Z.D_is_name.F.kp Z.D_is_name.b .nil pass0 (pa_cons (pv 1) pa_nil)))) pa_nil))))), ?_⟩
  refine ⟨_, rfl, _, _, _, _, isTup d, rfl, .ty "tuple", Dp_type hd, kit_tup hd, _, rfl, ?_⟩
  cases d with
  | tuple ds =>
    cases hd with
    | @tup a xs _ hs ha =>
      have hl := DpAll_len ha
      refine iteF ?_
      refine ⟨_, rfl, a, xs, rfl, .inr hs, _, _, rfl, rfl, _, rfl, ?_⟩
      refine ite2 (fun c => ?_) (fun c => ?_)
      · have c' : (8 : Int) < (xs.length : Int) := of_decide_eq_true c
        have e := q H (Same.refl H)
        simp only [pathD] at e
        rw [decide_eq_false (show ¬ ds.length ≤ 8 by omega), Bool.false_and] at e
        exact e
      · have c' : ¬ (8 : Int) < (xs.length : Int) := of_decide_eq_false (Bool.eq_false_iff.mpr c)
        refine ⟨_, rfl, a, rfl, ⟨xs, hs⟩, fun D nD => lc_items nameD nD hs ha (Nat.le_trans (show ds.length ≤ 8 by omega) (by decide)) (fun _ => rfl) (fun v d H3 q3 hd hv _ k => ?_) fun H' s' e' => ?_⟩
        · exact ⟨_, rfl, v, d, rfl, hv, ok.item hd, k⟩
        · refine ⟨D, _, rfl, SqL.of e', ?_⟩
          have e := q H' s'
          simp only [pathD] at e
          rw [decide_eq_true (show ds.length ≤ 8 by omega), Bool.true_and] at e
          rw [List.all_map]
          exact e
  | _ => exact iteT (q H (Same.refl H))

/-! ### _law_same, _law_is_name, _law_is_path -/
theorem ok__law_same : FnG P w K mg base CX0 1 Z.f__law_same Z.fd__law_same ["_law_found", "_law_due"] (spSame K) := by
  refine Fun_okG Z.D__law_same.F sc__law_same (fun vs H Q E h => ?_) (fun cdv A outer s H vs Q E hG hr h => ?_)
  · obtain ⟨v, u, d, e, rfl, _⟩ := h
    rfl
  obtain ⟨v, u, d, e, rfl, hd, he, od, oe, q⟩ := h
  refine ⟨_, (pss_one (ps_ret (pe_cmpR op_eq (pe_callB (reprK (K := K) hG hr.units) (by rfl) Z.T.repr (by decide +kernel) (pa_cons (pv 0) pa_nil)) (pe_callB (reprK (K := K) hG hr.units) (by rfl) Z.T.repr (by decide +kernel) (pa_cons (pv 1) pa_nil)) (nomark _)))), ?_⟩
  obtain ⟨a1, a2, a3⟩ := shown_big d od.fine
  obtain ⟨b1, b2, b3⟩ := shown_big e oe.fine
  refine ⟨_, rfl, v, d, rfl, hd, a1, a2, od.depth, Nat.le_trans a3 od.big, _, rfl, u, e, rfl, he, b1, b2, oe.depth, Nat.le_trans b3 oe.big, rfl, ?_⟩
  rw [str_dec]
  exact q
theorem ok__law_is_name : FnOk P w K mg base CX0 1 Z.f__law_is_name Z.fd__law_is_name ["_law_thing_here"] (spTell K nameD) := by
  refine Z.D__law_is_name.F.ok sc__law_is_name (fun vs H Q E h => ?_) (fun cdv A outer s H vs Q E hr h => ?_)
  · obtain ⟨v, d, rfl, _⟩ := h
    rfl
  obtain ⟨v, d, rfl, hd, ok, q⟩ := h
  refine ⟨_, (pss_cons (ps_if (PW.pt (pw_or (pt_not (pt_val (pe_callB (isiK (K := K)) (by rfl) Z.T.isinstance (by decide +kernel) (pa_cons (pv 0) (pa_cons (pe_bltn (v := .ty "str") (u := .type "str") (by rfl) Z.T.str (by decide +kernel) rfl) pa_nil))))) (pw_or1 (pt_not (pt_chain op_lt op_lt pe_int (pe_callB call_len_str (by rfl) Z.T.len (by decide +kernel) (pa_cons (pv 0) pa_nil)) pe_int))))) (pss_one (ps_ret pe_bl)) pss_nil)
    (pss_one (ps_ret (pe_callB (allK (K := K) rfl) (by rfl) Z.T.all (by decide +kernel) (pa_cons (pe_lc (own := [("_law_sign", 1)]) (g := gName 1) (tt := tYes) rfl sc__law_is_name.nd (pi_str (pv 0)) (blkOk_by (own := [("_law_sign", 1)]) (N := ["_law_thing_here", "_law_sign"]) (sc := defScope s__law_is_name) (by decide +kernel)) (fun _ _ _ _ _ => (pg_name (i := 1) sc__law_is_name.nd rfl (.inl rfl))) (fun _ _ _ _ _ => pts_nil) (fun _ _ _ _ _ => (pe_cmpR op_in_sign (pv 1) pe_str rfl))) pa_nil))))), ?_⟩
  refine ⟨_, rfl, _, _, _, _, isStr d, rfl, .ty "str", Dp_type hd, kit_str hd, _, rfl, ?_⟩
  cases d with
  | str x =>
    cases hd
    have hx := ok.str
    refine iteF ?_
    refine ⟨_, rfl, x, rfl, hx, _, _, rfl, rfl, _, rfl, ?_⟩
    have name : ∀ H', Same H H' → Q (.bl ((decide (1 ≤ x.length) && decide (x.length ≤ 8)) && (x.cps.toList.map fun c => decide (97 ≤ c) && decide (c ≤ 122)).all id)) H' := fun H' s' => by
      have e := q H' s'
      simp only [nameD] at e
      rw [List.all_map]
      exact e
    refine ite2 (fun c1 => ?_) (fun c1 => ?_)
    · have c1' := of_decide_eq_true c1
      refine ⟨_, _, rfl, rfl, _, rfl, ?_⟩
      refine ite2 (fun c2 => ?_) (fun c2 => ?_)
      · have c2' : ¬ (x.length : Int) < 9 := by simpa using c2
        have e := name H (Same.refl H)
        rw [decide_eq_false (show ¬ x.length ≤ 8 by omega), Bool.and_false, Bool.false_and] at e
        exact e
      · have c2' : (x.length : Int) < 9 := by simpa using c2
        refine ⟨_, rfl, x, rfl, fun D nD => lc_signs (fun c => decide (97 ≤ c) && decide (c ≤ 122)) nD hx (fun _ => rfl) (fun c H3 q3 _ h3 => ?_) fun H' s' e' => ?_⟩
        · refine ⟨_, rfl, c, _, rfl, rfl, ?_⟩
          rw [sign_in]
          exact h3
        · refine ⟨D, _, rfl, SqL.of e', ?_⟩
          have e := name H' s'
          rw [decide_eq_true (show 1 ≤ x.length by omega), decide_eq_true (show x.length ≤ 8 by omega), Bool.true_and, Bool.true_and] at e
          exact e
    · have c1' := of_decide_eq_false (Bool.eq_false_iff.mpr c1)
      refine ⟨_, rfl, iteT ?_⟩
      have e := name H (Same.refl H)
      rw [decide_eq_false (show ¬ 1 ≤ x.length by omega), Bool.false_and, Bool.false_and] at e
      exact e
  | _ => exact iteT (q H (Same.refl H))
theorem ok__law_is_path : FnOk P w K mg base CX0 2 Z.f__law_is_path Z.fd__law_is_path ["_law_thing_here"] (spTell K pathD) := by
  refine Z.D__law_is_path.F.ok sc__law_is_path (fun vs H Q E h => ?_) (fun cdv A outer s H vs Q E hr h => ?_)
  · obtain ⟨v, d, rfl, _⟩ := h
    rfl
  obtain ⟨v, d, rfl, hd, ok, q⟩ := h
  refine ⟨_, (pss_one (ps_ret (pe_and (pe_callB (isiK (K := K)) (by rfl) Z.T.isinstance (by decide +kernel) (pa_cons (pv 0) (pa_cons (pe_bltn (v := .ty "tuple") (u := .type "tuple") (by rfl) Z.T.tuple (by decide +kernel) rfl) pa_nil))) (pe_and (pe_cmpR op_lt (pe_callB (lenK (K := K)) (by rfl) Z.T.len (by decide +kernel) (pa_cons (pv 0) pa_nil)) pe_int (nomark _)) (pe_one (pe_callB (allK (K := K) rfl) (by rfl) Z.T.all (by decide +kernel) (pa_cons (pe_lc (own := [("_law_one", 1)]) (g := gName 1) (tt := tYes) rfl sc__law_is_path.nd (pi_tup (pv 0)) (blkOk_by (own := [("_law_one", 1)]) (N := ["_law_thing_here", "_law_one"]) (sc := defScope s__law_is_path) (by decide +kernel)) (fun _ _ _ _ _ => (pg_name (i := 1) sc__law_is_path.nd rfl (.inl rfl))) (fun _ _ _ _ _ => pts_nil) (fun _ _ _ _ _ => (pe_call (ok__law_is_name Z) (hr.mono (by decide)) (by rfl) Z.D__law_is_name.m Z.D__law_is_name.F.kp Z.D__law_is_name.b .nil pass0 (pa_cons (pv 1) pa_nil)))) pa_nil))))))), ?_⟩
  refine ⟨_, rfl, _, _, _, _, isTup d, rfl, .ty "tuple", Dp_type hd, kit_tup hd, _, rfl, ?_⟩
  cases d with
  | tuple ds =>
    cases hd with
    | @tup a xs _ hs ha =>
      have hl := DpAll_len ha
      refine iteT ?_
      refine ⟨_, rfl, a, xs, rfl, .inr hs, _, _, rfl, rfl, _, rfl, ?_⟩
      refine ite2 (fun c => ?_) (fun c => ?_)
      · have c' : (xs.length : Int) < 9 := of_decide_eq_true c
        refine ⟨_, rfl, a, rfl, ⟨xs, hs⟩, fun D nD => lc_items nameD nD hs ha (Nat.le_trans (show ds.length ≤ 8 by omega) (by decide)) (fun _ => rfl) (fun v d H3 q3 hd hv _ k => ?_) fun H' s' e' => ?_⟩
        · exact ⟨_, rfl, v, d, rfl, hv, ok.item hd, k⟩
        · refine ⟨D, _, rfl, SqL.of e', ?_⟩
          have e := q H' s'
          simp only [pathD] at e
          rw [decide_eq_true (show ds.length ≤ 8 by omega), Bool.true_and] at e
          rw [List.all_map]
          exact e
      · have c' : ¬ (xs.length : Int) < 9 := of_decide_eq_false (Bool.eq_false_iff.mpr c)
        have e := q H (Same.refl H)
        simp only [pathD] at e
        rw [decide_eq_false (show ¬ ds.length ≤ 8 by omega), Bool.false_and] at e
        exact e
  | _ => exact iteF (q H (Same.refl H))

/-! ### _law_letters, _law_near_name -/
theorem ok__law_letters : FnOk P w K mg base CX0 2 Z.f__law_letters Z.fd__law_letters ["_law_stream", "_law_many"] spLetters := by
  refine Z.D__law_letters.F.ok sc__law_letters (fun vs H Q E h => ?_) (fun cdv A outer s H vs Q E hr h => ?_)
  · obtain ⟨S, C, n, m, rfl, _⟩ := h
    rfl
  obtain ⟨S, C, n, m, rfl, hm, st, hn, q⟩ := h
  refine ⟨_, (pss_cons (ps_set (i := 2) sc__law_letters.nd rfl (.inr rfl) pe_str)
    (pss_one (ps_ret (pe_join pe_str (pe_lc (own := [("_law_k", 3)]) (g := gName 3) (tt := tYes) rfl sc__law_letters.nd (pi_range1 (by rfl) Z.T.range (pa_cons (pv 1) pa_nil)) (blkOk_by (own := [("_law_k", 3)]) (N := ["_law_stream", "_law_many", "_law_letters_here", "_law_k"]) (sc := defScope s__law_letters) (by decide +kernel)) (fun _ _ _ _ _ => (pg_name (i := 3) sc__law_letters.nd rfl (.inl rfl))) (fun _ _ _ _ _ => pts_nil) (fun _ _ _ _ _ => (pe_ix ix_str (pv 2) (pe_call (ok__law_draw Z) (hr.mono (by decide)) (by rfl) Z.D__law_draw.m Z.D__law_draw.F.kp Z.D__law_draw.b .nil pass0 (pa_cons (pv 0) (pa_cons pe_int pa_nil))) (fun _ _ => rfl)))))))), ?_⟩
  refine ⟨⟨_, rfl⟩, _, rfl, m, rfl, by omega, by omega, fun D nD => ?_⟩
  refine lc_get (K := K) (k := 1) (R := fun d => ∃ x, d = .str x ∧ x.length = 1 ∧ azStr x) st nD (by omega) (fun _ => rfl) (fun i H3 q3 hi s3 k3 => ?_) fun H' vs ds e dp hl hR s3 f3 => ?_
  · refine ⟨_, rfl, _, rfl, S, C, _, 26, rfl, s3, by omega, by decide, by decide, fun r H4 r0 r1 s4 f4 => ?_⟩
    have el : (Str.ofString "abcdefghijklmnopqrstuvwxyz").cps.toList = List.range' 97 26 := by decide +kernel
    have hr : r.toNat < 26 := by omega
    have z : atI (Str.ofString "abcdefghijklmnopqrstuvwxyz").cps.toList ((r.toNat : Nat) : Int) = some (97 + r.toNat) := atI_nat (by
      rw [el, List.getElem?_range' hr]
      simp)
    rw [show ((r.toNat : Nat) : Int) = r by omega] at z
    refine ⟨_, r, _, rfl, rfl, (by decide +kernel), z, k3 _ (.str _) H4 (.str _) ⟨_, rfl, rfl, fun c hc => ?_⟩ (s4.mono (by omega)) f4⟩
    have : c = 97 + r.toNat := by simpa using hc
    omega
  · obtain ⟨ys, rfl, hy, g⟩ := strs_of dp hR
    refine ⟨_, D, ys, rfl, rfl, .inl (SqL.of e), ?_, ?_⟩
    · have e0 : (Str.ofString "").length = 0 := by decide +kernel
      have hs : (ys.map (·.length)).sum = ys.length := by
        clear e dp hy
        induction ys with
        | nil => rfl
        | cons y r ih =>
          rw [List.map_cons, List.sum_cons, List.length_cons, (g y List.mem_cons_self).1, ih fun u hu => g u (List.mem_cons_of_mem _ hu)]
          omega
      rw [hs, e0]
      omega
    · obtain ⟨j1, j2⟩ := joined (hy.trans hl) g
      rw [TL.join_eq]
      exact q _ _ j1 j2 (s3.mono (by omega)) f3
theorem ok__law_near_name : FnOk P w K mg base CX0 3 Z.f__law_near_name Z.fd__law_near_name ["_law_stream"] (spGet K 30 (fun us => us = []) fun d => ∃ x, d = .str x ∧ x.length ≤ 40 ∧ okStr x) := by
  refine Z.D__law_near_name.F.ok sc__law_near_name (fun vs H Q E h => ?_) (fun cdv A outer s H vs Q E hr h => ?_)
  · obtain ⟨S, C, n, us, rfl, rfl, _⟩ := h
    rfl
  obtain ⟨S, C, n, us, rfl, rfl, st, hn, q⟩ := h
  refine ⟨_, (pss_cons (ps_set (i := 1) sc__law_near_name.nd rfl (.inl rfl) (pe_call (ok__law_letters Z) (hr.mono (by decide)) (by rfl) Z.D__law_letters.m Z.D__law_letters.F.kp Z.D__law_letters.b .nil pass0 (pa_cons (pv 0) (pa_cons (pe_ix (ixL (K := K)) (pe_lst (pa_cons pe_int (pa_cons pe_int (pa_cons pe_int (pa_cons pe_int (pa_cons pe_int (pa_cons pe_int (pa_cons pe_int (pa_cons pe_int (pa_cons pe_int pa_nil)))))))))) (pe_call (ok__law_draw Z) (hr.mono (by decide)) (by rfl) Z.D__law_draw.m Z.D__law_draw.F.kp Z.D__law_draw.b .nil pass0 (pa_cons (pv 0) (pa_cons pe_int pa_nil))) (fun _ _ => rfl)) pa_nil))))
    (pss_cons (ps_if (pt_cmpR op_eq (pe_call (ok__law_draw Z) (hr.mono (by decide)) (by rfl) Z.D__law_draw.m Z.D__law_draw.F.kp Z.D__law_draw.b .nil pass0 (pa_cons (pv 0) (pa_cons pe_int pa_nil))) pe_int (nomark _)) (pss_cons (ps_set (i := 2) sc__law_near_name.nd rfl (.inl rfl) (pe_call (ok__law_draw Z) (hr.mono (by decide)) (by rfl) Z.D__law_draw.m Z.D__law_draw.F.kp Z.D__law_draw.b .nil pass0 (pa_cons (pv 0) (pa_cons (pe_op op_add (pe_callB call_len_str (by rfl) Z.T.len (by decide +kernel) (pa_cons (pv 1) pa_nil)) pe_int) pa_nil))))
    (pss_cons (ps_set (i := 3) sc__law_near_name.nd rfl (.inl rfl) (pe_ix (ixL (K := K)) (pe_lst (pa_cons pe_str (pa_cons pe_str (pa_cons pe_str (pa_cons pe_str (pa_cons pe_str (pa_cons pe_str (pa_cons pe_str (pa_cons pe_str (pa_cons pe_str (pa_cons pe_str (pa_cons pe_str (pa_cons pe_str (pa_cons pe_str pa_nil)))))))))))))) (pe_call (ok__law_draw Z) (hr.mono (by decide)) (by rfl) Z.D__law_draw.m Z.D__law_draw.F.kp Z.D__law_draw.b .nil pass0 (pa_cons (pv 0) (pa_cons pe_int pa_nil))) (fun _ _ => rfl)))
    (pss_one (ps_set (i := 1) sc__law_near_name.nd rfl (.inl rfl) (pe_op op_add_str (pe_op op_add_str (pe_slice sl_str (pv 1) po_none (po_some (pv 2))) (pv 3)) (pe_slice sl_str (pv 1) (po_some (pe_op op_add (pv 2) (pe_call (ok__law_draw Z) (hr.mono (by decide)) (by rfl) Z.D__law_draw.m Z.D__law_draw.F.kp Z.D__law_draw.b .nil pass0 (pa_cons (pv 0) (pa_cons pe_int pa_nil))))) po_none)))))) pss_nil)
    (pss_one (ps_ret (pv 1))))), ?_⟩
  refine ⟨_, rfl, (by decide), fun p np => ⟨_, rfl, S, C, n, 9, rfl, st.lay np _, by omega, by decide, by decide, fun r H1 r0 r1 s1 f1 => ?_⟩⟩
  obtain ⟨v, e1, e2⟩ := at_int (vs := [V.int 0, V.int 1, V.int 1, V.int 2, V.int 3, V.int 7, V.int 8, V.int 9, V.int 16]) r0 r1
  refine ⟨p, _, r, v, rfl, rfl, SqL.of (st.keep np f1), e1, ?_⟩
  have hv : ∃ m : Nat, v = .int (m : Int) ∧ m ≤ 16 := by
    have := List.mem_of_getElem? e2
    simp only [List.mem_cons, List.not_mem_nil, or_false] at this
    rcases this with rfl | rfl | rfl | rfl | rfl | rfl | rfl | rfl | rfl
    · exact ⟨0, rfl, by decide⟩
    · exact ⟨1, rfl, by decide⟩
    · exact ⟨1, rfl, by decide⟩
    · exact ⟨2, rfl, by decide⟩
    · exact ⟨3, rfl, by decide⟩
    · exact ⟨7, rfl, by decide⟩
    · exact ⟨8, rfl, by decide⟩
    · exact ⟨9, rfl, by decide⟩
    · exact ⟨16, rfl, by decide⟩
  obtain ⟨m, rfl, hm⟩ := hv
  have f1' : Fr S C H H1 := (Fr.lay np _).trans f1
  refine ⟨S, C, n + 1, m, rfl, by omega, s1, by omega, fun x H2 hx az s2 f2 => ?_⟩
  have f2' : Fr S C H H2 := f1'.trans f2
  refine ⟨_, rfl, S, C, _, 3, rfl, s2, by omega, by decide, by decide, fun r H3 r0 r1 s3 f3 => ⟨rfl, _, rfl, ite2 (fun c => ?_) (fun c => ?_)⟩⟩
  · have f3' : Fr S C H H3 := f2'.trans f3
    refine ⟨_, rfl, _, rfl, x, rfl, Nat.le_trans (show x.length ≤ 100 by omega) (by decide), _, _, rfl, rfl, S, C, _, (x.length : Int) + 1, rfl, s3, by omega, by omega, by omega, fun r2 H4 r0 r1 s4 f4 => ?_⟩
    refine ⟨(by decide), fun p np => ⟨_, rfl, S, C, _, 13, rfl, s4.lay np _, by omega, by decide, by decide, fun r H5 r0 r1 s5 f5 => ?_⟩⟩
    obtain ⟨v, e1, e2⟩ := at_int (vs := ["A", "Z", " ", "_", "0", "9", "-", ".", "/", "@", "{", "`", "\n"].map fun z => V.str (Str.ofString z)) r0 r1
    refine ⟨p, _, r, v, rfl, rfl, SqL.of (s4.keep np f5), e1, ?_⟩
    have hv : ∃ y : Str, v = .str y ∧ y.length = 1 ∧ okStr y := by
      have one : ∀ z ∈ ["A", "Z", " ", "_", "0", "9", "-", ".", "/", "@", "{", "`", "\n"], (Str.ofString z).length = 1 ∧ ∀ c ∈ (Str.ofString z).cps.toList, c < 1114112 := by decide +kernel
      obtain ⟨z, hz, rfl⟩ := List.mem_map.mp (List.mem_of_getElem? e2)
      exact ⟨_, rfl, one z hz⟩
    obtain ⟨y, rfl, hy, oy⟩ := hv
    have f5' : Fr S C H H5 := (f3'.trans f4).trans ((Fr.lay np _).trans f5)
    have c1 := cutS_length x none (some r2)
    have big : ∀ {k : Nat}, k ≤ 100 → k ≤ sizeLine := fun h => Nat.le_trans h (by decide)
    refine ⟨_, rfl, _, rfl, r2, rfl, x, rfl, big (by omega), _, rfl, _, _, rfl, rfl, big (by omega), ?_⟩
    refine ⟨_, rfl, _, rfl, _, rfl, S, C, _, 2, rfl, s5, by omega, by decide, by decide, fun r3 H6 r0 r1 s6 f6 => ?_⟩
    have c2 := cutS_length x (some (r2 + r3)) none
    have l1 := len_app (cutS x none (some r2)) y
    have l2 := len_app (cutS x none (some r2) ++ y) (cutS x (some (r2 + r3)) none)
    refine ⟨_, _, rfl, rfl, _, rfl, x, rfl, big (by omega), _, _, rfl, rfl, big (by omega), _, rfl, ?_⟩
    exact q _ (.str _) _ (.str _) ⟨_, rfl, by omega, okStr_app (okStr_app (okStr_cut az.ok _ _) oy) (okStr_cut az.ok _ _)⟩ (s6.mono (by omega)) (f5'.trans f6)
  · refine ⟨_, rfl, q _ (.str x) _ (.str x) ⟨x, rfl, by omega, az.ok⟩ (s3.mono (by omega)) (f2'.trans f3)⟩

/-! ### _law_path, _law_thing -/
theorem ok__law_path : FnOk P w K mg base CX0 2 Z.f__law_path Z.fd__law_path ["_law_stream", "_law_most"] (spGet K 40 (fun us => ∃ m : Nat, us = [.int (m : Int)] ∧ m ≤ 8) fun d => Nice 1 2000 d ∧ pathD d = true) := by
  refine Z.D__law_path.F.ok sc__law_path (fun vs H Q E h => ?_) (fun cdv A outer s H vs Q E hr h => ?_)
  · obtain ⟨S, C, n, us, rfl, ⟨m, rfl, _⟩, _⟩ := h
    rfl
  obtain ⟨S, C, n, us, rfl, ⟨m, rfl, hm⟩, st, hn, q⟩ := h
  refine ⟨_, (pss_one (ps_ret (pe_callTy (tupK (K := K)) (by rfl) Z.T.tuple (by decide +kernel) (pa_cons (pe_lc (own := [("_law_k", 2)]) (g := gName 2) (tt := tYes) rfl sc__law_path.nd (pi_range1 (by rfl) Z.T.range (pa_cons (pe_call (ok__law_draw Z) (hr.mono (by decide)) (by rfl) Z.D__law_draw.m Z.D__law_draw.F.kp Z.D__law_draw.b .nil pass0 (pa_cons (pv 0) (pa_cons (pe_op op_add (pv 1) pe_int) pa_nil))) pa_nil)) (blkOk_by (own := [("_law_k", 2)]) (N := ["_law_stream", "_law_most", "_law_k"]) (sc := defScope s__law_path) (by decide +kernel)) (fun _ _ _ _ _ => (pg_name (i := 2) sc__law_path.nd rfl (.inl rfl))) (fun _ _ _ _ _ => pts_nil) (fun _ _ _ _ _ => (pe_ix (ixL (K := K)) (pe_lst (pa_cons pe_str (pa_cons pe_str (pa_cons pe_str pa_nil)))) (pe_call (ok__law_draw Z) (hr.mono (by decide)) (by rfl) Z.D__law_draw.m Z.D__law_draw.F.kp Z.D__law_draw.b .nil pass0 (pa_cons (pv 0) (pa_cons pe_int pa_nil))) (fun _ _ => rfl)))) pa_nil)))), ?_⟩
  refine ⟨_, rfl, _, rfl, _, _, rfl, rfl, S, C, n, (m : Int) + 1, rfl, st, by omega, by omega, by omega, fun r H1 r0 r1 s1 f1 => ?_⟩
  refine ⟨r, rfl, by omega, by omega, fun D nD => ?_⟩
  refine lc_get (K := K) (k := 1) (R := fun d => Nice 0 40 d ∧ nameD d = true) s1 nD (by omega) (fun _ => rfl) (fun i H3 q3 hi s3 k3 => ?_) fun H' vs ds e dp hl hR s3 f3 => ?_
  · refine ⟨by decide, fun p np => ⟨_, rfl, S, C, _, 3, rfl, s3.lay np _, by omega, by decide, by decide, fun r2 H4 r0 r1 s4 f4 => ?_⟩⟩
    obtain ⟨v, e1, e2⟩ := at_int (vs := ["a", "ab", "kid"].map fun z => V.str (Str.ofString z)) r0 r1
    refine ⟨p, _, r2, v, rfl, rfl, SqL.of (s3.keep np f4), e1, ?_⟩
    have one : ∀ z ∈ ["a", "ab", "kid"], fine (.str (Str.ofString z)) = true ∧ big (.str (Str.ofString z)) ≤ 40 ∧ nameD (.str (Str.ofString z)) = true := by decide +kernel
    obtain ⟨z, hz, rfl⟩ := List.mem_map.mp (List.mem_of_getElem? e2)
    obtain ⟨o1, o2, o3⟩ := one z hz
    exact k3 _ (.str _) H4 (.str _) ⟨⟨o1, Nat.zero_le _, o2⟩, o3⟩ (s4.mono (by omega)) ((Fr.lay np _).trans f4)
  · refine ⟨D, vs, rfl, .inl ⟨SqL.of e, fun l nl => ?_⟩⟩
    have f : Fr S C H H' := f1.trans f3
    have nl0 : H l = none := f.ext s3 l nl
    refine q _ (.tuple ds) _ (new_tup nl0 upd_same (DpAll_mono (newp_right (same_new nl _)) (DpAll_mono ((newp_left Ext.upd).trans (newp_left (f1.ext s1))) dp))) ?_ ((s3.lay nl _).mono (by omega)) (f.trans (Fr.lay nl _))
    have nn := (nices_of fun d hd => (hR d hd).1).tup
    rw [hl] at nn
    refine ⟨nn.mono (by decide) (by omega), ?_⟩
    show (decide (ds.length ≤ 8) && ds.all nameD) = true
    rw [decide_eq_true (show ds.length ≤ 8 by omega), List.all_eq_true.mpr fun d hd => (hR d hd).2]
    rfl

theorem thing_step (m kk : Nat) (spR : Sp) (ih : FnOk P w K mg base CX0 kk Z.f__law_thing Z.fd__law_thing ["_law_stream", "_law_deep"] spR) (hk : kk ≤ m + 1) (hsp : ∀ m', m = m' + 1 → spR = spThing K m') : FnOk P w K mg base CX0 (m+2) Z.f__law_thing Z.fd__law_thing ["_law_stream", "_law_deep"] (spThing K m) := by
  refine Z.D__law_thing.F.ok sc__law_thing (fun vs H Q E h => ?_) (fun cdv A outer s H vs Q E hr h => ?_)
  · obtain ⟨S, C, n, us, rfl, rfl, _⟩ := h
    rfl
  obtain ⟨S, C, n, us, rfl, rfl, st, hn, q⟩ := h
  have hr1 : Room 1 (A.deeper (envOfC "_law_thing" (defScope s__law_thing) s.heap.objs.size Z.f__law_thing cdv)) := hr.mono (by omega)
  have hrk : Room kk (A.deeper (envOfC "_law_thing" (defScope s__law_thing) s.heap.objs.size Z.f__law_thing cdv)) := hr.mono hk
  have k3 : 3 ≤ kT m := by
    cases m with
    | zero => exact Nat.le_refl _
    | succ m => show 3 ≤ 3 * kT m + 5; omega
  have b1 : 2100 ≤ bT m := by
    clear ih hsp hk q hn k3 hr hrk
    induction m with
    | zero => exact Nat.le_refl _
    | succ m i => show 2100 ≤ 3 * (bT m + 2) + 3; omega
  refine ⟨_, (pss_cons (ps_set (i := 2) sc__law_thing.nd rfl (.inl rfl) (pe_lst (pa_cons pe_non (pa_cons pe_bl (pa_cons pe_bl (pa_cons pe_int (pa_cons pe_int (pa_cons (pe_un un_neg pe_int) (pa_cons (pe_op op_sub (pe_op op_pow pe_int pe_int) pe_int) (pa_cons pe_str (pa_cons pe_str (pa_cons pe_str (pa_cons pe_str (pa_cons (pe_tup pa_nil) (pa_cons (pe_lst pa_nil) (pa_cons (pe_tup (pa_cons pe_str pa_nil)) (pa_cons (pe_lst (pa_cons pe_str pa_nil)) (pa_cons pe_str (pa_cons pe_str pa_nil)))))))))))))))))))
    (pss_cons (ps_if (PW.pt (pw_or (pt_cmpR op_eq (pv 1) pe_int (nomark _)) (pw_or1 (pt_cmpR op_gt (pe_call (ok__law_draw Z) hr1 (by rfl) Z.D__law_draw.m Z.D__law_draw.F.kp Z.D__law_draw.b .nil pass0 (pa_cons (pv 0) (pa_cons pe_int pa_nil))) pe_int (nomark _))))) (pss_one (ps_ret (pe_ix (ixL (K := K)) (pv 2) (pe_call (ok__law_draw Z) hr1 (by rfl) Z.D__law_draw.m Z.D__law_draw.F.kp Z.D__law_draw.b .nil pass0 (pa_cons (pv 0) (pa_cons pe_int pa_nil))) (fun _ _ => rfl)))) pss_nil)
    (pss_cons (ps_setLc (i := 3) (own := [("_law_k", 4)]) (g := gName 4) (tt := tYes) rfl sc__law_thing.nd rfl rfl (sw_true rfl rfl rfl (by decide +kernel)) (pi_range1 (by rfl) Z.T.range (pa_cons (pe_call (ok__law_draw Z) hr1 (by rfl) Z.D__law_draw.m Z.D__law_draw.F.kp Z.D__law_draw.b .nil pass0 (pa_cons (pv 0) (pa_cons pe_int pa_nil))) pa_nil)) (blkOk_by (own := [("_law_k", 4)]) (N := ["_law_stream", "_law_deep", "_law_some", "_law_parts", "_law_k"]) (sc := defScope s__law_thing) (by decide +kernel)) (fun _ _ _ _ _ => (pg_name (i := 4) sc__law_thing.nd rfl (.inl rfl))) (fun _ _ _ _ _ => pts_nil) (fun _ _ _ _ _ => (pe_call ih hrk (by rfl) Z.D__law_thing.m Z.D__law_thing.F.kp Z.D__law_thing.b .nil pass0 (pa_cons (pv 0) (pa_cons (pe_op op_sub (pv 1) pe_int) pa_nil)))))
    (pss_one (ps_ret (pe_ix (ixL (K := K)) (pe_lst (pa_cons (pv 3) (pa_cons (pe_callTy (tupK (K := K)) (by rfl) Z.T.tuple (by decide +kernel) (pa_cons (pv 3) pa_nil)) pa_nil))) (pe_call (ok__law_draw Z) hr1 (by rfl) Z.D__law_draw.m Z.D__law_draw.F.kp Z.D__law_draw.b .nil pass0 (pa_cons (pv 0) (pa_cons pe_int pa_nil))) (fun _ _ => rfl))))))), ?_⟩
  have c30 : CPow 10 30 := ⟨by decide, by decide, by decide⟩
  refine ⟨_, rfl, _, _, rfl, rfl, c30, _, _, rfl, rfl, (by decide), fun p1 n1 => ⟨(by decide), fun p2 n2 => ⟨(by decide), fun p3 n3 => ⟨(by decide), fun p4 n4 => ⟨(by show 17 ≤ sizeLine; decide), fun p5 n5 => ?_⟩⟩⟩⟩⟩
  have q1 := same_new n1 (.tup [])
  have a1 : (upd H p1 (.tup [])) p1 = some (.tup []) := upd_same
  generalize (upd H p1 (.tup [])) = H1 at n2 n3 n4 n5 q1 a1 ⊢
  have q2 := same_new n2 (.lst [])
  have a2 : (upd H1 p2 (.lst [])) p2 = some (.lst []) := upd_same
  generalize (upd H1 p2 (.lst [])) = H2 at n3 n4 n5 q2 a2 ⊢
  have q3 := same_new n3 (.tup [.str "a"])
  have a3 : (upd H2 p3 (.tup [.str "a"])) p3 = some (.tup [.str "a"]) := upd_same
  generalize (upd H2 p3 (.tup [.str "a"])) = H3 at n4 n5 q3 a3 ⊢
  have q4 := same_new n4 (.lst [.str "a"])
  have a4 : (upd H3 p4 (.lst [.str "a"])) p4 = some (.lst [.str "a"]) := upd_same
  generalize (upd H3 p4 (.lst [.str "a"])) = H4 at n5 q4 a4 ⊢
  have s12 := q1.trans q2
  have s13 := s12.trans q3
  have s14 := s13.trans q4
  have st4 : Strm S C n H4 := st.same s14
  have dpv := some_thing (K := K) (H := newp H H4) ((newp_of n1).trans (q4 _ _ (q3 _ _ (q2 _ _ a1)))) ((newp_of (q1.free n2)).trans (q4 _ _ (q3 _ _ a2))) ((newp_of (s12.free n3)).trans (q4 _ _ a3)) ((newp_of (s13.free n4)).trans a4)
  have f4 : Fr S C H H4 := .of_same s14
  have dp5 := DpAll_mono (newp_right (H := H) (same_new n5 (.lst [V.non, V.bl true, V.bl false, V.int 0, V.int 1, V.int (-7), V.int (10 ^ 30 - 1), V.str "", V.str "link", V.str "a", V.str "on", V.ref p1, V.ref p2, V.ref p3, V.ref p4, V.str "A", V.str "b c"]))) dpv
  have e5 : (upd H4 p5 (.lst [V.non, V.bl true, V.bl false, V.int 0, V.int 1, V.int (-7), V.int (10 ^ 30 - 1), V.str "", V.str "link", V.str "a", V.str "on", V.ref p1, V.ref p2, V.ref p3, V.ref p4, V.str "A", V.str "b c"])) p5 = _ := upd_same
  have f5 : Fr S C H _ := f4.trans (Fr.lay n5 (.lst [V.non, V.bl true, V.bl false, V.int 0, V.int 1, V.int (-7), V.int (10 ^ 30 - 1), V.str "", V.str "link", V.str "a", V.str "on", V.ref p1, V.ref p2, V.ref p3, V.ref p4, V.str "A", V.str "b c"]))
  have st5 := st4.lay n5 (.lst [V.non, V.bl true, V.bl false, V.int 0, V.int 1, V.int (-7), V.int (10 ^ 30 - 1), V.str "", V.str "link", V.str "a", V.str "on", V.ref p1, V.ref p2, V.ref p3, V.ref p4, V.str "A", V.str "b c"])
  have n5S := st4.neS n5
  have n5C := st4.neC n5
  have hvs : ([V.non, V.bl true, V.bl false, V.int 0, V.int 1, V.int (-7), V.int (10 ^ 30 - 1), V.str "", V.str "link", V.str "a", V.str "on", V.ref p1, V.ref p2, V.ref p3, V.ref p4, V.str "A", V.str "b c"] : List V).length = 17 := rfl
  show gName 2 (.ref p5) _ (upd H4 p5 (.lst [V.non, V.bl true, V.bl false, V.int 0, V.int 1, V.int (-7), V.int (10 ^ 30 - 1), V.str "", V.str "link", V.str "a", V.str "on", V.ref p1, V.ref p2, V.ref p3, V.ref p4, V.str "A", V.str "b c"])) _
  generalize [V.non, V.bl true, V.bl false, V.int 0, V.int 1, V.int (-7), V.int (10 ^ 30 - 1), V.str "", V.str "link", V.str "a", V.str "on", V.ref p1, V.ref p2, V.ref p3, V.ref p4, V.str "A", V.str "b c"] = vs at dp5 e5 f5 st5 hvs ⊢
  generalize (upd H4 p5 (.lst vs)) = H5 at dp5 e5 f5 st5 ⊢
  clear dpv a1 a2 a3 a4 q1 q2 q3 q4 n1 n2 n3 n4 n5 s12 s13 s14 st4 f4
  -- an item of the list
  have item : ∀ (k : Nat) (H6 : Hp), k + 1 ≤ kT m → Strm S C (n + k) H6 → Fr S C H5 H6 →
      tOp (rIxL K) (tVar 2) (tCall spDraw [] E0 (tCons (tVar 0) (tCons (tC (V.int 17)) tNil))) [some (.ref S), some (.int (m : Int)), some (.ref p5), none, none] H6 Q := by
    intro k H6 hk s6 f6
    refine ⟨_, rfl, _, rfl, S, C, n + k, 17, rfl, s6, by omega, by decide, by decide, fun r H7 r0 r1 s7 f7 => ?_⟩
    have f57 : Fr S C H5 H7 := f6.trans f7
    obtain ⟨v, d, e1, hd, hv⟩ := DpAll_at (DpAll_mono (newp_fr st f57) dp5) r0 (by omega)
    obtain ⟨o1, o2, o3⟩ := some_nice d hd
    exact ⟨p5, vs, r, v, rfl, rfl, SqL.of (cut_keep f57 n5S n5C e5), e1, q v d H7 hv ⟨o1, by omega, by omega⟩ (s7.mono (by omega)) (f5.trans f57)⟩
  refine ⟨_, rfl, rfl, _, rfl, ite2 (fun c => ?_) (fun c => ?_)⟩
  · exact iteT (item 0 H5 (by omega) st5 (fun _ _ h => h))
  have hm : m ≠ 0 := fun z => by
    subst z
    exact c (decide_eq_true rfl)
  cases m with
  | zero => exact absurd rfl hm
  | succ m =>
  obtain rfl := hsp m rfl
  have hk5 : kT (m + 1) = 3 * kT m + 5 := rfl
  refine ⟨_, rfl, S, C, n, 3, rfl, st5, by omega, by decide, by decide, fun r H6 r0 r1 s6 f6 => ⟨_, _, rfl, rfl, _, rfl, ite2 (fun c2 => ?_) (fun c2 => ?_)⟩⟩
  · exact item 1 H6 (by omega) s6 f6
  have f6' : Fr S C H H6 := f5.trans f6
  refine ⟨_, rfl, S, C, n + 1, 4, rfl, s6, by omega, by decide, by decide, fun r H7 r0 r1 s7 f7 => ?_⟩
  have f7' : Fr S C H H7 := f6'.trans f7
  refine ⟨r, rfl, by omega, by omega, fun D nD => ?_⟩
  have hr3 : r.toNat ≤ 3 := by omega
  have hmul : r.toNat * kT m ≤ 3 * kT m := Nat.mul_le_mul_right _ hr3
  refine lc_get (K := K) (k := kT m) (R := Nice (m + 1) (bT m)) s7 nD (by omega) (fun _ => rfl) (fun i H8 q8 hi s8 k8 => ?_) fun H8 vs ds e dp hl hR s8 f8 => ?_
  · have him : i * kT m + kT m ≤ r.toNat * kT m := by
      have := Nat.mul_le_mul_right (kT m) (show i + 1 ≤ r.toNat from hi)
      rw [Nat.succ_mul] at this
      exact this
    refine ⟨_, rfl, _, rfl, _, _, rfl, rfl, S, C, _, _, rfl, ?_, s8, by omega, k8⟩
    show [V.int (((m + 1 : Nat) : Int) - 1)] = [V.int (m : Int)]
    rw [show (((m + 1 : Nat) : Int) - 1) = (m : Int) by omega]
  · have f8' : Fr S C H H8 := f7'.trans f8
    have dp8 := DpAll_mono ((newp_left Ext.upd).trans (newp_left (f7'.ext s7))) dp
    have nD0 : H D = none := f7'.ext s7 D nD
    refine ⟨_, rfl, _, rfl, D, vs, rfl, .inl ⟨SqL.of e, fun l nl => ⟨(by show 2 ≤ sizeLine; decide), fun p np => ?_⟩⟩⟩
    have w1 := same_new nl (.tup vs)
    have al : (upd H8 l (.tup vs)) l = some (.tup vs) := upd_same
    have nl0 : H l = none := f8'.ext s8 l nl
    generalize (upd H8 l (.tup vs)) = H9 at np w1 al ⊢
    have w2 := same_new np (.lst [V.ref D, V.ref l])
    have ap : (upd H9 p (.lst [V.ref D, V.ref l])) p = some (.lst [V.ref D, V.ref l]) := upd_same
    have npS := (s8.same w1).neS np
    have npC := (s8.same w1).neC np
    generalize (upd H9 p (.lst [V.ref D, V.ref l])) = H10 at w2 ap ⊢
    have s10 := (s8.same w1).same w2
    refine ⟨_, rfl, S, C, _, 2, rfl, s10, by omega, by decide, by decide, fun r2 H11 r0 r1 s11 f11 => ?_⟩
    have f11' : Fr S C H H11 := ((f8'.trans (Fr.of_same w1)).trans (Fr.of_same w2)).trans f11
    have e10 := w2 _ _ (w1 _ _ e)
    have dp11 := DpAll_mono (((newp_right (w1.trans w2)).trans (newp_fr st f11))) dp8
    have nn := nices_of hR
    rw [hl] at nn
    have hb : r.toNat * (bT m + 2) ≤ 3 * (bT m + 2) := Nat.mul_le_mul_right _ hr3
    have hB : bT (m + 1) = 3 * (bT m + 2) + 3 := rfl
    have dD : Dp K (newp H H11) (.ref D) (.list ds) := new_lst nD0 (cut_keep f11 (s7.neS nD) (s7.neC nD) e10) dp11
    have dl : Dp K (newp H H11) (.ref l) (.tuple ds) := new_tup nl0 (cut_keep f11 (s8.neS nl) (s8.neC nl) (w2 _ _ al)) dp11
    have both : DpAll K (newp H H11) [V.ref D, V.ref l] [.list ds, .tuple ds] := .cons dD (.cons dl .nil)
    obtain ⟨v, d, e1, hd, hv⟩ := DpAll_at both r0 r1
    refine ⟨p, _, r2, v, rfl, rfl, SqL.of (cut_keep f11 npS npC ap), e1, q v d H11 hv ?_ (s11.mono (by omega)) f11'⟩
    simp only [List.mem_cons, List.not_mem_nil, or_false] at hd
    rcases hd with rfl | rfl
    · exact nn.lst.mono (by omega) (by omega)
    · exact nn.tup.mono (by omega) (by omega)
theorem ok__law_thing (m : Nat) : FnOk P w K mg base CX0 (m+2) Z.f__law_thing Z.fd__law_thing ["_law_stream", "_law_deep"] (spThing K m) := by
  induction m with
  | zero => exact thing_step Z 0 0 (fun _ _ _ _ => False) ⟨fun _ _ _ _ h => h.elim, fun _ _ _ _ _ _ _ _ _ _ _ _ _ h => h.elim⟩ (Nat.zero_le _) (fun m' h => nomatch h)
  | succ m ih => exact thing_step Z (m + 1) (m + 2) _ ih (Nat.le_refl _) fun m' h => by rw [Nat.succ.inj h]

theorem thing_stepL (m kk : Nat) (spR : Sp) (ih : FnOk P w K mg base CX0 kk Z.f__law_thing Z.fd__law_thing ["_law_stream", "_law_deep"] spR) (hk : kk ≤ m + 1) (hsp : ∀ m', m = m' + 1 → spR = spThing K m') : FnOk P w K mg base CX0 (m+2) Z.f__law_thing Z.fd__law_thing ["_law_stream", "_law_deep"] (spThingL K m) := by
  refine Z.D__law_thing.F.ok sc__law_thing (fun vs H Q E h => ?_) (fun cdv A outer s H vs Q E hr h => ?_)
  · obtain ⟨S, C, n, us, rfl, rfl, _⟩ := h
    rfl
  obtain ⟨S, C, n, us, rfl, rfl, st, hn, q⟩ := h
  have hr1 : Room 1 (A.deeper (envOfC "_law_thing" (defScope s__law_thing) s.heap.objs.size Z.f__law_thing cdv)) := hr.mono (by omega)
  have hrk : Room kk (A.deeper (envOfC "_law_thing" (defScope s__law_thing) s.heap.objs.size Z.f__law_thing cdv)) := hr.mono hk
  have k3 : 3 ≤ kT m := by
    cases m with
    | zero => exact Nat.le_refl _
    | succ m => show 3 ≤ 3 * kT m + 5; omega
  have b1 : 2100 ≤ bT m := by
    clear ih hsp hk q hn k3 hr hrk
    induction m with
    | zero => exact Nat.le_refl _
    | succ m i => show 2100 ≤ 3 * (bT m + 2) + 3; omega
  refine ⟨_, (pss_cons (ps_set (i := 2) sc__law_thing.nd rfl (.inl rfl) (pe_lst (pa_cons pe_non (pa_cons pe_bl (pa_cons pe_bl (pa_cons pe_int (pa_cons pe_int (pa_cons (pe_un un_neg pe_int) (pa_cons (pe_op op_sub (pe_op op_pow pe_int pe_int) pe_int) (pa_cons pe_str (pa_cons pe_str (pa_cons pe_str (pa_cons pe_str (pa_cons (pe_tup pa_nil) (pa_cons (pe_lst pa_nil) (pa_cons (pe_tup (pa_cons pe_str pa_nil)) (pa_cons (pe_lst (pa_cons pe_str pa_nil)) (pa_cons pe_str (pa_cons pe_str pa_nil)))))))))))))))))))
    (pss_cons (ps_if (PW.pt (pw_or (pt_cmpR op_eq (pv 1) pe_int (nomark _)) (pw_or1 (pt_cmpR op_gt (pe_call (ok__law_draw Z) hr1 (by rfl) Z.D__law_draw.m Z.D__law_draw.F.kp Z.D__law_draw.b .nil pass0 (pa_cons (pv 0) (pa_cons pe_int pa_nil))) pe_int (nomark _))))) (pss_one (ps_ret (pe_ix (ixL (K := K)) (pv 2) (pe_call (ok__law_draw Z) hr1 (by rfl) Z.D__law_draw.m Z.D__law_draw.F.kp Z.D__law_draw.b .nil pass0 (pa_cons (pv 0) (pa_cons pe_int pa_nil))) (fun _ _ => rfl)))) pss_nil)
    (pss_cons (ps_setLc (i := 3) (own := [("_law_k", 4)]) (g := gName 4) (tt := tYes) rfl sc__law_thing.nd rfl rfl (sw_true rfl rfl rfl (by decide +kernel)) (pi_range1 (by rfl) Z.T.range (pa_cons (pe_call (ok__law_draw Z) hr1 (by rfl) Z.D__law_draw.m Z.D__law_draw.F.kp Z.D__law_draw.b .nil pass0 (pa_cons (pv 0) (pa_cons pe_int pa_nil))) pa_nil)) (blkOk_by (own := [("_law_k", 4)]) (N := ["_law_stream", "_law_deep", "_law_some", "_law_parts", "_law_k"]) (sc := defScope s__law_thing) (by decide +kernel)) (fun _ _ _ _ _ => (pg_name (i := 4) sc__law_thing.nd rfl (.inl rfl))) (fun _ _ _ _ _ => pts_nil) (fun _ _ _ _ _ => (pe_call ih hrk (by rfl) Z.D__law_thing.m Z.D__law_thing.F.kp Z.D__law_thing.b .nil pass0 (pa_cons (pv 0) (pa_cons (pe_op op_sub (pv 1) pe_int) pa_nil)))))
    (pss_one (ps_ret (pe_ix (ixL (K := K)) (pe_lst (pa_cons (pv 3) (pa_cons (pe_callTy (tupK (K := K)) (by rfl) Z.T.tuple (by decide +kernel) (pa_cons (pv 3) pa_nil)) pa_nil))) (pe_call (ok__law_draw Z) hr1 (by rfl) Z.D__law_draw.m Z.D__law_draw.F.kp Z.D__law_draw.b .nil pass0 (pa_cons (pv 0) (pa_cons pe_int pa_nil))) (fun _ _ => rfl))))))), ?_⟩
  have c30 : CPow 10 30 := ⟨by decide, by decide, by decide⟩
  refine ⟨_, rfl, _, _, rfl, rfl, c30, _, _, rfl, rfl, (by decide), fun p1 n1 => ⟨(by decide), fun p2 n2 => ⟨(by decide), fun p3 n3 => ⟨(by decide), fun p4 n4 => ⟨(by show 17 ≤ sizeLine; decide), fun p5 n5 => ?_⟩⟩⟩⟩⟩
  have q1 := same_new n1 (.tup [])
  have a1 : (upd H p1 (.tup [])) p1 = some (.tup []) := upd_same
  generalize (upd H p1 (.tup [])) = H1 at n2 n3 n4 n5 q1 a1 ⊢
  have q2 := same_new n2 (.lst [])
  have a2 : (upd H1 p2 (.lst [])) p2 = some (.lst []) := upd_same
  generalize (upd H1 p2 (.lst [])) = H2 at n3 n4 n5 q2 a2 ⊢
  have q3 := same_new n3 (.tup [.str "a"])
  have a3 : (upd H2 p3 (.tup [.str "a"])) p3 = some (.tup [.str "a"]) := upd_same
  generalize (upd H2 p3 (.tup [.str "a"])) = H3 at n4 n5 q3 a3 ⊢
  have q4 := same_new n4 (.lst [.str "a"])
  have a4 : (upd H3 p4 (.lst [.str "a"])) p4 = some (.lst [.str "a"]) := upd_same
  generalize (upd H3 p4 (.lst [.str "a"])) = H4 at n5 q4 a4 ⊢
  have s12 := q1.trans q2
  have s13 := s12.trans q3
  have s14 := s13.trans q4
  have st4 : Strm S C n H4 := st.same s14
  have dpv := some_thing (K := K) (H := newp H H4) ((newp_of n1).trans (q4 _ _ (q3 _ _ (q2 _ _ a1)))) ((newp_of (q1.free n2)).trans (q4 _ _ (q3 _ _ a2))) ((newp_of (s12.free n3)).trans (q4 _ _ a3)) ((newp_of (s13.free n4)).trans a4)
  have f4 : Fr S C H H4 := .of_same s14
  have liv := some_liv (H := newp H H4) (p1 := p1) (p3 := p3) ((newp_of (q1.free n2)).trans (q4 _ _ (q3 _ _ a2))) ((newp_of (s13.free n4)).trans a4)
  have liv5 := liv.mono (newp_right (H := H) (same_new n5 (.lst [V.non, V.bl true, V.bl false, V.int 0, V.int 1, V.int (-7), V.int (10 ^ 30 - 1), V.str "", V.str "link", V.str "a", V.str "on", V.ref p1, V.ref p2, V.ref p3, V.ref p4, V.str "A", V.str "b c"])))
  have dp5 := DpAll_mono (newp_right (H := H) (same_new n5 (.lst [V.non, V.bl true, V.bl false, V.int 0, V.int 1, V.int (-7), V.int (10 ^ 30 - 1), V.str "", V.str "link", V.str "a", V.str "on", V.ref p1, V.ref p2, V.ref p3, V.ref p4, V.str "A", V.str "b c"]))) dpv
  have e5 : (upd H4 p5 (.lst [V.non, V.bl true, V.bl false, V.int 0, V.int 1, V.int (-7), V.int (10 ^ 30 - 1), V.str "", V.str "link", V.str "a", V.str "on", V.ref p1, V.ref p2, V.ref p3, V.ref p4, V.str "A", V.str "b c"])) p5 = _ := upd_same
  have f5 : Fr S C H _ := f4.trans (Fr.lay n5 (.lst [V.non, V.bl true, V.bl false, V.int 0, V.int 1, V.int (-7), V.int (10 ^ 30 - 1), V.str "", V.str "link", V.str "a", V.str "on", V.ref p1, V.ref p2, V.ref p3, V.ref p4, V.str "A", V.str "b c"]))
  have st5 := st4.lay n5 (.lst [V.non, V.bl true, V.bl false, V.int 0, V.int 1, V.int (-7), V.int (10 ^ 30 - 1), V.str "", V.str "link", V.str "a", V.str "on", V.ref p1, V.ref p2, V.ref p3, V.ref p4, V.str "A", V.str "b c"])
  have n5S := st4.neS n5
  have n5C := st4.neC n5
  have hvs : ([V.non, V.bl true, V.bl false, V.int 0, V.int 1, V.int (-7), V.int (10 ^ 30 - 1), V.str "", V.str "link", V.str "a", V.str "on", V.ref p1, V.ref p2, V.ref p3, V.ref p4, V.str "A", V.str "b c"] : List V).length = 17 := rfl
  show gName 2 (.ref p5) _ (upd H4 p5 (.lst [V.non, V.bl true, V.bl false, V.int 0, V.int 1, V.int (-7), V.int (10 ^ 30 - 1), V.str "", V.str "link", V.str "a", V.str "on", V.ref p1, V.ref p2, V.ref p3, V.ref p4, V.str "A", V.str "b c"])) _
  generalize [V.non, V.bl true, V.bl false, V.int 0, V.int 1, V.int (-7), V.int (10 ^ 30 - 1), V.str "", V.str "link", V.str "a", V.str "on", V.ref p1, V.ref p2, V.ref p3, V.ref p4, V.str "A", V.str "b c"] = vs at dp5 liv5 e5 f5 st5 hvs ⊢
  generalize (upd H4 p5 (.lst vs)) = H5 at dp5 liv5 e5 f5 st5 ⊢
  clear dpv liv a1 a2 a3 a4 q1 q2 q3 q4 n1 n2 n3 n4 n5 s12 s13 s14 st4 f4
  -- an item of the list
  have item : ∀ (k : Nat) (H6 : Hp), k + 1 ≤ kT m → Strm S C (n + k) H6 → Fr S C H5 H6 →
      tOp (rIxL K) (tVar 2) (tCall spDraw [] E0 (tCons (tVar 0) (tCons (tC (V.int 17)) tNil))) [some (.ref S), some (.int (m : Int)), some (.ref p5), none, none] H6 Q := by
    intro k H6 hk s6 f6
    refine ⟨_, rfl, _, rfl, S, C, n + k, 17, rfl, s6, by omega, by decide, by decide, fun r H7 r0 r1 s7 f7 => ?_⟩
    have f57 : Fr S C H5 H7 := f6.trans f7
    obtain ⟨v, d, e1, hd, hv, lv⟩ := DpAll_atL (DpAll_mono (newp_fr st f57) dp5) (liv5.mono (newp_fr st f57)) r0 (by omega)
    obtain ⟨o1, o2, o3⟩ := some_nice d hd
    exact ⟨p5, vs, r, v, rfl, rfl, SqL.of (cut_keep f57 n5S n5C e5), e1, q v d H7 hv ⟨o1, by omega, by omega⟩ lv (s7.mono (by omega)) (f5.trans f57)⟩
  refine ⟨_, rfl, rfl, _, rfl, ite2 (fun c => ?_) (fun c => ?_)⟩
  · exact iteT (item 0 H5 (by omega) st5 (fun _ _ h => h))
  have hm : m ≠ 0 := fun z => by
    subst z
    exact c (decide_eq_true rfl)
  cases m with
  | zero => exact absurd rfl hm
  | succ m =>
  obtain rfl := hsp m rfl
  have hk5 : kT (m + 1) = 3 * kT m + 5 := rfl
  refine ⟨_, rfl, S, C, n, 3, rfl, st5, by omega, by decide, by decide, fun r H6 r0 r1 s6 f6 => ⟨_, _, rfl, rfl, _, rfl, ite2 (fun c2 => ?_) (fun c2 => ?_)⟩⟩
  · exact item 1 H6 (by omega) s6 f6
  have f6' : Fr S C H H6 := f5.trans f6
  refine ⟨_, rfl, S, C, n + 1, 4, rfl, s6, by omega, by decide, by decide, fun r H7 r0 r1 s7 f7 => ?_⟩
  have f7' : Fr S C H H7 := f6'.trans f7
  refine ⟨r, rfl, by omega, by omega, fun D nD => ?_⟩
  have hr3 : r.toNat ≤ 3 := by omega
  have hmul : r.toNat * kT m ≤ 3 * kT m := Nat.mul_le_mul_right _ hr3
  refine lc_get (K := K) (k := kT m) (R := Nice (m + 1) (bT m)) s7 nD (by omega) (fun _ => rfl) (fun i H8 q8 hi s8 k8 => ?_) fun H8 vs ds e dp hl hR s8 f8 => ?_
  · have him : i * kT m + kT m ≤ r.toNat * kT m := by
      have := Nat.mul_le_mul_right (kT m) (show i + 1 ≤ r.toNat from hi)
      rw [Nat.succ_mul] at this
      exact this
    refine ⟨_, rfl, _, rfl, _, _, rfl, rfl, S, C, _, _, rfl, ?_, s8, by omega, k8⟩
    show [V.int (((m + 1 : Nat) : Int) - 1)] = [V.int (m : Int)]
    rw [show (((m + 1 : Nat) : Int) - 1) = (m : Int) by omega]
  · have f8' : Fr S C H H8 := f7'.trans f8
    have dp8 := DpAll_mono ((newp_left Ext.upd).trans (newp_left (f7'.ext s7))) dp
    have nD0 : H D = none := f7'.ext s7 D nD
    refine ⟨_, rfl, _, rfl, D, vs, rfl, .inl ⟨SqL.of e, fun l nl => ⟨(by show 2 ≤ sizeLine; decide), fun p np => ?_⟩⟩⟩
    have w1 := same_new nl (.tup vs)
    have al : (upd H8 l (.tup vs)) l = some (.tup vs) := upd_same
    have nl0 : H l = none := f8'.ext s8 l nl
    generalize (upd H8 l (.tup vs)) = H9 at np w1 al ⊢
    have w2 := same_new np (.lst [V.ref D, V.ref l])
    have ap : (upd H9 p (.lst [V.ref D, V.ref l])) p = some (.lst [V.ref D, V.ref l]) := upd_same
    have npS := (s8.same w1).neS np
    have npC := (s8.same w1).neC np
    generalize (upd H9 p (.lst [V.ref D, V.ref l])) = H10 at w2 ap ⊢
    have s10 := (s8.same w1).same w2
    refine ⟨_, rfl, S, C, _, 2, rfl, s10, by omega, by decide, by decide, fun r2 H11 r0 r1 s11 f11 => ?_⟩
    have f11' : Fr S C H H11 := ((f8'.trans (Fr.of_same w1)).trans (Fr.of_same w2)).trans f11
    have e10 := w2 _ _ (w1 _ _ e)
    have dp11 := DpAll_mono (((newp_right (w1.trans w2)).trans (newp_fr st f11))) dp8
    have nn := nices_of hR
    rw [hl] at nn
    have hb : r.toNat * (bT m + 2) ≤ 3 * (bT m + 2) := Nat.mul_le_mul_right _ hr3
    have hB : bT (m + 1) = 3 * (bT m + 2) + 3 := rfl
    have dD : Dp K (newp H H11) (.ref D) (.list ds) := new_lst nD0 (cut_keep f11 (s7.neS nD) (s7.neC nD) e10) dp11
    have dl : Dp K (newp H H11) (.ref l) (.tuple ds) := new_tup nl0 (cut_keep f11 (s8.neS nl) (s8.neC nl) (w2 _ _ al)) dp11
    have both : DpAll K (newp H H11) [V.ref D, V.ref l] [.list ds, .tuple ds] := .cons dD (.cons dl .nil)
    have livB : LivA (newp H H11) [V.ref D, V.ref l] [.list ds, .tuple ds] := .cons (.lst ((newp_of nD0).trans (cut_keep f11 (s7.neS nD) (s7.neC nD) e10)) (DpAll_len dp8)) (.cons (.not rfl) .nil)
    obtain ⟨v, d, e1, hd, hv, lv⟩ := DpAll_atL both livB r0 r1
    refine ⟨p, _, r2, v, rfl, rfl, SqL.of (cut_keep f11 npS npC ap), e1, q v d H11 hv ?_ lv (s11.mono (by omega)) f11'⟩
    simp only [List.mem_cons, List.not_mem_nil, or_false] at hd
    rcases hd with rfl | rfl
    · exact nn.lst.mono (by omega) (by omega)
    · exact nn.tup.mono (by omega) (by omega)
theorem ok__law_thingL (m : Nat) : FnOk P w K mg base CX0 (m+3) Z.f__law_thing Z.fd__law_thing ["_law_stream", "_law_deep"] (spThingL K (m+1)) :=
  thing_stepL Z (m + 1) (m + 2) _ (ok__law_thing Z m) (Nat.le_refl _) fun m' h => by rw [Nat.succ.inj h]
theorem ok__law_thing2L : FnOk P w K mg base CX0 4 Z.f__law_thing Z.fd__law_thing ["_law_stream", "_law_deep"] (spThingL K 2) := ok__law_thingL Z 1

/-! ### _law_value, _law_near_path, _law_near_value -/
theorem ok__law_value : FnOk P w K mg base CX0 3 Z.f__law_value Z.fd__law_value ["_law_stream"] (spGet K 50 (fun us => us = []) fun d => Nice 2 3000 d ∧ valueD d = true) := by
  refine Z.D__law_value.F.ok sc__law_value (fun vs H Q E h => ?_) (fun cdv A outer s H vs Q E hr h => ?_)
  · obtain ⟨S, C, n, us, rfl, rfl, _⟩ := h
    rfl
  obtain ⟨S, C, n, us, rfl, rfl, st, hn, q⟩ := h
  have c30 : CPow 10 30 := ⟨by decide, by decide, by decide⟩
  refine ⟨_, (pss_cons (ps_set (i := 1) sc__law_value.nd rfl (.inl rfl) (pe_call (ok__law_draw Z) (hr.mono (by decide)) (by rfl) Z.D__law_draw.m Z.D__law_draw.F.kp Z.D__law_draw.b .nil pass0 (pa_cons (pv 0) (pa_cons pe_int pa_nil))))
    (pss_cons (ps_if (pt_cmpR op_lt (pv 1) pe_int (nomark _)) (pss_one (ps_ret (pe_op op_sub (pe_call (ok__law_draw Z) (hr.mono (by decide)) (by rfl) Z.D__law_draw.m Z.D__law_draw.F.kp Z.D__law_draw.b .nil pass0 (pa_cons (pv 0) (pa_cons pe_int pa_nil))) pe_int))) pss_nil)
    (pss_cons (ps_if (pt_cmpR op_eq (pv 1) pe_int (nomark _)) (pss_one (ps_ret (pe_ix (ixL (K := K)) (pe_lst (pa_cons (pe_op op_sub (pe_op op_pow pe_int pe_int) pe_int) (pa_cons (pe_op op_sub pe_int (pe_op op_pow pe_int pe_int)) (pa_cons pe_int (pa_cons pe_int pa_nil))))) (pe_call (ok__law_draw Z) (hr.mono (by decide)) (by rfl) Z.D__law_draw.m Z.D__law_draw.F.kp Z.D__law_draw.b .nil pass0 (pa_cons (pv 0) (pa_cons pe_int pa_nil))) (fun _ _ => rfl)))) pss_nil)
    (pss_one (ps_ret (pe_ix (ixL (K := K)) (pe_lst (pa_cons pe_str (pa_cons pe_str (pa_cons (pe_tup (pa_cons pe_str (pa_cons (pe_call (ok__law_path Z) (hr.mono (by decide)) (by rfl) Z.D__law_path.m Z.D__law_path.F.kp Z.D__law_path.b .nil pass0 (pa_cons (pv 0) (pa_cons pe_int pa_nil))) pa_nil))) pa_nil)))) (pe_call (ok__law_draw Z) (hr.mono (by decide)) (by rfl) Z.D__law_draw.m Z.D__law_draw.F.kp Z.D__law_draw.b .nil pass0 (pa_cons (pv 0) (pa_cons pe_int pa_nil))) (fun _ _ => rfl))))))), ?_⟩
  refine ⟨_, rfl, S, C, n, 8, rfl, st, by omega, by decide, by decide, fun r H1 r0 r1 s1 f1 => ?_⟩
  refine ⟨_, rfl, _, _, rfl, rfl, _, rfl, ite2 (fun c => ?_) (fun c => ?_)⟩
  · refine ⟨_, rfl, S, C, n + 1, 5, rfl, s1, by omega, by decide, by decide, fun r2 H2 r0 r1 s2 f2 => ?_⟩
    refine ⟨_, _, rfl, rfl, q (.int (r2 - 2)) (.int (r2 - 2)) H2 (.int _) ⟨⟨?_, Nat.zero_le _, (by show 2000 ≤ 3000; decide)⟩, rfl⟩ (s2.mono (by omega)) (f1.trans f2)⟩
    refine decide_eq_true (log2_small (Nat.lt_of_lt_of_le (show (r2 - 2).natAbs < 16 by omega) ?_))
    exact Nat.le_trans (show 16 ≤ 2 ^ 4 by decide) (Nat.pow_le_pow_right (by decide) (by decide))
  refine ⟨_, rfl, rfl, _, rfl, ite2 (fun c2 => ?_) (fun c2 => ?_)⟩
  · refine ⟨_, _, rfl, rfl, c30, _, _, rfl, rfl, _, _, rfl, rfl, c30, _, _, rfl, rfl, (by show 4 ≤ sizeLine; decide), fun p np => ⟨_, rfl, S, C, n + 1, 4, rfl, s1.lay np _, by omega, by decide, by decide, fun r2 H2 r0 r1 s2 f2 => ?_⟩⟩
    have dp : DpAll K (newp H H2) [V.int (10 ^ 30 - 1), V.int (1 - 10 ^ 30), V.int 17, V.int 1000] [.int (10 ^ 30 - 1), .int (1 - 10 ^ 30), .int 17, .int 1000] := .cons (.int _) (.cons (.int _) (.cons (.int _) (.cons (.int _) .nil)))
    obtain ⟨v, d, e1, hd, hv⟩ := DpAll_at dp r0 r1
    have ni : Nice 2 3000 d ∧ valueD d = true := by
      have all : ∀ d ∈ ([.int (10 ^ 30 - 1), .int (1 - 10 ^ 30), .int 17, .int 1000] : List PyData), Nice 2 3000 d ∧ valueD d = true := by
        intro d hd
        simp only [List.mem_cons, List.not_mem_nil, or_false] at hd
        rcases hd with rfl | rfl | rfl | rfl <;> exact ⟨⟨by decide +kernel, by decide +kernel, by decide +kernel⟩, rfl⟩
      exact all d hd
    exact ⟨p, _, r2, v, rfl, rfl, SqL.of (s1.keep np f2), e1, q v d H2 hv ni (s2.mono (by omega)) ((f1.trans (Fr.lay np _)).trans f2)⟩
  · refine ⟨_, rfl, S, C, n + 1, _, rfl, ⟨2, rfl, by decide⟩, s1, by omega, fun v d H2 hv ⟨nv, pv⟩ s2 f2 => ⟨(by show 2 ≤ sizeLine; decide), fun l nl => ⟨(by show 3 ≤ sizeLine; decide), fun p np => ?_⟩⟩⟩
    have f02 : Fr S C H H2 := f1.trans f2
    have nl0 : H l = none := f02.ext s2 l nl
    have w1 := same_new nl (.tup [V.str "link", v])
    have al : (upd H2 l (.tup [V.str "link", v])) l = _ := upd_same
    have s3 := s2.lay nl (.tup [V.str "link", v])
    generalize (upd H2 l (.tup [V.str "link", v])) = H3 at np w1 al s3 ⊢
    refine ⟨_, rfl, S, C, _, 3, rfl, s3.lay np _, by omega, by decide, by decide, fun r2 H4 r0 r1 s4 f4 => ?_⟩
    have f34 : Fr S C H3 H4 := (Fr.lay np _).trans f4
    have hv4 : Dp K (newp H H4) v d := Dp_mono ((newp_left (f1.ext s1)).trans ((newp_right w1).trans (newp_fr st f34))) hv
    have dl : Dp K (newp H H4) (.ref l) (.tuple [.str "link", d]) := new_tup nl0 (cut_keep f34 (s2.neS nl) (s2.neC nl) al) (.cons (.str _) (.cons hv4 .nil))
    have dp : DpAll K (newp H H4) [V.str "on", V.str "rank", V.ref l] [.str "on", .str "rank", .tuple [.str "link", d]] := .cons (.str _) (.cons (.str _) (.cons dl .nil))
    obtain ⟨u, e, e1, hd, hu⟩ := DpAll_at dp r0 r1
    refine ⟨p, _, r2, u, rfl, rfl, SqL.of (s3.keep np f4), e1, q u e H4 hu ?_ (s4.mono (by omega)) ((f02.trans (Fr.of_same w1)).trans f34)⟩
    simp only [List.mem_cons, List.not_mem_nil, or_false] at hd
    have lk : Nice 1 60 (.str "link") := ⟨by decide +kernel, by decide +kernel, by decide +kernel⟩
    rcases hd with rfl | rfl | rfl
    · exact ⟨⟨by decide +kernel, by decide +kernel, by decide +kernel⟩, by decide +kernel⟩
    · exact ⟨⟨by decide +kernel, by decide +kernel, by decide +kernel⟩, by decide +kernel⟩
    · have := ((Nices.one lk).append (.one nv)).tup
      refine ⟨this.mono (by omega) (by omega), ?_⟩
      show (PyData.eqv (.str (Str.ofString "link")) (.str (Str.ofString "link")) && pathD d) = true
      rw [pv, show PyData.eqv (.str (Str.ofString "link")) (.str (Str.ofString "link")) = true by decide +kernel]
      rfl

theorem ok__law_near_path : FnOk P w K mg base CX0 4 Z.f__law_near_path Z.fd__law_near_path ["_law_stream"] (spGet K 240 (fun us => us = []) (Nice 3 9100)) := by
  refine Z.D__law_near_path.F.ok sc__law_near_path (fun vs H Q E h => ?_) (fun cdv A outer s H vs Q E hr h => ?_)
  · obtain ⟨S, C, n, us, rfl, rfl, _⟩ := h
    rfl
  obtain ⟨S, C, n, us, rfl, rfl, st, hn, q⟩ := h
  refine ⟨_, (pss_cons (ps_set (i := 1) sc__law_near_path.nd rfl (.inl rfl) (pe_ix (ixL (K := K)) (pe_lst (pa_cons pe_int (pa_cons pe_int (pa_cons pe_int (pa_cons pe_int (pa_cons pe_int (pa_cons pe_int (pa_cons pe_int (pa_cons pe_int pa_nil))))))))) (pe_call (ok__law_draw Z) (hr.mono (by decide)) (by rfl) Z.D__law_draw.m Z.D__law_draw.F.kp Z.D__law_draw.b .nil pass0 (pa_cons (pv 0) (pa_cons pe_int pa_nil))) (fun _ _ => rfl)))
    (pss_cons (ps_setLc (i := 2) (own := [("_law_k", 3)]) (g := gName 3) (tt := tYes) rfl sc__law_near_path.nd rfl rfl (sw_true rfl rfl rfl (by decide +kernel)) (pi_range1 (by rfl) Z.T.range (pa_cons (pv 1) pa_nil)) (blkOk_by (own := [("_law_k", 3)]) (N := ["_law_stream", "_law_many", "_law_parts", "_law_k", "_law_odd"]) (sc := defScope s__law_near_path) (by decide +kernel)) (fun _ _ _ _ _ => (pg_name (i := 3) sc__law_near_path.nd rfl (.inl rfl))) (fun _ _ _ _ _ => pts_nil) (fun _ _ _ _ _ => (pe_call (ok__law_letters Z) (hr.mono (by decide)) (by rfl) Z.D__law_letters.m Z.D__law_letters.F.kp Z.D__law_letters.b .nil pass0 (pa_cons (pv 0) (pa_cons (pe_op op_add pe_int (pe_call (ok__law_draw Z) (hr.mono (by decide)) (by rfl) Z.D__law_draw.m Z.D__law_draw.F.kp Z.D__law_draw.b .nil pass0 (pa_cons (pv 0) (pa_cons pe_int pa_nil)))) pa_nil)))))
    (C8.pss_cut (ps_if (pt_cmpR op_eq (pe_call (ok__law_draw Z) (hr.mono (by decide)) (by rfl) Z.D__law_draw.m Z.D__law_draw.F.kp Z.D__law_draw.b .nil pass0 (pa_cons (pv 0) (pa_cons pe_int pa_nil))) pe_int (nomark _)) (pss_cons (ps_set (i := 4) sc__law_near_path.nd rfl (.inl rfl) (pe_ix (ixL (K := K)) (pe_lst (pa_cons (pe_call (ok__law_near_name Z) (hr.mono (by decide)) (by rfl) Z.D__law_near_name.m Z.D__law_near_name.F.kp Z.D__law_near_name.b .nil pass0 (pa_cons (pv 0) pa_nil)) (pa_cons (pe_call (ok__law_thing Z 1) (hr.mono (by decide)) (by rfl) Z.D__law_thing.m Z.D__law_thing.F.kp Z.D__law_thing.b .nil pass0 (pa_cons (pv 0) (pa_cons pe_int pa_nil))) pa_nil))) (pe_call (ok__law_draw Z) (hr.mono (by decide)) (by rfl) Z.D__law_draw.m Z.D__law_draw.F.kp Z.D__law_draw.b .nil pass0 (pa_cons (pv 0) (pa_cons pe_int pa_nil))) (fun _ _ => rfl)))
    (pss_one (ps_expr (pe_bm PySem.F.plainAttrs_list PySem.F.slot_list_insert PySem.F.type_list_insert mt_insert (pv 2) (pa_cons (pe_call (ok__law_draw Z) (hr.mono (by decide)) (by rfl) Z.D__law_draw.m Z.D__law_draw.F.kp Z.D__law_draw.b .nil pass0 (pa_cons (pv 0) (pa_cons (pe_op op_add (pe_callB (lenK (K := K)) (by rfl) Z.T.len (by decide +kernel) (pa_cons (pv 2) pa_nil)) pe_int) pa_nil))) (pa_cons (pv 4) pa_nil)))))) pss_nil)
    (pss_one (ps_ret (pe_ifExp (pt_cmpR op_eq (pe_call (ok__law_draw Z) (hr.mono (by decide)) (by rfl) Z.D__law_draw.m Z.D__law_draw.F.kp Z.D__law_draw.b .nil pass0 (pa_cons (pv 0) (pa_cons pe_int pa_nil))) pe_int (nomark _)) (pv 2) (pe_callTy (tupK (K := K)) (by rfl) Z.T.tuple (by decide +kernel) (pa_cons (pv 2) pa_nil)))))))), ?_⟩
  refine ⟨(by show 8 ≤ sizeLine; decide), fun p np => ⟨_, rfl, S, C, n, 8, rfl, st.lay np _, by omega, by decide, by decide, fun r H1 r0 r1 s1 f1 => ?_⟩⟩
  obtain ⟨v, e1, e2⟩ := at_int (vs := [V.int 0, V.int 1, V.int 2, V.int 3, V.int 7, V.int 8, V.int 9, V.int 20]) r0 r1
  refine ⟨p, _, r, v, rfl, rfl, SqL.of (st.keep np f1), e1, ?_⟩
  have hv : ∃ m : Nat, v = .int (m : Int) ∧ m ≤ 20 := by
    have := List.mem_of_getElem? e2
    simp only [List.mem_cons, List.not_mem_nil, or_false] at this
    rcases this with rfl | rfl | rfl | rfl | rfl | rfl | rfl | rfl
    · exact ⟨0, rfl, by decide⟩
    · exact ⟨1, rfl, by decide⟩
    · exact ⟨2, rfl, by decide⟩
    · exact ⟨3, rfl, by decide⟩
    · exact ⟨7, rfl, by decide⟩
    · exact ⟨8, rfl, by decide⟩
    · exact ⟨9, rfl, by decide⟩
    · exact ⟨20, rfl, by decide⟩
  obtain ⟨m, rfl, hm⟩ := hv
  have f1' : Fr S C H H1 := (Fr.lay np _).trans f1
  clear f1 e1 e2
  refine ⟨_, rfl, (m : Int), rfl, by omega, by omega, fun D nD => ?_⟩
  refine lc_get (K := K) (k := 9) (R := Nice 0 82) s1 nD (by omega) (fun _ => rfl) (fun i H8 q8 hi s8 k8 => ?_) fun H2 vs ds e dp hl hR s2 f2 => ?_
  · have hi' : i < m := hi
    refine ⟨_, rfl, _, rfl, S, C, _, 8, rfl, s8, by omega, by decide, by decide, fun r3 H9 r0 r1 s9 f9 => ?_⟩
    refine ⟨_, _, rfl, rfl, S, C, _, (1 + r3).toNat, ?_, by omega, s9, by omega, fun x H10 hx az s10 f10 => ?_⟩
    · show [V.ref S, V.int (1 + r3)] = [V.ref S, V.int (((1 + r3).toNat : Nat) : Int)]
      rw [show (((1 + r3).toNat : Nat) : Int) = 1 + r3 by omega]
    · exact k8 (.str x) (.str x) H10 (.str x) (.str az.ok (by omega)) (s10.mono (by omega)) (f9.trans f10)
  have hl' : ds.length = m := hl
  have hmn : (m : Int).toNat = m := rfl
  have f2' : Fr S C H H2 := f1'.trans f2
  have nD0 : H D = none := f1'.ext s1 D nD
  have sB := s1.lay nD (.lst [])
  have tr : (upd H1 D (.lst [])) D ≠ none := by rw [upd_same]; exact Option.some_ne_none _
  have xB : Ext (upd H1 D (.lst [])) H2 := ext_laid s2 f2 e
  have xH : Ext H (upd H1 D (.lst [])) := (f1'.ext s1).trans Ext.upd
  generalize (upd H1 D (.lst [])) = B at dp sB tr xB xH
  have dp2 := dp
  have n2 : Nices 2 (20 * 84) ds := (nices_of hR).mono (by decide) (by
    have := Nat.mul_le_mul_right 84 (show ds.length ≤ 20 by omega)
    exact this)
  have neS := s1.neS nD
  have neC := s1.neC nD
  have s2' : Strm S C (n + 181) H2 := s2.mono (by omega)
  clear dp s2 hR
  -- what the rest asks
  refine ⟨fun σ H' => (∃ o, σ = [some (.ref S), some (.int (m : Int)), some (.ref D), none, o]) ∧ ∃ (vs : List V) (ds : List PyData), H' D = some (.lst vs) ∧ DpAll K (newp B H') vs ds ∧ Nices 2 9000 ds ∧ Strm S C (n + 238) H' ∧ Fr S C H H', ?_, ?_⟩
  · refine ⟨_, rfl, S, C, _, 3, rfl, s2', by omega, by decide, by decide, fun r3 H3 r0 r1 s3 f3 => ⟨rfl, _, rfl, ite2 (fun c => ?_) (fun c => ?_)⟩⟩
    · have f3' : Fr S C H H3 := f2'.trans f3
      have e3 : H3 D = some (.lst vs) := cut_keep f3 neS neC e
      have dp3 := DpAll_mono (newp_fr sB f3) dp2
      have xB3 : Ext B H3 := xB.trans (Fr.ext s3 f3)
      refine ⟨_, rfl, S, C, _, [], rfl, rfl, s3, by omega, fun v1 d1 H4 hv1 ⟨x, hx, hx2, ox⟩ s4 f4 => ?_⟩
      have ni1 : Nice 2 6309 d1 := by
        rw [hx]
        exact .str ox (by omega)
      refine ⟨_, rfl, S, C, _, _, rfl, rfl, s4, (by show n + 181 + 1 + 30 + 14 ≤ _; omega), fun v2 d2 H5 hv2 ni2 s5 f5 => ⟨(by show 2 ≤ sizeLine; decide), fun p2 np2 => ?_⟩⟩
      have s5' : Strm S C (n + 226) H5 := s5.mono (by show n + 181 + 1 + 30 + 14 ≤ _; omega)
      have f45 := f4.trans f5
      refine ⟨_, rfl, S, C, _, 2, rfl, s5'.lay np2 _, by omega, by decide, by decide, fun r4 H6 r0 r1 s6 f6 => ?_⟩
      have f56 : Fr S C H5 H6 := (Fr.lay np2 _).trans f6
      have f36 : Fr S C H3 H6 := f45.trans f56
      have h1 : Dp K (newp B H6) v1 d1 := Dp_mono ((newp_left xB3).trans (newp_fr sB (f5.trans f56))) hv1
      have h2 : Dp K (newp B H6) v2 d2 := Dp_mono ((newp_left (xB3.trans (Fr.ext s4 f4))).trans (newp_fr sB f56)) hv2
      have both : DpAll K (newp B H6) [v1, v2] [d1, d2] := .cons h1 (.cons h2 .nil)
      obtain ⟨u, eo, e1, hd, hu⟩ := DpAll_at both r0 r1
      have nu : Nice 2 6309 eo := by
        simp only [List.mem_cons, List.not_mem_nil, or_false] at hd
        rcases hd with rfl | rfl
        · exact ni1
        · exact ni2
      refine ⟨p2, _, r4, u, rfl, rfl, SqL.of (s5'.keep np2 f6), e1, ?_⟩
      have e6 : H6 D = some (.lst vs) := cut_keep f36 neS neC e3
      have hvl := DpAll_len dp3
      refine ⟨_, rfl, .inl ⟨rfl, _, SqL.of e6⟩, _, rfl, _, rfl, D, vs, rfl, .inl (SqL.of e6), _, _, rfl, rfl, S, C, _, (vs.length : Int) + 1, rfl, s6, by omega, by omega, by omega, fun r7 H7 r0 r1 s7 f7 => ?_⟩
      have e7 : H7 D = some (.lst vs) := cut_keep f7 neS neC e6
      have dp7 := DpAll_mono (newp_fr sB (f36.trans f7)) dp3
      have hu7 := Dp_mono (newp_fr sB f7) hu
      refine ⟨_, rfl, D, vs, r7, u, rfl, rfl, e7, ?_, r0, by omega, ?_⟩
      · exact Nat.lt_of_le_of_lt (show vs.length ≤ 20 by omega) (by decide)
      · refine ⟨⟨_, rfl⟩, _, ds.take r7.toNat ++ [eo] ++ ds.drop r7.toNat, upd_same, ?_, (n2.insert nu _).mono (by decide) (by decide), (s7.upd neS neC _).mono (by omega), Fr.upd (f3'.trans (f36.trans f7)) nD0⟩
        exact DpAll_mono (newp_upd tr) (DpAll_append (DpAll_snoc (DpAll_take _ dp7) hu7) (DpAll_drop _ dp7))
    · exact ⟨⟨_, rfl⟩, vs, ds, cut_keep f3 neS neC e, DpAll_mono (newp_fr sB f3) dp2, n2.mono (by decide) (by decide), s3.mono (by omega), f2'.trans f3⟩
  · rintro σ H3 ⟨⟨o, rfl⟩, vs, ds, e3, dp3, n3, s3, f3⟩
    refine ⟨_, rfl, S, C, _, 6, rfl, s3, by omega, by decide, by decide, fun r4 H4 r0 r1 s4 f4 => ⟨rfl, _, rfl, ite2 (fun c => ?_) (fun c => ?_)⟩⟩
    · exact ⟨_, rfl, q _ _ _ (new_lst nD0 (cut_keep f4 neS neC e3) (DpAll_mono ((newp_fr sB f4).trans (newp_left xH)) dp3)) (n3.lst.mono (by decide) (by decide)) (s4.mono (by omega)) (f3.trans f4)⟩
    · have e4 : H4 D = some (.lst vs) := cut_keep f4 neS neC e3
      refine ⟨_, rfl, D, vs, rfl, .inl ⟨SqL.of e4, fun l nl => ?_⟩⟩
      have nl0 : H l = none := Fr.ext s4 (f3.trans f4) l nl
      exact q _ _ _ (new_tup nl0 upd_same (DpAll_mono (((newp_fr sB f4).trans (newp_right (same_new nl _))).trans (newp_left xH)) dp3)) (n3.tup.mono (by decide) (by decide)) ((s4.lay nl _).mono (by omega)) ((f3.trans f4).trans (Fr.lay nl _))

theorem ok__law_near_value : FnOk P w K mg base CX0 5 Z.f__law_near_value Z.fd__law_near_value ["_law_stream"] (spGet K 260 (fun us => us = []) (Nice 4 40000)) := by
  refine Z.D__law_near_value.F.ok sc__law_near_value (fun vs H Q E h => ?_) (fun cdv A outer s H vs Q E hr h => ?_)
  · obtain ⟨S, C, n, us, rfl, rfl, _⟩ := h
    rfl
  obtain ⟨S, C, n, us, rfl, rfl, st, hn, q⟩ := h
  have c30 : CPow 10 30 := ⟨by decide, by decide, by decide⟩
  refine ⟨_, (pss_cons (ps_set (i := 1) sc__law_near_value.nd rfl (.inl rfl) (pe_call (ok__law_draw Z) (hr.mono (by decide)) (by rfl) Z.D__law_draw.m Z.D__law_draw.F.kp Z.D__law_draw.b .nil pass0 (pa_cons (pv 0) (pa_cons pe_int pa_nil))))
    (pss_cons (ps_if (pt_cmpR op_eq (pv 1) pe_int (nomark _)) (pss_one (ps_ret (pe_call (ok__law_value Z) (hr.mono (by decide)) (by rfl) Z.D__law_value.m Z.D__law_value.F.kp Z.D__law_value.b .nil pass0 (pa_cons (pv 0) pa_nil)))) pss_nil)
    (pss_cons (ps_if (pt_cmpR op_eq (pv 1) pe_int (nomark _)) (pss_one (ps_ret (pe_call (ok__law_near_name Z) (hr.mono (by decide)) (by rfl) Z.D__law_near_name.m Z.D__law_near_name.F.kp Z.D__law_near_name.b .nil pass0 (pa_cons (pv 0) pa_nil)))) pss_nil)
    (pss_cons (ps_if (pt_cmpR op_eq (pv 1) pe_int (nomark _)) (pss_one (ps_ret (pe_call (ok__law_thing Z 2) (hr.mono (by decide)) (by rfl) Z.D__law_thing.m Z.D__law_thing.F.kp Z.D__law_thing.b .nil pass0 (pa_cons (pv 0) (pa_cons pe_int pa_nil))))) pss_nil)
    (pss_cons (ps_if (pt_cmpR op_eq (pv 1) pe_int (nomark _)) (pss_one (ps_ret (pe_ix (ixL (K := K)) (pe_lst (pa_cons pe_bl (pa_cons pe_bl (pa_cons (pe_op op_sub (pe_op op_pow pe_int pe_int) pe_int) (pa_cons (pe_op op_sub pe_int (pe_op op_pow pe_int pe_int)) (pa_cons pe_int (pa_cons (pe_un un_neg pe_int) pa_nil))))))) (pe_call (ok__law_draw Z) (hr.mono (by decide)) (by rfl) Z.D__law_draw.m Z.D__law_draw.F.kp Z.D__law_draw.b .nil pass0 (pa_cons (pv 0) (pa_cons pe_int pa_nil))) (fun _ _ => rfl)))) pss_nil)
    (pss_cons (ps_set (i := 2) sc__law_near_value.nd rfl (.inl rfl) (pe_lst (pa_cons pe_str (pa_cons (pe_call (ok__law_near_path Z) (hr.mono (by decide)) (by rfl) Z.D__law_near_path.m Z.D__law_near_path.F.kp Z.D__law_near_path.b .nil pass0 (pa_cons (pv 0) pa_nil)) pa_nil))))
    (C8.pss_cut (ps_if (pt_cmpR op_eq (pv 1) pe_int (nomark _)) (pss_one (ps_asg (pe_ix (ixL (K := K)) (pe_lst (pa_cons pe_str (pa_cons pe_str (pa_cons pe_str (pa_cons pe_non (pa_cons (pe_tup (pa_cons pe_str pa_nil)) (pa_cons pe_int pa_nil))))))) (pe_call (ok__law_draw Z) (hr.mono (by decide)) (by rfl) Z.D__law_draw.m Z.D__law_draw.F.kp Z.D__law_draw.b .nil pass0 (pa_cons (pv 0) (pa_cons pe_int pa_nil))) (fun _ _ => rfl)) (pg_sub (pv 2) pe_int set_list))) pss_nil)
    (C8.pss_cut (ps_if (pt_cmpR op_eq (pv 1) pe_int (nomark _)) (pss_one (ps_expr (pe_bm PySem.F.plainAttrs_list PySem.F.slot_list_append PySem.F.type_list_append mt_append (pv 2) (pa_cons (pe_ix (ixL (K := K)) (pe_lst (pa_cons pe_non (pa_cons (pe_tup pa_nil) (pa_cons pe_str pa_nil)))) (pe_call (ok__law_draw Z) (hr.mono (by decide)) (by rfl) Z.D__law_draw.m Z.D__law_draw.F.kp Z.D__law_draw.b .nil pass0 (pa_cons (pv 0) (pa_cons pe_int pa_nil))) (fun _ _ => rfl)) pa_nil)))) pss_nil)
    (C8.pss_cut (ps_if (pt_cmpR op_eq (pv 1) pe_int (nomark _)) (pss_one (ps_expr (pe_bm PySem.F.plainAttrs_list PySem.F.slot_list_pop PySem.F.type_list_pop mt_popAt (pv 2) (pa_cons (pe_call (ok__law_draw Z) (hr.mono (by decide)) (by rfl) Z.D__law_draw.m Z.D__law_draw.F.kp Z.D__law_draw.b .nil pass0 (pa_cons (pv 0) (pa_cons pe_int pa_nil))) pa_nil)))) pss_nil)
    (pss_one (ps_ret (pe_ifExp (pt_cmpR op_eq (pv 1) pe_int (nomark _)) (pv 2) (pe_callTy (tupK (K := K)) (by rfl) Z.T.tuple (by decide +kernel) (pa_cons (pv 2) pa_nil)))))))))))))), ?_⟩
  refine ⟨_, rfl, S, C, n, 10, rfl, st, by omega, by decide, by decide, fun r H1 r0 r1 s1 f1 => ?_⟩
  refine ⟨_, rfl, rfl, _, rfl, ite2 (fun c => ?_) (fun c => ?_)⟩
  · refine ⟨_, rfl, S, C, n + 1, [], rfl, rfl, s1, by omega, fun v d H2 hv nv s2 f2 => ?_⟩
    exact q v d H2 (Dp_mono (newp_left (f1.ext s1)) hv) (nv.1.mono (by decide) (by decide)) (s2.mono (by omega)) (f1.trans f2)
  clear c
  refine ⟨_, rfl, rfl, _, rfl, ite2 (fun c => ?_) (fun c => ?_)⟩
  · refine ⟨_, rfl, S, C, n + 1, [], rfl, rfl, s1, by omega, fun v d H2 hv ⟨x, hx, hl, ox⟩ s2 f2 => ?_⟩
    exact q v d H2 (Dp_mono (newp_left (f1.ext s1)) hv) (by rw [hx]; exact .str ox (by omega)) (s2.mono (by omega)) (f1.trans f2)
  clear c
  refine ⟨_, rfl, rfl, _, rfl, ite2 (fun c => ?_) (fun c => ?_)⟩
  · refine ⟨_, rfl, S, C, n + 1, _, rfl, rfl, s1, (by show n + 1 + 47 ≤ _; omega), fun v d H2 hv nv s2 f2 => ?_⟩
    exact q v d H2 (Dp_mono (newp_left (f1.ext s1)) hv) (nv.mono (by decide) (by decide)) (s2.mono (by show n + 1 + 47 ≤ _; omega)) (f1.trans f2)
  clear c
  refine ⟨_, rfl, rfl, _, rfl, ite2 (fun c => ?_) (fun c => ?_)⟩
  · refine ⟨_, _, rfl, rfl, c30, _, _, rfl, rfl, _, _, rfl, rfl, c30, _, _, rfl, rfl, _, rfl, (by show 6 ≤ sizeLine; decide), fun p np => ⟨_, rfl, S, C, n + 1, 6, rfl, s1.lay np _, by omega, by decide, by decide, fun r2 H2 r0 r1 s2 f2 => ?_⟩⟩
    have dp : DpAll K (newp H H2) [V.bl true, V.bl false, V.int (10 ^ 30 - 1), V.int (1 - 10 ^ 30), V.int 0, V.int (-1)] [.bool true, .bool false, .int (10 ^ 30 - 1), .int (1 - 10 ^ 30), .int 0, .int (-1)] :=
      .cons (.bl _) (.cons (.bl _) (.cons (.int _) (.cons (.int _) (.cons (.int _) (.cons (.int _) .nil)))))
    obtain ⟨v, d, e1, hd, hv⟩ := DpAll_at dp r0 r1
    have all : ∀ d ∈ ([.bool true, .bool false, .int (10 ^ 30 - 1), .int (1 - 10 ^ 30), .int 0, .int (-1)] : List PyData), Nice 4 40000 d := by
      intro d hd
      simp only [List.mem_cons, List.not_mem_nil, or_false] at hd
      rcases hd with rfl | rfl | rfl | rfl | rfl | rfl <;> exact ⟨by decide +kernel, by decide +kernel, by decide +kernel⟩
    exact ⟨p, _, r2, v, rfl, rfl, SqL.of (s1.keep np f2), e1, q v d H2 hv (all d hd) (s2.mono (by omega)) ((f1.trans (Fr.lay np _)).trans f2)⟩
  clear c
  refine ⟨_, rfl, S, C, n + 1, [], rfl, rfl, s1, by omega, fun v0 d0 H2 hv0 nv0 s2 f2 => ⟨(by show 2 ≤ sizeLine; decide), fun D nD => ?_⟩⟩
  have f2' : Fr S C H H2 := f1.trans f2
  have nD0 : H D = none := f2'.ext s2 D nD
  have neS := s2.neS nD
  have neC := s2.neC nD
  obtain ⟨G, xG, trG, sG, wG, xGB⟩ := side s1 s2 f2 nD (.lst [V.str "link", v0])
  have dB : DpAll K (newp G (upd H2 D (.lst [V.str "link", v0]))) [V.str "link", v0] [.str "link", d0] := .cons (.str _) (.cons (Dp_mono wG hv0) .nil)
  have lk : Nice 1 50 (.str "link") := ⟨by decide +kernel, by decide +kernel, by decide +kernel⟩
  have nB : Nices 3 9200 [.str "link", d0] := (((Nices.one lk).mono (n' := 3) (by decide) (Nat.le_refl _)).append (.one nv0)).mono (by decide) (by decide)
  have xHG : Ext H G := (f1.ext s1).trans xG
  have sB := s2.lay nD (.lst [V.str "link", v0])
  have eB : (upd H2 D (.lst [V.str "link", v0])) D = some (.lst [V.str "link", v0]) := upd_same
  have fB : Fr S C H (upd H2 D (.lst [V.str "link", v0])) := f2'.trans (Fr.lay nD _)
  generalize (upd H2 D (.lst [V.str "link", v0])) = B at sB eB fB dB xGB ⊢
  let Md : Nat → Nat → Nat → Hp → Prop := fun m k b H' => ∃ (vs : List V) (ds : List PyData), H' D = some (.lst vs) ∧ 2 ≤ vs.length ∧ vs.length ≤ m ∧ DpAll K (newp G H') vs ds ∧ Nices 3 b ds ∧ Strm S C (n + k) H' ∧ Fr S C H H' ∧ Ext G H'
  -- if way == 4
  refine ⟨fun σ H' => σ = [some (.ref S), some (.int r), some (.ref D)] ∧ Md 2 246 12000 H', ?_, ?_⟩
  · refine ⟨_, rfl, rfl, _, rfl, ite2 (fun c => ?_) (fun c => ?_)⟩
    · refine ⟨(by show 1 ≤ sizeLine; decide), fun p1 n1 => ⟨(by show 6 ≤ sizeLine; decide), fun p2 n2 => ?_⟩⟩
      have w1 := same_new n1 (.tup [V.str "link"])
      have a1 : (upd B p1 (.tup [V.str "link"])) p1 = some (.tup [V.str "link"]) := upd_same
      have sB1 := sB.lay n1 (.tup [V.str "link"])
      have ng1 : G p1 = none := xGB p1 n1
      have n1S := sB.neS n1
      have n1C := sB.neC n1
      generalize (upd B p1 (.tup [V.str "link"])) = B1 at n2 w1 a1 sB1 ⊢
      refine ⟨_, rfl, S, C, _, 6, rfl, sB1.lay n2 _, by omega, by decide, by decide, fun r2 H3 r0 r1 s3 f3 => ?_⟩
      have f13 : Fr S C B1 H3 := (Fr.lay n2 _).trans f3
      have fB3 : Fr S C B H3 := (Fr.of_same w1).trans f13
      have dp : DpAll K (newp G H3) [V.str "Link", V.str "links", V.str "", V.non, V.ref p1, V.int 0] [.str "Link", .str "links", .str "", .none, .tuple [.str "link"], .int 0] :=
        .cons (.str _) (.cons (.str _) (.cons (.str _) (.cons .non (.cons (new_tup ng1 (cut_keep f13 n1S n1C a1) (.cons (.str _) .nil)) (.cons (.int _) .nil)))))
      obtain ⟨v, d, e1, hd, hv⟩ := DpAll_at dp r0 r1
      have all : ∀ d ∈ ([.str "Link", .str "links", .str "", .none, .tuple [.str "link"], .int 0] : List PyData), Nice 3 2000 d := by
        intro d hd
        simp only [List.mem_cons, List.not_mem_nil, or_false] at hd
        rcases hd with rfl | rfl | rfl | rfl | rfl | rfl <;> exact ⟨by decide +kernel, by decide +kernel, by decide +kernel⟩
      have e3 : H3 D = some (.lst [V.str "link", v0]) := cut_keep fB3 neS neC eB
      refine ⟨p2, _, r2, v, rfl, rfl, SqL.of (sB1.keep n2 f3), e1, _, rfl, D, _, _, 0, rfl, rfl, e3, rfl, rfl, _, [.str "link", d0].set 0 d, upd_same, (by show 2 ≤ 2; decide), (by show 2 ≤ 2; decide), ?_, (nB.set (all d hd) 0).mono (by decide) (by decide), (s3.upd neS neC _).mono (by omega), Fr.upd (fB.trans fB3) nD0, (xGB.trans (Fr.ext s3 fB3)).trans Ext.upd⟩
      exact DpAll_mono (newp_upd trG) (DpAll_set hv 0 (DpAll_mono (newp_fr sG fB3) dB))
    · exact ⟨rfl, _, _, eB, (by show 2 ≤ 2; decide), (by show 2 ≤ 2; decide), dB, nB.mono (by decide) (by decide), sB.mono (by omega), fB, xGB⟩
  rintro σ B4 ⟨rfl, v4, d4, e4, l4, l4', dp4, n4, s4, f4, x4⟩
  -- if way == 5
  refine ⟨fun σ H' => σ = [some (.ref S), some (.int r), some (.ref D)] ∧ Md 3 247 13000 H', ?_, ?_⟩
  · refine ⟨_, rfl, rfl, _, rfl, ite2 (fun c => ?_) (fun c => ?_)⟩
    · refine ⟨_, rfl, .inl ⟨rfl, _, SqL.of e4⟩, (by show 0 ≤ sizeLine; decide), fun p1 n1 => ⟨(by show 3 ≤ sizeLine; decide), fun p2 n2 => ?_⟩⟩
      have w1 := same_new n1 (.tup [])
      have a1 : (upd B4 p1 (.tup [])) p1 = some (.tup []) := upd_same
      have sB1 := s4.lay n1 (.tup [])
      have ng1 : G p1 = none := x4 p1 n1
      have n1S := s4.neS n1
      have n1C := s4.neC n1
      generalize (upd B4 p1 (.tup [])) = B1 at n2 w1 a1 sB1 ⊢
      refine ⟨_, rfl, S, C, _, 3, rfl, sB1.lay n2 _, by omega, by decide, by decide, fun r2 H3 r0 r1 s3 f3 => ?_⟩
      have f13 : Fr S C B1 H3 := (Fr.lay n2 _).trans f3
      have fB3 : Fr S C B4 H3 := (Fr.of_same w1).trans f13
      have dp : DpAll K (newp G H3) [V.non, V.ref p1, V.str "a"] [.none, .tuple [], .str "a"] :=
        .cons .non (.cons (new_tup ng1 (cut_keep f13 n1S n1C a1) .nil) (.cons (.str _) .nil))
      obtain ⟨v, d, e1, hd, hv⟩ := DpAll_at dp r0 r1
      have all : ∀ d ∈ ([.none, .tuple [], .str "a"] : List PyData), Nice 3 20 d := by
        intro d hd
        simp only [List.mem_cons, List.not_mem_nil, or_false] at hd
        rcases hd with rfl | rfl | rfl <;> exact ⟨by decide +kernel, by decide +kernel, by decide +kernel⟩
      have e3 : H3 D = some (.lst v4) := cut_keep fB3 neS neC e4
      refine ⟨p2, _, r2, v, rfl, rfl, SqL.of (sB1.keep n2 f3), e1, D, _, _, rfl, rfl, e3, Nat.lt_of_le_of_lt l4' (by decide), rfl, _, d4 ++ [d], upd_same, ?_, ?_, ?_, (n4.snoc (all d hd)).mono (by decide) (by decide), (s3.upd neS neC _).mono (by omega), Fr.upd (f4.trans fB3) nD0, (x4.trans (Fr.ext s3 fB3)).trans Ext.upd⟩
      · rw [List.length_append]; omega
      · rw [List.length_append]; show v4.length + 1 ≤ 3; omega
      · exact DpAll_mono (newp_upd trG) (DpAll_snoc (DpAll_mono (newp_fr sG fB3) dp4) hv)
    · exact ⟨rfl, v4, d4, e4, l4, by omega, dp4, n4.mono (by decide) (by decide), s4.mono (by omega), f4, x4⟩
  rintro σ B5 ⟨rfl, v5, d5, e5, l5, l5', dp5, n5, s5, f5, x5⟩
  -- if way == 6
  refine ⟨fun σ H' => σ = [some (.ref S), some (.int r), some (.ref D)] ∧ ∃ (vs : List V) (ds : List PyData), H' D = some (.lst vs) ∧ DpAll K (newp G H') vs ds ∧ Nices 3 26000 ds ∧ Strm S C (n + 248) H' ∧ Fr S C H H', ?_, ?_⟩
  · refine ⟨_, rfl, rfl, _, rfl, ite2 (fun c => ?_) (fun c => ?_)⟩
    · refine ⟨_, rfl, .inl ⟨rfl, _, SqL.of e5⟩, _, rfl, S, C, _, 2, rfl, s5, by omega, by decide, by decide, fun r2 H3 r0 r1 s3 f3 => ?_⟩
      have e3 : H3 D = some (.lst v5) := cut_keep f3 neS neC e5
      have hlt : r2.toNat < v5.length := by omega
      refine ⟨D, v5, r2, r2.toNat, v5[r2.toNat], rfl, rfl, e3, by omega, by omega, seqIx r0 (by omega), List.getElem?_eq_getElem hlt, rfl, _, d5.eraseIdx r2.toNat, upd_same, ?_, (n5.erase _).mono (by decide) (by decide), (s3.upd neS neC _).mono (by omega), Fr.upd (f5.trans f3) nD0⟩
      exact DpAll_mono (newp_upd trG) (DpAll_erase _ (DpAll_mono (newp_fr sG f3) dp5))
    · exact ⟨rfl, v5, d5, e5, dp5, n5.mono (by decide) (by decide), s5.mono (by omega), f5⟩
  rintro σ B6 ⟨rfl, v6, d6, e6, dp6, n6, s6, f6⟩
  refine ⟨_, rfl, rfl, _, rfl, ite2 (fun c => ?_) (fun c => ?_)⟩
  · exact ⟨_, rfl, q _ _ _ (new_lst nD0 e6 (DpAll_mono (newp_left xHG) dp6)) (n6.lst.mono (by decide) (by decide)) (s6.mono (by omega)) f6⟩
  · refine ⟨_, rfl, D, v6, rfl, .inl ⟨SqL.of e6, fun l nl => ?_⟩⟩
    have nl0 : H l = none := f6.ext s6 l nl
    exact q _ _ _ (new_tup nl0 upd_same (DpAll_mono ((newp_right (same_new nl _)).trans (newp_left xHG)) dp6)) (n6.tup.mono (by decide) (by decide)) ((s6.lay nl _).mono (by omega)) (f6.trans (Fr.lay nl _))

/-! ### is_value -/
theorem ok_is_integer : FnOk P w K mg base CX0 1 Z.f_is_integer Z.fd_is_integer ["value"] (spTell K intD) := by
  refine Z.D_is_integer.F.ok sc_is_integer (fun vs H Q E h => ?_) (fun cdv A outer s H vs Q E hr h => ?_)
  · obtain ⟨v, d, rfl, _⟩ := h
    rfl
  obtain ⟨v, d, rfl, hd, ok, q⟩ := h
  refine ⟨_, (pss_one (ps_ret (pe_and (pe_callB (isiK (K := K)) (by rfl) Z.T.isinstance (by decide +kernel) (pa_cons (pv 0) (pa_cons (pe_bltn (v := .ty "int") (u := .type "int") (by rfl) Z.T.int (by decide +kernel) rfl) pa_nil))) (pe_one (pe_not (pe_callB (isiK (K := K)) (by rfl) Z.T.isinstance (by decide +kernel) (pa_cons (pv 0) (pa_cons (pe_bltn (v := .ty "bool") (u := .type "bool") (by rfl) Z.T.bool (by decide +kernel) rfl) pa_nil)))))))), ?_⟩
  refine ⟨_, rfl, _, _, _, _, isInt d, rfl, .ty "int", Dp_type hd, kit_int hd, _, rfl, ?_⟩
  have e : intD d = (isInt d && !isBool d) := by cases d <;> rfl
  have q' := q H (Same.refl H)
  rw [e] at q'
  refine ite2 (fun c => ?_) (fun c => ?_)
  · refine ⟨_, rfl, _, _, _, _, isBool d, rfl, .ty "bool", Dp_type hd, kit_bool hd, _, rfl, ?_⟩
    rw [c, Bool.true_and] at q'
    exact q'
  · rw [Bool.eq_false_iff.mpr c, Bool.false_and] at q'
    exact q'

theorem ok_is_link : FnOk P w K mg base CX0 3 Z.f_is_link Z.fd_is_link ["value"] (spTell K linkD) := by
  refine Z.D_is_link.F.ok sc_is_link (fun vs H Q E h => ?_) (fun cdv A outer s H vs Q E hr h => ?_)
  · obtain ⟨v, d, rfl, _⟩ := h
    rfl
  obtain ⟨v, d, rfl, hd, ok, q⟩ := h
  refine ⟨_, (pss_cons (ps_if (PW.pt (pw_or (pt_not (pt_val (pe_callB (isiK (K := K)) (by rfl) Z.T.isinstance (by decide +kernel) (pa_cons (pv 0) (pa_cons (pe_bltn (v := .ty "tuple") (u := .type "tuple") (by rfl) Z.T.tuple (by decide +kernel) rfl) pa_nil))))) (pw_or1 (pt_cmpR op_ne (pe_callB (lenK (K := K)) (by rfl) Z.T.len (by decide +kernel) (pa_cons (pv 0) pa_nil)) pe_int (nomark _))))) (pss_one (ps_ret pe_bl)) pss_nil)
    (pss_one (ps_ret (pe_and (pe_cmpR (eqDK (K := K) hr.units) (pe_ix (ixT (K := K)) (pv 0) pe_int (fun _ _ => rfl)) pe_str (nomark _)) (pe_one (pe_call (ok_is_path Z) (hr.mono (by decide)) (by rfl) Z.D_is_path.m Z.D_is_path.F.kp Z.D_is_path.b .nil pass0 (pa_cons (pe_ix (ixT (K := K)) (pv 0) pe_int (fun _ _ => rfl)) pa_nil))))))), ?_⟩
  refine ⟨_, rfl, _, _, _, _, isTup d, rfl, .ty "tuple", Dp_type hd, kit_tup hd, _, rfl, ?_⟩
  cases d with
  | tuple ds =>
    cases hd with
    | @tup a xs _ hs ha =>
      have hl := DpAll_len ha
      refine iteF ?_
      refine ⟨_, rfl, a, xs, rfl, .inr hs, rfl, _, rfl, ite2 (fun c => ?_) (fun c => ?_)⟩
      · have q' := q H (Same.refl H)
        rw [linkD_not (by rw [← hl]; exact ne_two c)] at q'
        exact q'
      obtain ⟨x, y, d0, d1, rfl, rfl, h0, h1⟩ := two_of ha (is_two c)
      have ok0 := ok.item (List.mem_cons_self (a := d0) (l := [d1]))
      have ok1 := ok.item (List.mem_cons_of_mem d0 (List.mem_cons_self (a := d1) (l := [])))
      have q2 : ∀ H', Same H H' → Q (.bl (PyData.eqv d0 (.str (Str.ofString "link")) && pathD d1)) H' := q
      refine ⟨_, rfl, a, _, 0, x, rfl, rfl, hs, rfl, d0, _, h0, .str _, ok0.shaped, link_shaped, _, rfl, ite2 (fun c => ?_) (fun c => ?_)⟩
      · refine ⟨_, rfl, a, _, 1, y, rfl, rfl, hs, rfl, y, d1, rfl, h1, ok1, fun H' s' => ?_⟩
        have q3 := q2 H' s'
        rw [c, Bool.true_and] at q3
        exact q3
      · have q3 := q2 H (Same.refl H)
        rw [Bool.eq_false_iff.mpr c, Bool.false_and] at q3
        exact q3
  | _ => exact iteT (q H (Same.refl H))

theorem ok_is_value : FnOk P w K mg base CX0 4 Z.f_is_value Z.fd_is_value ["value"] (spTell K valueD) := by
  refine Z.D_is_value.F.ok sc_is_value (fun vs H Q E h => ?_) (fun cdv A outer s H vs Q E hr h => ?_)
  · obtain ⟨v, d, rfl, _⟩ := h
    rfl
  obtain ⟨v, d, rfl, hd, ok, q⟩ := h
  refine ⟨_, (pss_one (ps_ret (pe_or (pe_call (ok_is_integer Z) (hr.mono (by decide)) (by rfl) Z.D_is_integer.m Z.D_is_integer.F.kp Z.D_is_integer.b .nil pass0 (pa_cons (pv 0) pa_nil)) (pe_or (pe_call (ok_is_name Z) (hr.mono (by decide)) (by rfl) Z.D_is_name.m Z.D_is_name.F.kp Z.D_is_name.b .nil pass0 (pa_cons (pv 0) pa_nil)) (pe_one (pe_call (ok_is_link Z) (hr.mono (by decide)) (by rfl) Z.D_is_link.m Z.D_is_link.F.kp Z.D_is_link.b .nil pass0 (pa_cons (pv 0) pa_nil))))))), ?_⟩
  refine ⟨_, rfl, v, d, rfl, hd, ok, fun H1 s1 => ⟨_, rfl, ite2 (fun c => ?_) (fun c => ?_)⟩⟩
  · have q' := q H1 s1
    unfold valueD at q'
    rw [c, Bool.true_or] at q'
    exact q'
  refine ⟨_, rfl, v, d, rfl, Dp_mono s1 hd, ok, fun H2 s2 => ⟨_, rfl, ite2 (fun c2 => ?_) (fun c2 => ?_)⟩⟩
  · have q' := q H2 (s1.trans s2)
    unfold valueD at q'
    rw [Bool.eq_false_iff.mpr c, c2, Bool.true_or, Bool.or_true] at q'
    exact q'
  refine ⟨_, rfl, v, d, rfl, Dp_mono (s1.trans s2) hd, ok, fun H3 s3 => ?_⟩
  have q' := q H3 ((s1.trans s2).trans s3)
  unfold valueD at q'
  rw [Bool.eq_false_iff.mpr c, Bool.eq_false_iff.mpr c2, Bool.false_or, Bool.false_or] at q'
  exact q'

/-! ### _law_is_value -/
theorem ok__law_is_value : FnG P w K mg base CX0 3 Z.f__law_is_value Z.fd__law_is_value ["_law_thing_here"] (spTell K valueD) := by
  refine Fun_okG Z.D__law_is_value.F sc__law_is_value (fun vs H Q E h => ?_) (fun cdv A outer s H vs Q E hG hr h => ?_)
  · obtain ⟨v, d, rfl, _⟩ := h
    rfl
  obtain ⟨v, d, rfl, hd, ok, q⟩ := h
  refine ⟨_, (pss_cons (ps_if (pt_val (pe_callB (isiK (K := K)) (by rfl) Z.T.isinstance (by decide +kernel) (pa_cons (pv 0) (pa_cons (pe_bltn (v := .ty "tuple") (u := .type "tuple") (by rfl) Z.T.tuple (by decide +kernel) rfl) pa_nil)))) (pss_one (ps_ret (pe_and (pe_cmpR op_eq (pe_callB (lenK (K := K)) (by rfl) Z.T.len (by decide +kernel) (pa_cons (pv 0) pa_nil)) pe_int (nomark _)) (pe_and (pe_callG (ok__law_same Z) hG (hr.mono (by decide)) (by rfl) Z.D__law_same.m Z.D__law_same.F.kp Z.D__law_same.b .nil pass0 (pa_cons (pe_ix (ixT (K := K)) (pv 0) pe_int (fun _ _ => rfl)) (pa_cons pe_str pa_nil))) (pe_one (pe_call (ok__law_is_path Z) (hr.mono (by decide)) (by rfl) Z.D__law_is_path.m Z.D__law_is_path.F.kp Z.D__law_is_path.b .nil pass0 (pa_cons (pe_ix (ixT (K := K)) (pv 0) pe_int (fun _ _ => rfl)) pa_nil))))))) pss_nil)
    (pss_one (ps_ret (pe_or (pe_call (ok__law_is_name Z) (hr.mono (by decide)) (by rfl) Z.D__law_is_name.m Z.D__law_is_name.F.kp Z.D__law_is_name.b .nil pass0 (pa_cons (pv 0) pa_nil)) (pe_one (pe_and (pe_callB (isiK (K := K)) (by rfl) Z.T.isinstance (by decide +kernel) (pa_cons (pv 0) (pa_cons (pe_bltn (v := .ty "int") (u := .type "int") (by rfl) Z.T.int (by decide +kernel) rfl) pa_nil))) (pe_one (pe_not (pe_callB (isiK (K := K)) (by rfl) Z.T.isinstance (by decide +kernel) (pa_cons (pv 0) (pa_cons (pe_bltn (v := .ty "bool") (u := .type "bool") (by rfl) Z.T.bool (by decide +kernel) rfl) pa_nil))))))))))), ?_⟩
  refine ⟨_, rfl, _, _, _, _, isTup d, rfl, .ty "tuple", Dp_type hd, kit_tup hd, _, rfl, ite2 (fun ct => ?_) (fun ct => ?_)⟩
  · cases d with
    | tuple ds =>
      cases hd with
      | @tup a xs _ hs ha =>
        have hl := DpAll_len ha
        refine ⟨_, rfl, a, xs, rfl, .inr hs, rfl, _, rfl, ite2 (fun c => ?_) (fun c => ?_)⟩
        · obtain ⟨x, y, d0, d1, rfl, rfl, h0, h1⟩ := two_of ha (is_two' c)
          have ok0 := ok.item (List.mem_cons_self (a := d0) (l := [d1]))
          have ok1 := ok.item (List.mem_cons_of_mem d0 (List.mem_cons_self (a := d1) (l := [])))
          have q2 : ∀ H', Same H H' → Q (.bl (PyData.eqv d0 (.str (Str.ofString "link")) && pathD d1)) H' := q
          refine ⟨_, rfl, a, _, 0, x, rfl, rfl, hs, rfl, x, _, d0, .str _, rfl, h0, .str _, ok0, link_ok, _, rfl, ?_⟩
          rw [shown_link ok0.fine]
          refine ite2 (fun c => ?_) (fun c => ?_)
          · refine ⟨_, rfl, a, _, 1, y, rfl, rfl, hs, rfl, y, d1, rfl, h1, ok1, fun H' s' => ?_⟩
            have q3 := q2 H' s'
            rw [c, Bool.true_and] at q3
            exact q3
          · have q3 := q2 H (Same.refl H)
            rw [Bool.eq_false_iff.mpr c, Bool.false_and] at q3
            exact q3
        · have q2 : Q (.bl (linkD (.tuple ds))) H := q H (Same.refl H)
          rw [linkD_not (by rw [← hl]; exact ne_two' c)] at q2
          exact q2
    | _ => cases ct
  · have e : valueD d = (nameD d || intD d) := by
      cases d <;> first | rfl | exact absurd rfl ct | simp [valueD, intD, linkD, nameD]
    refine ⟨_, rfl, v, d, rfl, hd, ok, fun H1 s1 => ⟨_, rfl, ite2 (fun c => ?_) (fun c => ?_)⟩⟩
    · have q' := q H1 s1
      rw [e, c, Bool.true_or] at q'
      exact q'
    have hd1 := Dp_mono s1 hd
    have q' := q H1 s1
    rw [e, Bool.eq_false_iff.mpr c, Bool.false_or, show intD d = (isInt d && !isBool d) by cases d <;> rfl] at q'
    refine ⟨_, rfl, _, _, _, _, isInt d, rfl, .ty "int", Dp_type hd1, kit_int hd1, _, rfl, ite2 (fun c => ?_) (fun c => ?_)⟩
    · refine ⟨_, rfl, _, _, _, _, isBool d, rfl, .ty "bool", Dp_type hd1, kit_bool hd1, _, rfl, ?_⟩
      rw [c, Bool.true_and] at q'
      exact q'
    · rw [Bool.eq_false_iff.mpr c, Bool.false_and] at q'
      exact q'

/-! ### is_pair, ascends, names_of, are_named -/
theorem ok_is_pair : FnOk P w K mg base CX0 1 Z.f_is_pair Z.fd_is_pair ["value"] (spTell K pairD) := by
  refine Z.D_is_pair.F.ok sc_is_pair (fun vs H Q E h => ?_) (fun cdv A outer s H vs Q E hr h => ?_)
  · obtain ⟨v, d, rfl, _⟩ := h
    rfl
  obtain ⟨v, d, rfl, hd, ok, q⟩ := h
  refine ⟨_, (pss_one (ps_ret (pe_and (pe_callB (isiK (K := K)) (by rfl) Z.T.isinstance (by decide +kernel) (pa_cons (pv 0) (pa_cons (pe_bltn (v := .ty "tuple") (u := .type "tuple") (by rfl) Z.T.tuple (by decide +kernel) rfl) pa_nil))) (pe_one (pe_cmpR op_eq (pe_callB (lenK (K := K)) (by rfl) Z.T.len (by decide +kernel) (pa_cons (pv 0) pa_nil)) pe_int (nomark _)))))), ?_⟩
  refine ⟨_, rfl, _, _, _, _, isTup d, rfl, .ty "tuple", Dp_type hd, kit_tup hd, _, rfl, ite2 (fun ct => ?_) (fun ct => ?_)⟩
  · cases d with
    | tuple ds =>
      cases hd with
      | @tup a xs _ hs ha =>
        have hl := DpAll_len ha
        have q1 := q H (Same.refl H)
        refine ⟨_, rfl, a, xs, rfl, .inr hs, rfl, ?_⟩
        have e : decide (V.int (xs.length : Int) = V.int 2) = pairD (.tuple ds) := by
          by_cases h2 : xs.length = 2
          · obtain ⟨x, y, d0, d1, rfl, rfl, _, _⟩ := two_of ha h2
            exact decide_eq_true rfl
          · rw [not_pair (by rw [← hl]; exact h2)]
            exact Bool.eq_false_iff.mpr fun c => h2 (is_two' c)
        rw [← e] at q1
        exact q1
    | _ => cases ct
  · have q1 := q H (Same.refl H)
    have e : pairD d = false := by
      cases d with
      | tuple ds => exact absurd rfl ct
      | _ => rfl
    rw [e] at q1
    exact q1
theorem ok_ascends : FnOk P w K mg base CX0 1 Z.f_ascends Z.fd_ascends ["keys"] (spAsc K) := by
  refine Z.D_ascends.F.ok sc_ascends (fun vs H Q E h => ?_) (fun cdv A outer s H vs Q E hr h => ?_)
  · obtain ⟨a, ss, rfl, _⟩ := h
    rfl
  obtain ⟨a, ss, rfl, hS, hl, q⟩ := h
  refine ⟨_, (pss_one (ps_ret (pe_callB (allK (K := K) rfl) (by rfl) Z.T.all (by decide +kernel) (pa_cons (pe_lc (own := [("one", 1), ("other", 2)]) (g := gTup K 2 (gCons (gName 1) (gCons (gName 2) gNil))) (tt := tYes) rfl sc_ascends.nd (pi_zip (by rfl) Z.T.zip (pa_cons (pv 0) (pa_cons (pe_slice sl_list (pv 0) (po_some pe_int) po_none) pa_nil))) (blkOk_by (own := [("one", 1), ("other", 2)]) (N := ["keys", "one", "other"]) (sc := defScope s_ascends) (by decide +kernel)) (fun _ _ _ _ _ => (pg_tup rfl (pgs_cons (pg_name (i := 1) sc_ascends.nd rfl (.inl rfl)) (pgs_cons (pg_name (i := 2) sc_ascends.nd rfl (.inl rfl)) pgs_nil)))) (fun _ _ _ _ _ => pts_nil) (fun _ _ _ _ _ => (pe_cmpR op_lt_str (pv 1) (pv 2) (nomark _)))) pa_nil)))), ?_⟩
  refine ⟨_, rfl, _, rfl, 1, rfl, a, _, rfl, hS, fun p np => ?_⟩
  have w1 := same_new np (.lst (cutV (ss.map V.str) (some 1) none))
  have e1 : (upd H p (.lst (cutV (ss.map V.str) (some 1) none))) p = _ := upd_same
  have hcut : cutV (ss.map V.str) (some 1) none = (ss.drop 1).map V.str := by
    rw [List.map_drop]
    exact cut_one _
  rw [hcut] at w1 e1 ⊢
  generalize (upd H p (.lst ((ss.drop 1).map V.str))) = H1 at w1 e1 ⊢
  refine ⟨a, p, _, _, rfl, w1.seq hS, SqL.of e1, fun D nD => ?_⟩
  have w2 := same_new nD (.lst [])
  have hA := w1.seq hS
  refine lc_it (walk_zip (K := K) (xs := ss.map V.str) (ys := (ss.drop 1).map V.str) (n := ss.length - 1) (by rw [List.length_map, List.length_map, List.length_drop]; omega)) (fun i H' => Same H1 H' ∧ H' D = some (.lst (((ascAt ss).take i).map V.bl))) ⟨w2, upd_same⟩ (fun i H' _ pv => ⟨pv.1.seq hA, SqL.of (pv.1 _ _ e1)⟩) ?_ ?_
  · rintro i v H3 H4 hi ⟨s3, e3⟩ ⟨T, x, y, rfl, nT, rfl, hx, hy⟩
    have h1 : i < ss.length := by omega
    have h2 : i + 1 < ss.length := by omega
    have ex : x = .str ss[i] := by
      have : (ss.map V.str)[i]? = some (V.str ss[i]) := by rw [List.getElem?_map, List.getElem?_eq_getElem h1]; rfl
      exact Option.some.inj (hx.symm.trans this)
    have ey : y = .str ss[i + 1] := by
      have : ((ss.drop 1).map V.str)[i]? = some (V.str ss[i + 1]) := by rw [List.getElem?_map, List.getElem?_drop, Nat.add_comm 1 i, List.getElem?_eq_getElem h2]; rfl
      exact Option.some.inj (hy.symm.trans this)
    subst ex ey
    have wT := same_new nT (.tup [V.str ss[i], V.str ss[i + 1]])
    have ez : (ascAt ss)[i]? = some (decide (ss[i].cps.toList < ss[i + 1].cps.toList)) := by
      have e2 : (ss.drop 1)[i]? = some ss[i + 1] := by rw [List.getElem?_drop, Nat.add_comm 1 i, List.getElem?_eq_getElem h2]
      have e3 : (ss.zip (ss.drop 1))[i]? = some (ss[i], ss[i + 1]) := List.getElem?_zip_eq_some.mpr ⟨List.getElem?_eq_getElem h1, e2⟩
      unfold ascAt
      rw [List.getElem?_map, e3]
      rfl
    refine ⟨T, _, rfl, SqT.of upd_same, rfl, _, _, rfl, _, _, rfl, rfl, rfl, ?_⟩
    unfold tYes
    refine iteT ⟨_, rfl, _, rfl, _, _, rfl, rfl, _, wT _ _ e3, ?_, ?_, ?_⟩
    · rw [List.length_map, List.length_take]
      omega
    · exact fun b o q => by
        rw [upd_ne (ne_of_none q nD)]
        exact wT _ _ (s3 b o q)
    · rw [upd_same, take_snoc ez, List.map_append]
      rfl
  · rintro H' ⟨s3, e3⟩
    refine ⟨D, _, rfl, SqL.of e3, ?_⟩
    have hlen : (ascAt ss).length = ss.length - 1 := by
      unfold ascAt
      rw [List.length_map, List.length_zip, List.length_drop]
      omega
    rw [List.take_of_length_le (by omega), asc_at]
    exact q H' (w1.trans s3)
theorem ok_names_of : FnOk P w K mg base CX0 1 Z.f_names_of Z.fd_names_of ["pairs"] (spNames K) := by
  refine Z.D_names_of.F.ok sc_names_of (fun vs H Q E h => ?_) (fun cdv A outer s H vs Q E hr h => ?_)
  · obtain ⟨v, ds, rfl, _⟩ := h
    rfl
  obtain ⟨v, ds, rfl, hd, hl, hn, q⟩ := h
  refine ⟨_, (pss_one (ps_ret (pe_lc (own := [("pair", 1)]) (g := gName 1) (tt := tYes) rfl sc_names_of.nd (pi_tup (pv 0)) (blkOk_by (own := [("pair", 1)]) (N := ["pairs", "pair"]) (sc := defScope s_names_of) (by decide +kernel)) (fun _ _ _ _ _ => (pg_name (i := 1) sc_names_of.nd rfl (.inl rfl))) (fun _ _ _ _ _ => pts_nil) (fun _ _ _ _ _ => (pe_ix (ixT (K := K)) (pv 1) pe_int (fun _ _ => rfl)))))), ?_⟩
  cases hd with
  | @tup a xs _ hs ha =>
    refine ⟨_, rfl, a, rfl, ⟨xs, hs⟩, fun D nD => lc_vals (fun e => V.str (strD (fstD e))) nD hs ha hl (fun _ => rfl) (fun v e H3 q3 he hv _ k => ?_) fun H' s' e' => ?_⟩
    · obtain ⟨x, b, rfl, _⟩ := named_is (List.all_eq_true.mp hn e he)
      cases hv with
      | @tup a2 ys _ hs2 ha2 =>
        cases ha2 with
        | cons h0 h1 =>
          cases h0
          exact ⟨_, rfl, a2, _, 0, _, rfl, rfl, hs2, atI0 _ _, k H3 (Same.refl _)⟩
    · refine q D H' s' ?_
      rw [e']
      unfold keysL
      rw [List.map_map]
      rfl
theorem ok_are_named : FnOk P w K mg base CX0 2 Z.f_are_named Z.fd_are_named ["pairs"] (spTell K namedD) := by
  refine Z.D_are_named.F.ok sc_are_named (fun vs H Q E h => ?_) (fun cdv A outer s H vs Q E hr h => ?_)
  · obtain ⟨v, d, rfl, _⟩ := h
    rfl
  obtain ⟨v, d, rfl, hd, ok, q⟩ := h
  refine ⟨_, (pss_cons (ps_if (pt_not (pt_val (pe_callB (isiK (K := K)) (by rfl) Z.T.isinstance (by decide +kernel) (pa_cons (pv 0) (pa_cons (pe_bltn (v := .ty "tuple") (u := .type "tuple") (by rfl) Z.T.tuple (by decide +kernel) rfl) pa_nil))))) (pss_one (ps_ret pe_bl)) pss_nil)
    (pss_one (ps_ret (pe_callB (allK (K := K) rfl) (by rfl) Z.T.all (by decide +kernel) (pa_cons (pe_lc (own := [("pair", 1)]) (g := gName 1) (tt := tYes) rfl sc_are_named.nd (pi_tup (pv 0)) (blkOk_by (own := [("pair", 1)]) (N := ["pairs", "pair"]) (sc := defScope s_are_named) (by decide +kernel)) (fun _ _ _ _ _ => (pg_name (i := 1) sc_are_named.nd rfl (.inl rfl))) (fun _ _ _ _ _ => pts_nil) (fun _ _ _ _ _ => (pe_and (pe_call (ok_is_pair Z) (hr.mono (by decide)) (by rfl) Z.D_is_pair.m Z.D_is_pair.F.kp Z.D_is_pair.b .nil pass0 (pa_cons (pv 1) pa_nil)) (pe_one (pe_call (ok_is_name Z) (hr.mono (by decide)) (by rfl) Z.D_is_name.m Z.D_is_name.F.kp Z.D_is_name.b .nil pass0 (pa_cons (pe_ix (ixT (K := K)) (pv 1) pe_int (fun _ _ => rfl)) pa_nil)))))) pa_nil))))), ?_⟩
  refine ⟨_, rfl, _, _, _, _, isTup d, rfl, .ty "tuple", Dp_type hd, kit_tup hd, _, rfl, ?_⟩
  cases d with
  | tuple ds =>
    cases hd with
    | @tup a xs _ hs ha =>
      refine iteF ?_
      refine ⟨_, rfl, a, rfl, ⟨xs, hs⟩, fun D nD => lc_items nmD nD hs ha ok.len (fun _ => rfl) (fun v e H3 q3 he hv _ k => ?_) fun H' s' e' => ?_⟩
      · have oke := ok.item he
        refine ⟨_, rfl, v, e, rfl, hv, oke, fun H4 s4 => ⟨_, rfl, ite2 (fun c => ?_) (fun c => ?_)⟩⟩
        · obtain ⟨x, y, rfl⟩ := pair_is c
          cases hv with
          | @tup a2 ys _ hs2 ha2 =>
            cases ha2 with
            | cons h0 h1 =>
              refine ⟨_, rfl, a2, _, 0, _, rfl, rfl, Same.seqT s4 hs2, atI0 _ _, _, x, rfl, Dp_mono s4 h0, oke.item List.mem_cons_self, fun H5 s5 => ?_⟩
              exact k H5 (s4.trans s5)
        · have k1 := k H4 s4
          unfold nmD at k1
          rw [Bool.eq_false_iff.mpr c, Bool.false_and] at k1
          exact k1
      · refine ⟨D, _, rfl, SqL.of e', ?_⟩
        have e := q H' s'
        simp only [namedD] at e
        rw [all_map]
        exact e
  | _ => exact iteT (q H (Same.refl H))

/-! ### are_rows, are_props, is_tree_within -/
def arowsD (d : PyData) : Bool := namedD d && ascD (keysL (itemsD d))
def apropsD (d : PyData) : Bool := arowsD d && (itemsD d).all fun e => valueD (sndD e)
omit Z in
theorem arows_tup {d : PyData} (h : arowsD d = true) : ∃ ds, d = .tuple ds ∧ ds.all nmD = true := by
  unfold arowsD at h
  rw [Bool.and_eq_true] at h
  obtain ⟨ds, rfl⟩ := named_tup h.1
  exact ⟨ds, rfl, h.1⟩
omit Z in
theorem tree_arr (a b c d e f : Bool) : ((a && b) && ((c && d) && (e && f))) = (((a && c) && e) && ((b && d) && f)) := by
  cases a <;> cases b <;> cases c <;> cases d <;> cases e <;> cases f <;> rfl
theorem ok_are_rows : FnOk P w K mg base CX0 3 Z.f_are_rows Z.fd_are_rows ["pairs"] (spTell K arowsD) := by
  refine Z.D_are_rows.F.ok sc_are_rows (fun vs H Q E h => ?_) (fun cdv A outer s H vs Q E hr h => ?_)
  · obtain ⟨v, d, rfl, _⟩ := h
    rfl
  obtain ⟨v, d, rfl, hd, ok, q⟩ := h
  refine ⟨_, (pss_one (ps_ret (pe_and (pe_call (ok_are_named Z) (hr.mono (by decide)) (by rfl) Z.D_are_named.m Z.D_are_named.F.kp Z.D_are_named.b .nil pass0 (pa_cons (pv 0) pa_nil)) (pe_one (pe_call (ok_ascends Z) (hr.mono (by decide)) (by rfl) Z.D_ascends.m Z.D_ascends.F.kp Z.D_ascends.b .nil pass0 (pa_cons (pe_call (ok_names_of Z) (hr.mono (by decide)) (by rfl) Z.D_names_of.m Z.D_names_of.F.kp Z.D_names_of.b .nil pass0 (pa_cons (pv 0) pa_nil)) pa_nil)))))), ?_⟩
  refine ⟨_, rfl, v, d, rfl, hd, ok, fun H1 s1 => ⟨_, rfl, ite2 (fun cc => ?_) (fun cc => ?_)⟩⟩
  · have cc' : namedD d = true := by simpa using cc
    obtain ⟨ds, rfl⟩ := named_tup cc'
    have kl : (keysL ds).length = ds.length := List.length_map _
    refine ⟨_, rfl, v, ds, rfl, Dp_mono s1 hd, ok.len, cc', fun p H2 s2 e2 => ⟨p, keysL ds, rfl, SqL.of e2, by rw [kl]; exact ok.len, fun H3 s3 => ?_⟩⟩
    have q1 := q H3 ((s1.trans s2).trans s3)
    unfold arowsD at q1
    rw [cc', Bool.true_and] at q1
    exact q1
  · have q1 := q H1 s1
    unfold arowsD at q1
    rw [show namedD d = false by simpa using cc, Bool.false_and] at q1
    exact q1
theorem ok_are_props : FnOk P w K mg base CX0 5 Z.f_are_props Z.fd_are_props ["pairs"] (spTell K apropsD) := by
  refine Z.D_are_props.F.ok sc_are_props (fun vs H Q E h => ?_) (fun cdv A outer s H vs Q E hr h => ?_)
  · obtain ⟨v, d, rfl, _⟩ := h
    rfl
  obtain ⟨v, d, rfl, hd, ok, q⟩ := h
  refine ⟨_, (pss_one (ps_ret (pe_and (pe_call (ok_are_rows Z) (hr.mono (by decide)) (by rfl) Z.D_are_rows.m Z.D_are_rows.F.kp Z.D_are_rows.b .nil pass0 (pa_cons (pv 0) pa_nil)) (pe_one (pe_callB (allK (K := K) rfl) (by rfl) Z.T.all (by decide +kernel) (pa_cons (pe_lc (own := [("pair", 1)]) (g := gName 1) (tt := tYes) rfl sc_are_props.nd (pi_tup (pv 0)) (blkOk_by (own := [("pair", 1)]) (N := ["pairs", "pair"]) (sc := defScope s_are_props) (by decide +kernel)) (fun _ _ _ _ _ => (pg_name (i := 1) sc_are_props.nd rfl (.inl rfl))) (fun _ _ _ _ _ => pts_nil) (fun _ _ _ _ _ => (pe_call (ok_is_value Z) (hr.mono (by decide)) (by rfl) Z.D_is_value.m Z.D_is_value.F.kp Z.D_is_value.b .nil pass0 (pa_cons (pe_ix (ixT (K := K)) (pv 1) pe_int (fun _ _ => rfl)) pa_nil)))) pa_nil)))))), ?_⟩
  refine ⟨_, rfl, v, d, rfl, hd, ok, fun H1 s1 => ⟨_, rfl, ite2 (fun cc => ?_) (fun cc => ?_)⟩⟩
  · have cc' : arowsD d = true := by simpa using cc
    obtain ⟨ds, rfl, np'⟩ := arows_tup cc'
    have lenp := ok.len
    cases Dp_mono s1 hd with
    | @tup a2 ys _ hs2 ha2 =>
    refine ⟨_, rfl, a2, rfl, ⟨ys, hs2⟩, fun D nD => lc_items (fun e => valueD (sndD e)) nD hs2 ha2 lenp (fun _ => rfl) (fun v e H8 q8 he hv _ k => ?_) fun H8 s8 e8 => ?_⟩
    · obtain ⟨x, b, rfl, _⟩ := named_is (List.all_eq_true.mp np' e he)
      have okb := (ok.item he).item (List.mem_cons_of_mem (PyData.str x) (List.mem_cons_self (a := b) (l := [])))
      cases hv with
      | @tup a4 us _ hs4 ha4 =>
      cases ha4 with
      | cons u0 u1 =>
      cases u1 with
      | cons u1 u2 =>
      cases u2
      exact ⟨_, rfl, a4, _, 1, _, rfl, rfl, hs4, rfl, _, b, rfl, u1, okb, k⟩
    refine ⟨D, _, rfl, SqL.of e8, ?_⟩
    rw [all_map]
    have q1 := q H8 (s1.trans s8)
    unfold apropsD at q1
    rw [cc', Bool.true_and] at q1
    exact q1
  · have q1 := q H1 s1
    unfold apropsD at q1
    rw [show arowsD d = false by simpa using cc, Bool.false_and] at q1
    exact q1
theorem tree_step (n kk : Nat) (spR : Sp) (ih : FnOk P w K mg base CX0 kk Z.f_is_tree_within Z.fd_is_tree_within ["value", "levels"] spR) (hk : kk ≤ n + 5) (hsp : ∀ n', n = n' + 1 → spR = spTree K n') : FnOk P w K mg base CX0 (n+6) Z.f_is_tree_within Z.fd_is_tree_within ["value", "levels"] (spTree K n) := by
  refine Z.D_is_tree_within.F.ok sc_is_tree_within (fun vs H Q E h => ?_) (fun cdv A outer s H vs Q E hr h => ?_)
  · obtain ⟨v, d, rfl, _⟩ := h
    rfl
  obtain ⟨v, d, rfl, hd, ok, q⟩ := h
  have hr1 : Room 1 (A.deeper (envOfC "is_tree_within" (defScope s_is_tree_within) s.heap.objs.size Z.f_is_tree_within cdv)) := hr.mono (by omega)
  have hr3 : Room 3 (A.deeper (envOfC "is_tree_within" (defScope s_is_tree_within) s.heap.objs.size Z.f_is_tree_within cdv)) := hr.mono (by omega)
  have hr5 : Room 5 (A.deeper (envOfC "is_tree_within" (defScope s_is_tree_within) s.heap.objs.size Z.f_is_tree_within cdv)) := hr.mono (by omega)
  have hrk : Room kk (A.deeper (envOfC "is_tree_within" (defScope s_is_tree_within) s.heap.objs.size Z.f_is_tree_within cdv)) := hr.mono hk
  refine ⟨_, (pss_cons (ps_if (PW.pt (pw_or (pt_cmpR op_lt (pv 1) pe_int (nomark _)) (pw_or1 (pt_not (pt_val (pe_call (ok_is_pair Z) hr1 (by rfl) Z.D_is_pair.m Z.D_is_pair.F.kp Z.D_is_pair.b .nil pass0 (pa_cons (pv 0) pa_nil))))))) (pss_one (ps_ret pe_bl)) pss_nil)
    (pss_cons (ps_asg (pv 0) (pg_tup rfl (pgs_cons (pg_name (i := 2) sc_is_tree_within.nd rfl (.inl rfl)) (pgs_cons (pg_name (i := 3) sc_is_tree_within.nd rfl (.inl rfl)) pgs_nil))))
    (pss_cons (ps_if (PW.pt (pw_or (pt_not (pt_val (pe_call (ok_are_props Z) hr5 (by rfl) Z.D_are_props.m Z.D_are_props.F.kp Z.D_are_props.b .nil pass0 (pa_cons (pv 2) pa_nil)))) (pw_or1 (pt_not (pt_val (pe_call (ok_are_rows Z) hr3 (by rfl) Z.D_are_rows.m Z.D_are_rows.F.kp Z.D_are_rows.b .nil pass0 (pa_cons (pv 3) pa_nil))))))) (pss_one (ps_ret pe_bl)) pss_nil)
    (pss_one (ps_ret (pe_callB (allK (K := K) rfl) (by rfl) Z.T.all (by decide +kernel) (pa_cons (pe_lc (own := [("pair", 4)]) (g := gName 4) (tt := tYes) rfl sc_is_tree_within.nd (pi_tup (pv 3)) (blkOk_by (own := [("pair", 4)]) (N := ["value", "levels", "props", "children", "pair"]) (sc := defScope s_is_tree_within) (by decide +kernel)) (fun _ _ _ _ _ => (pg_name (i := 4) sc_is_tree_within.nd rfl (.inl rfl))) (fun _ _ _ _ _ => pts_nil) (fun _ _ _ _ _ => (pe_call ih hrk (by rfl) Z.D_is_tree_within.m Z.D_is_tree_within.F.kp Z.D_is_tree_within.b .nil pass0 (pa_cons (pe_ix (ixT (K := K)) (pv 4) pe_int (fun _ _ => rfl)) (pa_cons (pe_op op_sub (pv 1) pe_int) pa_nil))))) pa_nil))))))), ?_⟩
  cases n with
  | zero => exact ⟨_, rfl, _, _, rfl, rfl, _, rfl, iteT (q H (Same.refl H))⟩
  | succ n =>
  obtain rfl := hsp n rfl
  have hlev : ¬ (((n + 1 : Nat) : Int) - 1 < 0) := by omega
  refine ⟨_, rfl, _, _, rfl, rfl, _, rfl, ite2 (fun c => absurd (of_decide_eq_true c) hlev) (fun _ => ?_)⟩
  refine ⟨_, rfl, v, d, rfl, hd, ok, fun H1 s1 => ⟨_, rfl, ite2 (fun cc => ?_) (fun cc => ?_)⟩⟩
  · have q1 := q H1 s1
    rw [treeD_not (by simpa using cc)] at q1
    exact q1
  have hp : pairD d = true := by simpa using cc
  clear cc
  obtain ⟨p, c, rfl⟩ := pair_is hp
  cases hd with
  | @tup a xs _ hs ha =>
  cases ha with
  | @cons vp _ _ _ h0 h1 =>
  cases h1 with
  | @cons vc _ _ _ h1 h2 =>
  cases h2
  have okp := ok.item (List.mem_cons_self (a := p) (l := [c]))
  have okc := ok.item (List.mem_cons_of_mem p (List.mem_cons_self (a := c) (l := [])))
  have q0 : ∀ H', Same H H' → Q (.bl (apropsD p && (arowsD c && (itemsD c).all fun e => treeD n (sndD e)))) H' := fun H' s' => by
    have e : treeD (n + 1) (.tuple [p, c]) = (apropsD p && (arowsD c && (itemsD c).all fun e => treeD n (sndD e))) := tree_arr _ _ _ _ _ _
    rw [← e]
    exact q H' s'
  refine ⟨_, rfl, a, _, rfl, Same.seqT s1 hs, rfl, vp, [vc], rfl, vc, [], rfl, rfl, ?_⟩
  have g0 := Dp_mono s1 h0
  have g1 := Dp_mono s1 h1
  refine ⟨_, rfl, vp, p, rfl, g0, okp, fun H2 s2 => ⟨_, rfl, ite2 (fun c1 => ?_) (fun c1 => ?_)⟩⟩
  · have q1 := q0 H2 (s1.trans s2)
    rw [show apropsD p = false by simpa using c1, Bool.false_and] at q1
    exact q1
  have np : apropsD p = true := by simpa using c1
  refine ⟨_, rfl, vc, c, rfl, Dp_mono s2 g1, okc, fun H3 s3 => ⟨_, rfl, ite2 (fun c2 => ?_) (fun c2 => ?_)⟩⟩
  · have q1 := q0 H3 ((s1.trans s2).trans s3)
    rw [show arowsD c = false by simpa using c2, Bool.false_and, Bool.and_false] at q1
    exact q1
  have nc : arowsD c = true := by simpa using c2
  have w3 := (s1.trans s2).trans s3
  rw [np, nc, Bool.true_and, Bool.true_and] at q0
  obtain ⟨cs, rfl, nc'⟩ := arows_tup nc
  have y1 := Dp_mono (s2.trans s3) g1
  have lenc := okc.len
  have q3 : ∀ H', Same H H' → Q (.bl (cs.all fun e => treeD n (sndD e))) H' := q0
  clear g0 g1 h0 h1
  cases y1 with
  | @tup a3 zs _ hs3 ha3 =>
  -- the children
  refine ⟨_, rfl, a3, rfl, ⟨zs, hs3⟩, fun D2 nD2 => lc_items (fun e => treeD n (sndD e)) nD2 (hs3) (ha3) lenc (fun _ => rfl) (fun v e H9 q9 he hv _ k => ?_) fun H9 s9 e9 => ?_⟩
  · obtain ⟨x, b, rfl, _⟩ := named_is (List.all_eq_true.mp nc' e he)
    have okb := (okc.item he).item (List.mem_cons_of_mem (PyData.str x) (List.mem_cons_self (a := b) (l := [])))
    cases hv with
    | @tup a4 us _ hs4 ha4 =>
    cases ha4 with
    | cons u0 u1 =>
    cases u1 with
    | cons u1 u2 =>
    cases u2
    refine ⟨_, rfl, a4, _, 1, _, rfl, rfl, hs4, rfl, _, rfl, _, _, rfl, rfl, _, b, ?_, u1, okb, k⟩
    show [_, V.int (((n + 1 : Nat) : Int) - 1 - 1)] = [_, V.int ((n : Int) - 1)]
    rw [show ((n + 1 : Nat) : Int) - 1 - 1 = (n : Int) - 1 by omega]
  · refine ⟨D2, _, rfl, SqL.of e9, ?_⟩
    rw [all_map]
    exact q3 H9 ((w3).trans s9)
theorem ok_is_tree_within (n : Nat) : FnOk P w K mg base CX0 (n+6) Z.f_is_tree_within Z.fd_is_tree_within ["value", "levels"] (spTree K n) := by
  induction n with
  | zero => exact tree_step Z 0 0 (fun _ _ _ _ => False) ⟨fun _ _ _ _ h => h.elim, fun _ _ _ _ _ _ _ _ _ _ _ _ _ h => h.elim⟩ (Nat.zero_le _) (fun m' h => nomatch h)
  | succ n ih => exact tree_step Z (n + 1) (n + 6) _ ih (Nat.le_refl _) fun m' h => by rw [Nat.succ.inj h]
theorem ok_is_tree : FnOk P w K mg base CX0 16 Z.f_is_tree Z.fd_is_tree ["value"] (spTell K (treeD 9)) := by
  refine Z.D_is_tree.F.ok sc_is_tree (fun vs H Q E h => ?_) (fun cdv A outer s H vs Q E hr h => ?_)
  · obtain ⟨v, d, rfl, _⟩ := h
    rfl
  obtain ⟨v, d, rfl, hd, ok, q⟩ := h
  refine ⟨_, (pss_one (ps_ret (pe_call (ok_is_tree_within Z 9) (hr.mono (by decide)) (by rfl) Z.D_is_tree_within.m Z.D_is_tree_within.F.kp Z.D_is_tree_within.b .nil pass0 (pa_cons (pv 0) (pa_cons (pe_glob (v := .int 8) (by rfl) Z.g_LONGEST_PATH ⟨_, rfl⟩) pa_nil))))), ?_⟩
  exact ⟨_, rfl, v, d, rfl, hd, ok, q⟩

/-! ### _law_is_tree -/
theorem ltree_step (n kk : Nat) (spR : Sp) (ih : FnG P w K mg base CX0 kk Z.f__law_is_tree Z.fd__law_is_tree ["_law_thing_here", "_law_levels"] spR) (hk : kk ≤ n + 5) (hsp : ∀ n', n = n' + 1 → spR = spTree K n') : FnG P w K mg base CX0 (n+6) Z.f__law_is_tree Z.fd__law_is_tree ["_law_thing_here", "_law_levels"] (spTree K n) := by
  refine Fun_okG Z.D__law_is_tree.F sc__law_is_tree (fun vs H Q E h => ?_) (fun cdv A outer s H vs Q E hG hr h => ?_)
  · obtain ⟨v, d, rfl, _⟩ := h
    rfl
  obtain ⟨v, d, rfl, hd, ok, q⟩ := h
  have hr1 : Room 1 (A.deeper (envOfC "_law_is_tree" (defScope s__law_is_tree) s.heap.objs.size Z.f__law_is_tree cdv)) := hr.mono (by omega)
  have hr3 : Room 3 (A.deeper (envOfC "_law_is_tree" (defScope s__law_is_tree) s.heap.objs.size Z.f__law_is_tree cdv)) := hr.mono (by omega)
  have hrk : Room kk (A.deeper (envOfC "_law_is_tree" (defScope s__law_is_tree) s.heap.objs.size Z.f__law_is_tree cdv)) := hr.mono hk
  refine ⟨_, (pss_cons (ps_if (PW.pt (pw_or (pt_cmpR op_lt (pv 1) pe_int (nomark _)) (pw_or (pt_not (pt_val (pe_callB (isiK (K := K)) (by rfl) Z.T.isinstance (by decide +kernel) (pa_cons (pv 0) (pa_cons (pe_bltn (v := .ty "tuple") (u := .type "tuple") (by rfl) Z.T.tuple (by decide +kernel) rfl) pa_nil))))) (pw_or1 (pt_cmpR op_ne (pe_callB (lenK (K := K)) (by rfl) Z.T.len (by decide +kernel) (pa_cons (pv 0) pa_nil)) pe_int (nomark _)))))) (pss_one (ps_ret pe_bl)) pss_nil)
    (pss_cons (ps_for PassesOwn.never rfl (pi_tup (pv 0)) (pg_name (i := 2) sc__law_is_tree.nd rfl (.inl rfl)) (pss_cons (ps_set (i := 3) sc__law_is_tree.nd rfl (.inl rfl) pe_str)
    (pss_one (ps_for PassesOwn.never rfl (pi_either (K := K) (pe_ifExp (pt_val (pe_callB (isiK (K := K)) (by rfl) Z.T.isinstance (by decide +kernel) (pa_cons (pv 2) (pa_cons (pe_bltn (v := .ty "tuple") (u := .type "tuple") (by rfl) Z.T.tuple (by decide +kernel) rfl) pa_nil)))) (pv 2) (pe_lst (pa_cons pe_non pa_nil)))) (pg_name (i := 4) sc__law_is_tree.nd rfl (.inl rfl)) (pss_cons (ps_if (PW.pt (pw_or (pt_not (pt_val (pe_callB (isiK (K := K)) (by rfl) Z.T.isinstance (by decide +kernel) (pa_cons (pv 4) (pa_cons (pe_bltn (v := .ty "tuple") (u := .type "tuple") (by rfl) Z.T.tuple (by decide +kernel) rfl) pa_nil))))) (pw_or (pt_cmpR op_ne (pe_callB (lenK (K := K)) (by rfl) Z.T.len (by decide +kernel) (pa_cons (pv 4) pa_nil)) pe_int (nomark _)) (pw_or (pt_not (pt_val (pe_call (ok__law_is_name Z) hr1 (by rfl) Z.D__law_is_name.m Z.D__law_is_name.F.kp Z.D__law_is_name.b .nil pass0 (pa_cons (pe_ix (ixT (K := K)) (pv 4) pe_int (fun _ _ => rfl)) pa_nil)))) (pw_or1 (pt_not (pt_cmpR op_lt_str (pv 3) (pe_ix (ixT (K := K)) (pv 4) pe_int (fun _ _ => rfl)) (nomark _)))))))) (pss_one (ps_ret pe_bl)) pss_nil)
    (pss_one (ps_set (i := 3) sc__law_is_tree.nd rfl (.inl rfl) (pe_ix (ixT (K := K)) (pv 4) pe_int (fun _ _ => rfl)))))))))
    (pss_cons (ps_if (pt_not (pt_val (pe_callB (allK (K := K) rfl) (by rfl) Z.T.all (by decide +kernel) (pa_cons (pe_lc (own := [("_law_pair", 4)]) (g := gName 4) (tt := tYes) rfl sc__law_is_tree.nd (pi_tup (pe_ix (ixT (K := K)) (pv 0) pe_int (fun _ _ => rfl))) (blkOk_by (own := [("_law_pair", 4)]) (N := ["_law_thing_here", "_law_levels", "_law_pairs", "_law_last", "_law_pair"]) (sc := defScope s__law_is_tree) (by decide +kernel)) (fun _ _ _ _ _ => (pg_name (i := 4) sc__law_is_tree.nd rfl (.inl rfl))) (fun _ _ _ _ _ => pts_nil) (fun _ _ _ _ _ => (pe_callG (ok__law_is_value Z) hG hr3 (by rfl) Z.D__law_is_value.m Z.D__law_is_value.F.kp Z.D__law_is_value.b .nil pass0 (pa_cons (pe_ix (ixT (K := K)) (pv 4) pe_int (fun _ _ => rfl)) pa_nil)))) pa_nil)))) (pss_one (ps_ret pe_bl)) pss_nil)
    (pss_one (ps_ret (pe_callB (allK (K := K) rfl) (by rfl) Z.T.all (by decide +kernel) (pa_cons (pe_lc (own := [("_law_pair", 4)]) (g := gName 4) (tt := tYes) rfl sc__law_is_tree.nd (pi_tup (pe_ix (ixT (K := K)) (pv 0) pe_int (fun _ _ => rfl))) (blkOk_by (own := [("_law_pair", 4)]) (N := ["_law_thing_here", "_law_levels", "_law_pairs", "_law_last", "_law_pair"]) (sc := defScope s__law_is_tree) (by decide +kernel)) (fun _ _ _ _ _ => (pg_name (i := 4) sc__law_is_tree.nd rfl (.inl rfl))) (fun _ _ _ _ _ => pts_nil) (fun _ _ _ _ _ => (pe_callG ih hG hrk (by rfl) Z.D__law_is_tree.m Z.D__law_is_tree.F.kp Z.D__law_is_tree.b .nil pass0 (pa_cons (pe_ix (ixT (K := K)) (pv 4) pe_int (fun _ _ => rfl)) (pa_cons (pe_op op_sub (pv 1) pe_int) pa_nil))))) pa_nil))))))), ?_⟩
  cases n with
  | zero => exact ⟨_, rfl, _, _, rfl, rfl, _, rfl, iteT (q H (Same.refl H))⟩
  | succ n =>
  obtain rfl := hsp n rfl
  have hlev : ¬ (((n + 1 : Nat) : Int) - 1 < 0) := by omega
  refine ⟨_, rfl, _, _, rfl, rfl, _, rfl, ite2 (fun c => absurd (of_decide_eq_true c) hlev) (fun _ => ?_)⟩
  refine ⟨_, rfl, _, _, _, _, isTup d, rfl, .ty "tuple", Dp_type hd, kit_tup hd, _, rfl, ite2 (fun cc => ?_) (fun cc => ?_)⟩
  · have q1 := q H (Same.refl H)
    rw [treeD_not (by cases d <;> first | rfl | cases cc)] at q1
    exact q1
  obtain ⟨ds, rfl⟩ : ∃ ds, d = .tuple ds := by
    cases d with
    | tuple ds => exact ⟨ds, rfl⟩
    | _ => exact absurd rfl cc
  cases hd with
  | @tup a xs _ hs ha =>
  have hl := DpAll_len ha
  refine ⟨_, rfl, a, xs, rfl, .inr hs, rfl, _, rfl, ite2 (fun c => ?_) (fun c => ?_)⟩
  · have q1 := q H (Same.refl H)
    rw [treeD_not (not_pair (by rw [← hl]; exact ne_two c))] at q1
    exact q1
  obtain ⟨vp, vc, p, cd, rfl, rfl, h0, h1⟩ := two_of ha (is_two c)
  clear c cc ha hl
  have okp := ok.item (List.mem_cons_self (a := p) (l := [cd]))
  have okc := ok.item (List.mem_cons_of_mem p (List.mem_cons_self (a := cd) (l := [])))
  have q0 : ∀ H', Same H H' → Q (.bl ((partD p && partD cd) && (((itemsD p).all fun e => valueD (sndD e)) && ((itemsD cd).all fun e => treeD n (sndD e))))) H' := fun H' s' => by
    have := q H' s'
    rw [treeD_parts] at this
    exact this
  have bad : ∀ (i : Nat) (e : PyData) H', [p, cd][i]? = some e → partD e = false → Same H H' → Q (.bl false) H' := by
    intro i e H' hi he s'
    have q1 := q0 H' s'
    match i, hi with
    | 0, hi =>
      obtain rfl := Option.some.inj hi
      rw [he, Bool.false_and, Bool.false_and] at q1
      exact q1
    | 1, hi =>
      obtain rfl := Option.some.inj hi
      rw [he, Bool.and_false, Bool.false_and] at q1
      exact q1
  -- for pairs in thing
  refine ⟨_, rfl, a, rfl, ⟨_, hs⟩, for_tup (xs := [vp, vc]) (fun i σ H' => (∃ x2 x3 x4, σ = [some (.ref a), some (.int (((n + 1 : Nat) : Int) - 1)), x2, x3, x4]) ∧ Same H H' ∧ ∀ e ∈ [p, cd].take i, partD e = true) ⟨⟨_, _, _, rfl⟩, Same.refl _, fun e he => nomatch he⟩ (fun i σ H' _ pv => Same.seqT pv.2.1 hs) ?_ ?_⟩
  · rintro i v σ H1 hv ⟨⟨x2, x3, x4, rfl⟩, s1, good⟩
    obtain ⟨e, he, hve⟩ := DpAll_get i (DpAll_mono s1 (.cons h0 (.cons h1 .nil))) hv
    have oke : Ok e := by
      have := List.mem_of_getElem? he
      simp only [List.mem_cons, List.not_mem_nil, or_false] at this
      rcases this with rfl | rfl
      · exact okp
      · exact okc
    refine ⟨_, rfl, _, _, _, _, isTup e, rfl, .ty "tuple", Dp_type hve, kit_tup hve, _, rfl, ite2 (fun ct => ?_) (fun ct => ?_)⟩
    · obtain ⟨es, rfl⟩ : ∃ ds, e = .tuple ds := by
        cases e with
        | tuple ds => exact ⟨ds, rfl⟩
        | _ => cases ct
      cases hve with
      | @tup a2 ys _ hs2 ha2 =>
      have hl2 := DpAll_len ha2
      refine ⟨_, rfl, a2, rfl, .inr ⟨⟨ys, hs2⟩, for_tup (xs := ys) (fun j σ H' => (∃ x4, σ = [some (.ref a), some (.int (((n + 1 : Nat) : Int) - 1)), some (.ref a2), some (.str (lastK (Str.ofString "") (es.take j))), x4]) ∧ Same H1 H' ∧ loopD (Str.ofString "") (es.take j) = true) ⟨⟨_, rfl⟩, Same.refl _, rfl⟩ (fun j σ H' _ pv => Same.seqT pv.2.1 hs2) ?_ ?_⟩⟩
      · rintro j u σ H2 hu ⟨⟨x4, rfl⟩, s2, lp⟩
        obtain ⟨f, hf, huf⟩ := DpAll_get j (DpAll_mono s2 ha2) hu
        have okf := oke.item (List.mem_of_getElem? hf)
        have s12 := s1.trans s2
        have stop : ∀ H', Same H H' → stepD (lastK (Str.ofString "") (es.take j)) f = false → Q (.bl false) H' := fun H' s' hst =>
          bad i _ H' he (by rw [part_tup]; exact loop_stop hf hst) s'
        have stopN : ∀ H', Same H H' → nmD f = false → Q (.bl false) H' := fun H' s' hn => stop H' s' (by unfold stepD; rw [hn, Bool.false_and])
        refine ⟨_, rfl, _, _, _, _, isTup f, rfl, .ty "tuple", Dp_type huf, kit_tup huf, _, rfl, ite2 (fun c1 => ?_) (fun c1 => ?_)⟩
        · exact stopN H2 s12 (by cases f <;> first | rfl | cases c1)
        obtain ⟨fs, rfl⟩ : ∃ ds, f = .tuple ds := by
          cases f with
          | tuple ds => exact ⟨ds, rfl⟩
          | _ => exact absurd rfl c1
        cases huf with
        | @tup a3 zs _ hs3 ha3 =>
        have hl3 := DpAll_len ha3
        refine ⟨_, rfl, a3, zs, rfl, .inr hs3, rfl, _, rfl, ite2 (fun c2 => ?_) (fun c2 => ?_)⟩
        · exact stopN H2 s12 (by unfold nmD; rw [not_pair (by rw [← hl3]; exact ne_two c2), Bool.false_and])
        obtain ⟨v0, v1, g0, g1, rfl, rfl, k0, k1⟩ := two_of ha3 (is_two c2)
        have okg := okf.item (List.mem_cons_self (a := g0) (l := [g1]))
        refine ⟨_, rfl, a3, _, 0, v0, rfl, rfl, hs3, rfl, v0, g0, rfl, k0, okg, fun H3 s3 => ⟨_, rfl, ite2 (fun c3 => ?_) (fun c3 => ?_)⟩⟩
        · have hn : nameD g0 = false := by simpa using c3
          exact stopN H3 (s12.trans s3) hn
        have hn : nameD g0 = true := by simpa using c3
        obtain ⟨x, rfl⟩ : ∃ x, g0 = .str x := by
          cases g0 with
          | str x => exact ⟨x, rfl⟩
          | _ => cases hn
        cases k0
        have hs3' := Same.seqT s3 hs3
        refine ⟨_, rfl, _, rfl, a3, _, 0, _, rfl, rfl, hs3', rfl, _, _, rfl, rfl, _, rfl, ite2 (fun c4 => ?_) (fun c4 => ?_)⟩
        · have hst : stepD (lastK (Str.ofString "") (es.take j)) (.tuple [.str x, g1]) = false := by
            have c5 : decide ((lastK (Str.ofString "") (es.take j)).cps.toList < x.cps.toList) = false := by simpa using c4
            unfold stepD
            rw [show keyD (.tuple [.str x, g1]) = x from rfl, c5, Bool.and_false]
          exact stop H3 (s12.trans s3) hst
        · have c5 : decide ((lastK (Str.ofString "") (es.take j)).cps.toList < x.cps.toList) = true := by simpa using c4
          refine ⟨_, rfl, a3, _, 0, _, rfl, rfl, hs3', rfl, ⟨some (.ref a3), ?_⟩, s2.trans s3, ?_⟩
          · rw [take_snoc hf, lastK_app]
            rfl
          · rw [loop_next hf, lp, Bool.true_and]
            unfold stepD
            rw [show keyD (.tuple [.str x, g1]) = x from rfl, c5, Bool.and_true]
            exact hn
      · rintro σ H2 ⟨⟨x4, rfl⟩, s2, lp⟩
        rw [hl2, List.take_of_length_le (Nat.le_refl _)] at lp
        refine ⟨⟨_, _, _, rfl⟩, s1.trans s2, fun e2 he2 => ?_⟩
        rw [take_snoc he] at he2
        rcases List.mem_append.mp he2 with m | m
        · exact good e2 m
        · rw [List.mem_singleton.mp m, part_tup]
          exact lp
    · have hne : partD e = false := by
        unfold partD
        cases e with
        | tuple ds => exact absurd rfl ct
        | _ => rfl
      refine ⟨(by show 1 ≤ sizeLine; decide), fun p1 n1 => ⟨p1, rfl, .inl ⟨⟨_, SqL.of upd_same⟩, for_list (xs := [V.non]) (fun j σ H' => j = 0 ∧ (∃ x4, σ = [some (.ref a), some (.int (((n + 1 : Nat) : Int) - 1)), some v, some (.str (Str.ofString "")), x4]) ∧ H' = upd H1 p1 (.lst [V.non])) ⟨rfl, ⟨_, rfl⟩, rfl⟩ (fun j σ H' _ pv => by rw [pv.2.2]; exact SqL.of upd_same) ?_ ?_⟩⟩⟩
      · rintro j u σ H2 hu ⟨rfl, ⟨x4, rfl⟩, rfl⟩
        obtain rfl : u = V.non := (Option.some.inj hu).symm
        have hno : Dp K (upd H1 p1 (.lst [V.non])) V.non .none := .non
        refine ⟨_, rfl, _, _, _, _, isTup .none, rfl, .ty "tuple", Dp_type hno, kit_tup hno, _, rfl, iteT ?_⟩
        exact bad i e _ he hne (s1.trans (same_new n1 _))
      · rintro σ H2 ⟨hj, _⟩
        cases hj
  · rintro σ H1 ⟨⟨x2, x3, x4, rfl⟩, s1, good⟩
    have pp : partD p = true := good p List.mem_cons_self
    have pc : partD cd = true := good cd (List.mem_cons_of_mem _ List.mem_cons_self)
    rw [pp, pc, Bool.true_and, Bool.true_and] at q0
    have np : namedD p = true := (Bool.and_eq_true_iff.mp pp).1
    have nc : namedD cd = true := (Bool.and_eq_true_iff.mp pc).1
    obtain ⟨ps, rfl⟩ := named_tup np
    obtain ⟨cs, rfl⟩ := named_tup nc
    have np' : ps.all nmD = true := np
    have nc' : cs.all nmD = true := nc
    have y0 := Dp_mono s1 h0
    have y1 := Dp_mono s1 h1
    clear h0 h1
    cases y0 with
    | @tup a2 ys _ hs2 ha2 =>
    cases y1 with
    | @tup a3 zs _ hs3 ha3 =>
    refine ⟨_, rfl, a, _, 0, _, rfl, rfl, Same.seqT s1 hs, rfl, a2, rfl, ⟨ys, hs2⟩, fun D nD => lc_items (fun e => valueD (sndD e)) nD hs2 ha2 okp.len (fun _ => rfl) (fun v e H8 q8 he hv _ k => ?_) fun H8 s8 e8 => ?_⟩
    · obtain ⟨x, b, rfl, _⟩ := named_is (List.all_eq_true.mp np' e he)
      have okb := (okp.item he).item (List.mem_cons_of_mem (PyData.str x) (List.mem_cons_self (a := b) (l := [])))
      cases hv with
      | @tup a4 us _ hs4 ha4 =>
      cases ha4 with
      | cons u0 u1 =>
      cases u1 with
      | cons u1 u2 =>
      cases u2
      exact ⟨_, rfl, a4, _, 1, _, rfl, rfl, hs4, rfl, _, b, rfl, u1, okb, k⟩
    refine ⟨D, _, rfl, SqL.of e8, _, rfl, ?_⟩
    rw [all_map]
    refine ite2 (fun c5 => ?_) (fun c5 => ?_)
    · have q1 := q0 H8 (s1.trans s8)
      rw [show ((itemsD (.tuple ps)).all fun e => valueD (sndD e)) = false by simpa [itemsD] using c5, Bool.false_and] at q1
      exact q1
    have vp' : ((itemsD (.tuple ps)).all fun e => valueD (sndD e)) = true := by simpa [itemsD] using c5
    rw [vp', Bool.true_and] at q0
    refine ⟨_, rfl, a, _, 1, _, rfl, rfl, Same.seqT (s1.trans s8) hs, rfl, a3, rfl, ⟨zs, Same.seqT s8 hs3⟩, fun D2 nD2 => lc_items (fun e => treeD n (sndD e)) nD2 (Same.seqT s8 hs3) (DpAll_mono s8 ha3) okc.len (fun _ => rfl) (fun v e H9 q9 he hv _ k => ?_) fun H9 s9 e9 => ?_⟩
    · obtain ⟨x, b, rfl, _⟩ := named_is (List.all_eq_true.mp nc' e he)
      have okb := (okc.item he).item (List.mem_cons_of_mem (PyData.str x) (List.mem_cons_self (a := b) (l := [])))
      cases hv with
      | @tup a4 us _ hs4 ha4 =>
      cases ha4 with
      | cons u0 u1 =>
      cases u1 with
      | cons u1 u2 =>
      cases u2
      refine ⟨_, rfl, a4, _, 1, _, rfl, rfl, hs4, rfl, _, rfl, _, _, rfl, rfl, _, b, ?_, u1, okb, k⟩
      show [_, V.int (((n + 1 : Nat) : Int) - 1 - 1)] = [_, V.int ((n : Int) - 1)]
      rw [show ((n + 1 : Nat) : Int) - 1 - 1 = (n : Int) - 1 by omega]
    · refine ⟨D2, _, rfl, SqL.of e9, ?_⟩
      rw [all_map]
      exact q0 H9 ((s1.trans s8).trans s9)
theorem ok__law_is_tree (n : Nat) : FnG P w K mg base CX0 (n+6) Z.f__law_is_tree Z.fd__law_is_tree ["_law_thing_here", "_law_levels"] (spTree K n) := by
  induction n with
  | zero => exact ltree_step Z 0 0 (fun _ _ _ _ => False) ⟨fun _ _ _ _ h => h.elim, fun _ _ _ _ _ _ _ _ _ _ _ _ _ _ h => h.elim⟩ (Nat.zero_le _) (fun m' h => nomatch h)
  | succ n ih => exact ltree_step Z (n + 1) (n + 6) _ ih (Nat.le_refl _) fun m' h => by rw [Nat.succ.inj h]

/-! ### _law_some_names -/
theorem ok__law_some_names : FnOk P w K mg base CX0 3 Z.f__law_some_names Z.fd__law_some_names ["_law_stream", "_law_many"] spSome := by
  refine Z.D__law_some_names.F.ok sc__law_some_names (fun vs H Q E h => ?_) (fun cdv A outer s H vs Q E hr h => ?_)
  · obtain ⟨S, C, n, m, rfl, _⟩ := h
    rfl
  obtain ⟨S, C, n, m, rfl, hm, st, hn, q⟩ := h
  refine ⟨_, (pss_cons (ps_set (i := 2) sc__law_some_names.nd rfl (.inl rfl) (pe_lst pa_nil))
    (pss_cons (ps_for PassesOwn.never rfl (pi_range1 (by rfl) Z.T.range (pa_cons (pv 1) pa_nil)) (pg_name (i := 3) sc__law_some_names.nd rfl (.inl rfl)) (pss_cons (ps_set (i := 4) sc__law_some_names.nd rfl (.inl rfl) (pe_call (ok__law_letters Z) (hr.mono (by decide)) (by rfl) Z.D__law_letters.m Z.D__law_letters.F.kp Z.D__law_letters.b .nil pass0 (pa_cons (pv 0) (pa_cons (pe_ix (ixL (K := K)) (pe_lst (pa_cons pe_int (pa_cons pe_int (pa_cons pe_int (pa_cons pe_int pa_nil))))) (pe_call (ok__law_draw Z) (hr.mono (by decide)) (by rfl) Z.D__law_draw.m Z.D__law_draw.F.kp Z.D__law_draw.b .nil pass0 (pa_cons (pv 0) (pa_cons pe_int pa_nil))) (fun _ _ => rfl)) pa_nil))))
    (pss_one (ps_expr (pe_bm PySem.F.plainAttrs_list PySem.F.slot_list_extend PySem.F.type_list_extend mt_extend (pv 2) (pa_cons (pe_op op_rep (pe_lst (pa_cons (pv 4) pa_nil)) (pe_callTy call_int1 (by rfl) Z.T.int (by decide +kernel) (pa_cons (pe_cmpR op_notIn_seq (pv 4) (pv 2) rfl) pa_nil))) pa_nil))))))
    (pss_one (ps_ret (pe_callB cr_sortedS (by rfl) Z.T.sorted (by decide +kernel) (pa_cons (pv 2) pa_nil)))))), ?_⟩
  refine ⟨(by show 0 ≤ sizeLine; decide), fun F nF => ?_⟩
  have FS := st.neS nF
  have FC := st.neC nF
  refine ⟨_, rfl, (m : Int), rfl, by omega, by omega, for_range (lo := 0) (n := m) (fun i σ H' => (∃ x3 x4, σ = [some (.ref S), some (.int (m : Int)), some (.ref F), x3, x4]) ∧ ∃ ys : List Str, H' F = some (.lst (ys.map V.str)) ∧ okNames i ys ∧ Strm S C (n + i * 9) H' ∧ Fr S C H H')
    ⟨⟨none, none, rfl⟩, [], upd_same, ⟨Nat.le_refl _, fun _ h => nomatch h⟩, by rw [Nat.zero_mul]; exact st.lay nF _, Fr.lay nF _⟩ ?_ ?_⟩
  · rintro i σ H1 hi ⟨⟨x3, x4, rfl⟩, ys, e1, oy, s1, f1⟩
    have him : i * 9 + 9 ≤ m * 9 := by omega
    refine ⟨_, rfl, (by show 4 ≤ sizeLine; decide), fun p np => ⟨_, rfl, S, C, _, 4, rfl, s1.lay np _, by omega, by decide, by decide, fun r H2 r0 r1 s2 f2 => ?_⟩⟩
    obtain ⟨v, z1, z2⟩ := at_int (vs := [V.int 1, V.int 1, V.int 2, V.int 8]) r0 r1
    have hv : ∃ k : Nat, v = .int (k : Int) ∧ k ≤ 8 := by
      have := List.mem_of_getElem? z2
      simp only [List.mem_cons, List.not_mem_nil, or_false] at this
      rcases this with rfl | rfl | rfl | rfl
      · exact ⟨1, rfl, by decide⟩
      · exact ⟨1, rfl, by decide⟩
      · exact ⟨2, rfl, by decide⟩
      · exact ⟨8, rfl, by decide⟩
    obtain ⟨k, rfl, hk⟩ := hv
    have f12 : Fr S C H1 H2 := (Fr.lay np _).trans f2
    refine ⟨p, _, r, _, rfl, rfl, SqL.of (s1.keep np f2), z1, S, C, _, k, rfl, by omega, s2, by omega, fun x H3 hx az s3 f3 => ?_⟩
    have f13 := f12.trans f3
    have e3 : H3 F = some (.lst (ys.map V.str)) := cut_keep f13 FS FC e1
    refine ⟨_, rfl, .inl ⟨rfl, _, SqL.of e3⟩, _, rfl, (by show 1 ≤ sizeLine; decide), fun p1 n1 => ?_⟩
    have w4 := same_new n1 (.lst [V.str x])
    have e4 : (upd H3 p1 (.lst [V.str x])) p1 = some (.lst [V.str x]) := upd_same
    have s4 := s3.lay n1 (.lst [V.str x])
    generalize (upd H3 p1 (.lst [V.str x])) = H4 at w4 e4 s4 ⊢
    refine ⟨_, rfl, _, rfl, F, _, rfl, .inl (SqL.of (w4 _ _ e3)), rfl, flat_strs ys, .inr ⟨_, rfl, ?_⟩⟩
    generalize (if true = true then !inV (V.str x) (ys.map V.str) else inV (V.str x) (ys.map V.str)) = b
    have hlen := oy.1
    have big : ∀ {k : Nat}, k ≤ 1000 → k ≤ sizeLine := fun h => Nat.le_trans h (by decide)
    cases b with
    | true =>
      refine ⟨p1, 1, _, rfl, rfl, e4, by decide, by decide, (by show 1 * 1 ≤ sizeLine; decide), fun p2 n2 => ?_⟩
      have w5 := same_new n2 (.lst (List.replicate (1 : Int).toNat [V.str x]).flatten)
      have e5 : (upd H4 p2 (.lst (List.replicate (1 : Int).toNat [V.str x]).flatten)) p2 = some (.lst [V.str x]) := upd_same
      have s5 := s4.lay n2 (.lst (List.replicate (1 : Int).toNat [V.str x]).flatten)
      generalize (upd H4 p2 (.lst (List.replicate (1 : Int).toNat [V.str x]).flatten)) = H5 at w5 e5 s5 ⊢
      refine ⟨F, p2, _, _, rfl, rfl, w5 _ _ (w4 _ _ e3), e5, big (by rw [List.length_map]; show ys.length + 1 ≤ 1000; omega), ⟨_, _, rfl⟩, ys ++ [x], ?_, ⟨?_, ?_⟩, (s5.upd FS FC _).mono (by omega), Fr.upd (((f1.trans f13).trans (Fr.of_same w4)).trans (Fr.of_same w5)) nF⟩
      · rw [upd_same, List.map_append]
        rfl
      · rw [List.length_append]
        exact Nat.succ_le_succ hlen
      · intro y hy
        rcases List.mem_append.mp hy with hy | hy
        · exact oy.2 y hy
        · rw [List.mem_singleton.mp hy]
          exact ⟨by omega, az⟩
    | false =>
      refine ⟨p1, 0, _, rfl, rfl, e4, by decide, by decide, (by show 1 * 0 ≤ sizeLine; decide), fun p2 n2 => ?_⟩
      have w5 := same_new n2 (.lst (List.replicate (0 : Int).toNat [V.str x]).flatten)
      have e5 : (upd H4 p2 (.lst (List.replicate (0 : Int).toNat [V.str x]).flatten)) p2 = some (.lst []) := upd_same
      have s5 := s4.lay n2 (.lst (List.replicate (0 : Int).toNat [V.str x]).flatten)
      generalize (upd H4 p2 (.lst (List.replicate (0 : Int).toNat [V.str x]).flatten)) = H5 at w5 e5 s5 ⊢
      refine ⟨F, p2, _, _, rfl, rfl, w5 _ _ (w4 _ _ e3), e5, big (by rw [List.length_map]; show ys.length + 0 ≤ 1000; omega), ⟨_, _, rfl⟩, ys, ?_, ⟨Nat.le_succ_of_le hlen, oy.2⟩, (s5.upd FS FC _).mono (by omega), Fr.upd (((f1.trans f13).trans (Fr.of_same w4)).trans (Fr.of_same w5)) nF⟩
      rw [upd_same, List.append_nil]
  · rintro σ H1 ⟨⟨x3, x4, rfl⟩, ys, e1, oy, s1, f1⟩
    refine ⟨_, rfl, F, ys, rfl, SqL.of e1, ?_, fun zs p perm _ np => ?_⟩
    · have := oy.1
      omega
    · refine q p zs _ (Fr.ext s1 f1 p np) upd_same ⟨?_, fun y hy => oy.2 y (perm.mem_iff.mp hy)⟩ (s1.lay np _) (f1.trans (Fr.lay np _))
      rw [perm.length_eq]
      exact oy.1

/-! ### _law_props -/
theorem ok__law_props : FnOk P w K mg base CX0 4 Z.f__law_props Z.fd__law_props ["_law_stream"] (spGet K 210 (fun us => us = []) fun d => Nice 4 13000 d ∧ partD d = true ∧ (itemsD d).all (fun e => valueD (sndD e)) = true) := by
  refine Z.D__law_props.F.ok sc__law_props (fun vs H Q E h => ?_) (fun cdv A outer s H vs Q E hr h => ?_)
  · obtain ⟨S, C, n, us, rfl, rfl, _⟩ := h
    rfl
  obtain ⟨S, C, n, us, rfl, rfl, st, hn, q⟩ := h
  refine ⟨_, (pss_one (ps_ret (pe_callTy (tupK (K := K)) (by rfl) Z.T.tuple (by decide +kernel) (pa_cons (pe_lc (own := [("_law_name", 1)]) (g := gName 1) rfl sc__law_props.nd (pi_list (pe_lst (pa_cons pe_str (pa_cons pe_str (pa_cons pe_str (pa_cons pe_str pa_nil)))))) (blkOk_by (own := [("_law_name", 1)]) (N := ["_law_stream", "_law_name"]) (sc := defScope s__law_props) (by decide +kernel)) (fun _ _ _ _ _ => (pg_name (i := 1) sc__law_props.nd rfl (.inl rfl))) (fun _ _ _ _ _ => (pts_one (pt_cmpR op_eq (pe_call (ok__law_draw Z) (hr.mono (by decide)) (by rfl) Z.D__law_draw.m Z.D__law_draw.F.kp Z.D__law_draw.b .nil pass0 (pa_cons (pv 0) (pa_cons pe_int pa_nil))) pe_int (nomark _)))) (fun _ _ _ _ _ => (pe_tup (pa_cons (pv 1) (pa_cons (pe_call (ok__law_value Z) (hr.mono (by decide)) (by rfl) Z.D__law_value.m Z.D__law_value.F.kp Z.D__law_value.b .nil pass0 (pa_cons (pv 0) pa_nil)) pa_nil))))) pa_nil)))), ?_⟩
  refine ⟨(by show 4 ≤ sizeLine; decide), fun p np => ⟨p, rfl, ⟨_, SqL.of upd_same⟩, fun D nD => ?_⟩⟩
  have st1 := st.lay np (.lst [V.str "rank", V.str "x", V.str "y", V.str "zz"])
  have pS := st.neS np
  have pC := st.neC np
  have fp : Fr S C H _ := Fr.lay np (.lst [V.str "rank", V.str "x", V.str "y", V.str "zz"])
  have ep : (upd H p (.lst [V.str "rank", V.str "x", V.str "y", V.str "zz"])) p = _ := upd_same
  have xp : Ext H _ := Ext.of_same (same_new np (.lst [V.str "rank", V.str "x", V.str "y", V.str "zz"]))
  generalize (upd H p (.lst [V.str "rank", V.str "x", V.str "y", V.str "zz"])) = H1 at st1 fp ep nD xp ⊢
  refine lc_draw (K := K) (k := 51) (R := fun x d => Nice 3 3200 d ∧ valueD (sndD d) = true ∧ nmD d = true ∧ strD (fstD d) = vStr x) st1 nD pS pC ep (fun _ => rfl) (by decide) (fun i x H3 q3 q0 hx s3 k3 k0 => ?_) fun H' vs ds ys e dp hs hR s3 f3 => ?_
  · have hi := (List.getElem?_eq_some_iff.mp hx).1
    have hi' : i < 4 := hi
    have hx2 : ∃ z : Str, x = .str z ∧ z.length ≤ 8 ∧ okStr z ∧ nameD (.str z) = true := by
      have all : ∀ z ∈ ["rank", "x", "y", "zz"], (Str.ofString z).length ≤ 8 ∧ (∀ c ∈ (Str.ofString z).cps.toList, c < 1114112) ∧ nameD (.str (Str.ofString z)) = true := by decide +kernel
      obtain ⟨z, hz, rfl⟩ := List.mem_map.mp (show x ∈ ["rank", "x", "y", "zz"].map fun z => V.str (Str.ofString z) from List.mem_of_getElem? hx)
      exact ⟨_, rfl, all z hz⟩
    obtain ⟨z, rfl, hz, oz, nz⟩ := hx2
    have him : i * 51 ≤ 3 * 51 := Nat.mul_le_mul_right _ (by omega)
    refine ⟨_, rfl, S, C, _, 3, rfl, s3, by omega, by decide, by decide, fun r H4 r0 r1 s4 f4 => ⟨rfl, _, rfl, ite2 (fun c => ?_) (fun c => ?_)⟩⟩
    · refine ⟨_, rfl, _, rfl, S, C, _, [], rfl, rfl, s4, by omega, fun v d H5 hv ⟨nv, vv⟩ s5 f5 => ⟨(by show 2 ≤ sizeLine; decide), fun T nT => ?_⟩⟩
      have f45 := f4.trans f5
      have nT0 : H3 T = none := Fr.ext s5 f45 T nT
      refine k3 _ (.tuple [.str z, d]) _ (new_tup nT0 upd_same (.cons (.str _) (.cons (Dp_mono ((newp_left (Fr.ext s4 f4)).trans (newp_right (same_new nT _))) hv) .nil))) ?_ ((s5.lay nT _).mono (by omega)) (f45.trans (Fr.lay nT _))
      exact ⟨((Nices.one (Nice.str (n := 2) (b := 82) oz (by omega))).append (.one nv)).tup.mono (by decide) (by decide), vv, nz, rfl⟩
    · exact k0 H4 (s4.mono (by omega)) f4
  · refine ⟨D, vs, rfl, .inl ⟨SqL.of e, fun l nl => ?_⟩⟩
    have f : Fr S C H H' := fp.trans f3
    have nl0 : H l = none := f.ext s3 l nl
    refine q _ (.tuple ds) _ (new_tup nl0 upd_same (DpAll_mono (newp_right (same_new nl _)) (DpAll_mono ((newp_left Ext.upd).trans (newp_left xp)) dp))) ?_ ((s3.lay nl _).mono (by show n + 4 * 51 ≤ _; omega)) (f.trans (Fr.lay nl _))
    have hl' : ds.length ≤ 4 := by
      rw [hR.len]
      exact hs.length_le
    have := Nat.mul_le_mul_right (3200 + 2) hl'
    refine ⟨(nices_of fun d hd => (hR.mem hd).choose_spec.1).tup.mono (by decide) (by omega), ?_, List.all_eq_true.mpr fun d hd => (hR.mem hd).choose_spec.2.1⟩
    refine part_of hs hR ?_ fun x d h => h.2.2
    show ((["rank", "x", "y", "zz"].map Str.ofString) : List Str).Pairwise _
    decide +kernel

/-! ### _law_wide_tree -/
theorem wide_step (m kk : Nat) (spR : Sp) (ih : FnOk P w K mg base CX0 kk Z.f__law_wide_tree Z.fd__law_wide_tree ["_law_stream", "_law_left", "_law_deep"] spR) (hk : kk ≤ m + 4) (hsp : ∀ m', m = m' + 1 → spR = spWide K m') : FnOk P w K mg base CX0 (m+5) Z.f__law_wide_tree Z.fd__law_wide_tree ["_law_stream", "_law_left", "_law_deep"] (spWide K m) := by
  refine Z.D__law_wide_tree.F.ok sc__law_wide_tree (fun vs H Q E h => ?_) (fun cdv A outer s H vs Q E hr h => ?_)
  · obtain ⟨S, C, L, n, z, rfl, _⟩ := h
    rfl
  obtain ⟨S, C, L, n, z, rfl, st, LS, LC, eL, hn, q⟩ := h
  have hr1 : Room 1 (A.deeper (envOfC "_law_wide_tree" (defScope s__law_wide_tree) s.heap.objs.size Z.f__law_wide_tree cdv)) := hr.mono (by omega)
  have hr3 : Room 3 (A.deeper (envOfC "_law_wide_tree" (defScope s__law_wide_tree) s.heap.objs.size Z.f__law_wide_tree cdv)) := hr.mono (by omega)
  have hrk : Room kk (A.deeper (envOfC "_law_wide_tree" (defScope s__law_wide_tree) s.heap.objs.size Z.f__law_wide_tree cdv)) := hr.mono hk
  have k0 : 210 ≤ kW m := by
    cases m with
    | zero => exact Nat.le_refl _
    | succ m => show 210 ≤ 3 * kW m + 210; omega
  refine ⟨_, (pss_cons (ps_asg (pe_op op_sub (pe_ix (ixL (K := K)) (pv 1) pe_int (fun _ _ => rfl)) pe_int) (pg_sub (pv 1) pe_int set_list))
    (pss_cons (ps_set (i := 3) sc__law_wide_tree.nd rfl (.inl rfl) (pe_callTy (tupK (K := K)) (by rfl) Z.T.tuple (by decide +kernel) (pa_cons (pe_lc (own := [("_law_name", 4)]) (g := gName 4) (tt := tYes) rfl sc__law_wide_tree.nd (pi_list (pe_call (ok__law_some_names Z) hr3 (by rfl) Z.D__law_some_names.m Z.D__law_some_names.F.kp Z.D__law_some_names.b .nil pass0 (pa_cons (pv 0) (pa_cons (pe_call (ok__law_draw Z) hr1 (by rfl) Z.D__law_draw.m Z.D__law_draw.F.kp Z.D__law_draw.b .nil pass0 (pa_cons (pv 0) (pa_cons pe_int pa_nil))) pa_nil)))) (blkOk_by (own := [("_law_name", 4)]) (N := ["_law_stream", "_law_left", "_law_deep", "_law_props_here", "_law_name", "_law_children"]) (sc := defScope s__law_wide_tree) (by decide +kernel)) (fun _ _ _ _ _ => (pg_name (i := 4) sc__law_wide_tree.nd rfl (.inl rfl))) (fun _ _ _ _ _ => pts_nil) (fun _ _ _ _ _ => (pe_tup (pa_cons (pv 4) (pa_cons (pe_call (ok__law_value Z) hr3 (by rfl) Z.D__law_value.m Z.D__law_value.F.kp Z.D__law_value.b .nil pass0 (pa_cons (pv 0) pa_nil)) pa_nil))))) pa_nil)))
    (pss_cons (ps_set (i := 5) sc__law_wide_tree.nd rfl (.inl rfl) (pe_lst pa_nil))
    (pss_cons (ps_for PassesOwn.never rfl (pi_list (pe_call (ok__law_some_names Z) hr3 (by rfl) Z.D__law_some_names.m Z.D__law_some_names.F.kp Z.D__law_some_names.b .nil pass0 (pa_cons (pv 0) (pa_cons (pe_op op_mul (pe_call (ok__law_draw Z) hr1 (by rfl) Z.D__law_draw.m Z.D__law_draw.F.kp Z.D__law_draw.b .nil pass0 (pa_cons (pv 0) (pa_cons pe_int pa_nil))) (pe_callTy call_int1 (by rfl) Z.T.int (by decide +kernel) (pa_cons (pe_cmpR op_gt (pv 2) pe_int (nomark _)) pa_nil))) pa_nil)))) (pg_name (i := 4) sc__law_wide_tree.nd rfl (.inl rfl)) (pss_one (ps_if (pt_cmpR op_gt (pe_ix (ixL (K := K)) (pv 1) pe_int (fun _ _ => rfl)) pe_int (nomark _)) (pss_one (ps_expr (pe_bm PySem.F.plainAttrs_list PySem.F.slot_list_append PySem.F.type_list_append mt_append (pv 5) (pa_cons (pe_tup (pa_cons (pv 4) (pa_cons (pe_call ih hrk (by rfl) Z.D__law_wide_tree.m Z.D__law_wide_tree.F.kp Z.D__law_wide_tree.b .nil pass0 (pa_cons (pv 0) (pa_cons (pv 1) (pa_cons (pe_op op_sub (pv 2) pe_int) pa_nil)))) pa_nil))) pa_nil)))) pss_nil)))
    (pss_one (ps_ret (pe_tup (pa_cons (pv 3) (pa_cons (pe_callTy (tupK (K := K)) (by rfl) Z.T.tuple (by decide +kernel) (pa_cons (pv 5) pa_nil)) pa_nil))))))))), ?_⟩
  -- left[0] = left[0] - 1
  refine ⟨_, rfl, L, _, _, _, rfl, rfl, SqL.of eL, rfl, _, _, rfl, rfl, _, rfl, L, _, _, 0, rfl, rfl, eL, rfl, ?_⟩
  have s1 := st.upd LS LC (.lst ([V.int z].set 0 (.int (z - 1))))
  have e1 : (upd H L (.lst ([V.int z].set 0 (.int (z - 1))))) L = some (.lst [V.int (z - 1)]) := upd_same
  have f1 : Fr3 S C L H (upd H L (.lst ([V.int z].set 0 (.int (z - 1))))) := Fr3.updL
  have x1 : Ext H (upd H L (.lst ([V.int z].set 0 (.int (z - 1))))) := Ext.upd
  generalize (upd H L (.lst ([V.int z].set 0 (.int (z - 1))))) = H1 at s1 e1 f1 x1 ⊢
  -- props
  refine ⟨_, rfl, _, rfl, S, C, n, 4, rfl, s1, by omega, by decide, by decide, fun r H2 r0 r1 s2 f2 => ?_⟩
  have er : [V.ref S, V.int r] = [V.ref S, V.int ((r.toNat : Nat) : Int)] := by rw [show ((r.toNat : Nat) : Int) = r by omega]
  refine ⟨S, C, n + 1, r.toNat, er, by omega, s2, by omega, fun p ys H3 np ep oy s3 f3 => ⟨p, rfl, ⟨_, SqL.of ep⟩, fun D nD => ?_⟩⟩
  have pS := s2.neS np
  have pC := s2.neC np
  have hlen : (ys.map V.str).length ≤ 3 := by
    rw [List.length_map]
    have := oy.1
    omega
  refine lc_draw (K := K) (k := 50) (R := fun _ d => Nice 3 3100 d ∧ pairD d = true) s3 nD pS pC ep (fun _ => rfl) (by omega) (fun i x H4 q4 q0 hx s4 k4 _ => ?_) fun H4 vs ds ys4 e4 dp4 hs4 hR4' s4 f4 => ?_
  · have hi := (List.getElem?_eq_some_iff.mp hx).1
    have him : i * 50 ≤ 2 * 50 := Nat.mul_le_mul_right _ (by omega)
    obtain ⟨y, hy, rfl⟩ := List.mem_map.mp (List.mem_of_getElem? hx)
    obtain ⟨hy1, hy2⟩ := oy.2 y hy
    unfold tYes
    refine iteT ?_
    refine ⟨_, rfl, _, rfl, S, C, _, [], rfl, rfl, s4, by omega, fun v d H5 hv ⟨nv, _⟩ s5 f5 => ⟨(by show 2 ≤ sizeLine; decide), fun T nT => ?_⟩⟩
    have nT0 : H4 T = none := Fr.ext s5 f5 T nT
    refine k4 _ (.tuple [.str y, d]) _ (new_tup nT0 upd_same (.cons (.str _) (.cons (Dp_mono (newp_right (same_new nT _)) hv) .nil))) ?_ (s5.lay nT _) (f5.trans (Fr.lay nT _))
    exact ⟨((Nices.one (Nice.str (n := 2) (b := 82) hy2.ok (by omega))).append (.one nv)).tup.mono (by decide) (by decide), rfl⟩
  have hR4 : ∀ d ∈ ds, Nice 3 3100 d := fun d hd => (hR4'.mem hd).choose_spec.1
  have hP4 : ds.all pairD = true := List.all_eq_true.mpr fun d hd => (hR4'.mem hd).choose_spec.2
  have hl4 : ds.length ≤ (ys.map V.str).length := by
    rw [hR4'.len]
    exact hs4.length_le
  have f14 : Fr S C H1 H4 := (f2.trans f3).trans f4
  have x14 : Ext H1 H4 := Fr.ext s4 f14
  have l4 : ds.length ≤ 3 := by omega
  have n4 : Nices 3 9306 ds := (nices_of hR4).mono (Nat.le_refl _) (by
    have := Nat.mul_le_mul_right (3100 + 2) l4
    omega)
  have d4 : DpAll K (newp H1 H4) vs ds := DpAll_mono ((newp_left Ext.upd).trans (newp_left (Fr.ext s3 (f2.trans f3)))) dp4
  have sl4 : (ys.map V.str).length * 50 ≤ 3 * 50 := Nat.mul_le_mul_right _ hlen
  have s4' : Strm S C (n + 178) H4 := s4.mono (by omega)
  refine ⟨D, vs, rfl, .inl ⟨SqL.of e4, fun l nl => ⟨(by show 0 ≤ sizeLine; decide), fun Ch nCh => ?_⟩⟩⟩
  have w5 := same_new nl (.tup vs)
  have al : (upd H4 l (.tup vs)) l = some (.tup vs) := upd_same
  have s5 := s4'.lay nl (.tup vs)
  have nl1 : H1 l = none := x14 l nl
  generalize (upd H4 l (.tup vs)) = H5 at nCh w5 al s5 ⊢
  have f15 : Fr S C H1 H5 := f14.trans (Fr.of_same w5)
  have d5 : Dp K (newp H1 H5) (.ref l) (.tuple ds) := new_tup nl1 al (DpAll_mono (newp_right w5) d4)
  have n5 : Nice 4 9309 (.tuple ds) := n4.tup.mono (by decide) (by decide)
  have eL5 : H5 L = some (.lst [V.int (z - 1)]) := cut_keep f15 LS LC e1
  -- children = []
  have w6 := same_new nCh (.lst [])
  have aCh : (upd H5 Ch (.lst [])) Ch = some (.lst []) := upd_same
  have s6 := s5.lay nCh (.lst [])
  have nCh1 : H1 Ch = none := Fr.ext s5 f15 Ch nCh
  have ChS := s5.neS nCh
  have ChC := s5.neC nCh
  have ChL : Ch ≠ L := (ne_of_none eL5 nCh).symm
  generalize (upd H5 Ch (.lst [])) = H6 at w6 aCh s6 ⊢
  have f16 : Fr S C H1 H6 := f15.trans (Fr.of_same w6)
  have eL6 := w6 _ _ eL5
  have d6 := Dp_mono (newp_right (H := H1) w6) d5
  -- for name in some_names(..)
  refine ⟨_, rfl, _, rfl, S, C, _, 4, rfl, s6, by omega, by decide, by decide, fun r2 H7 r0 r1 s7 f7 => ?_⟩
  refine ⟨_, rfl, _, _, rfl, rfl, .inr ⟨_, rfl, _, _, rfl, rfl, .inl ⟨by omega, by omega⟩, ?_⟩⟩
  have em : ∃ k : Nat, [V.ref S, V.int (r2 * (if decide (0 < (m : Int)) = true then 1 else 0))] = [V.ref S, V.int (k : Int)] ∧ k ≤ 3 ∧ (m = 0 → k = 0) := by
    by_cases hm : 0 < (m : Int)
    · refine ⟨r2.toNat, ?_, by omega, by omega⟩
      rw [decide_eq_true hm, if_pos rfl, Int.mul_one, show ((r2.toNat : Nat) : Int) = r2 by omega]
    · refine ⟨0, ?_, by omega, fun _ => rfl⟩
      rw [decide_eq_false hm, if_neg Bool.false_ne_true, Int.mul_zero]
      rfl
  obtain ⟨k, ek, hk3, hk0⟩ := em
  refine ⟨S, C, _, k, ek, by omega, s7, by omega, fun p2 zs H8 np2 ep2 oz s8 f8 => ⟨p2, rfl, ⟨_, SqL.of ep2⟩, ?_⟩⟩
  have hz3 : (zs.map V.str).length ≤ 3 := by
    rw [List.length_map]
    have := oz.1
    omega
  have w56 : Fr3 S C L H5 H8 := (Fr3.of (Fr.of_same w6)).trans ((Fr3.of f7).trans (Fr3.of f8))
  have eL8 : H8 L = some (.lst [V.int (z - 1)]) := cut_keep (f7.trans f8) LS LC eL6
  have eCh8 : H8 Ch = some (.lst []) := cut_keep (f7.trans f8) ChS ChC aCh
  have x68 : Ext H6 H8 := Fr.ext s8 (f7.trans f8)
  have p2S := s7.neS np2
  have p2C := s7.neC np2
  have p2L : p2 ≠ L := (ne_of_none (cut_keep f7 LS LC eL6) np2).symm
  have p2Ch : p2 ≠ Ch := (ne_of_none (cut_keep f7 ChS ChC aCh) np2).symm
  have trL : H6 L ≠ none := by rw [eL6]; exact Option.some_ne_none _
  have trCh : H6 Ch ≠ none := by rw [aCh]; exact Option.some_ne_none _
  obtain ⟨kc, dc, bc, hkc, hdc, hbc, hrec⟩ : ∃ kc dc bc, 3 * kc + 210 ≤ kW m ∧ dc + 3 ≤ 5 + 3 * m ∧ 3 * (bc + 100) + 10200 ≤ bW m ∧ (m = 0 ∨ ∃ m', m = m' + 1 ∧ kc = kW m' ∧ dc = 5 + 3 * m' ∧ bc = bW m') := by
    cases m with
    | zero => exact ⟨0, 0, 0, by decide, by decide, by decide, .inl rfl⟩
    | succ m => exact ⟨kW m, 5 + 3 * m, bW m, Nat.le_refl _, by omega, Nat.le_refl _, .inr ⟨m, rfl, rfl, rfl, rfl⟩⟩
  refine for_list (xs := zs.map V.str) (fun j σ H' => (∃ x4, σ = [some (.ref S), some (.ref L), some (.int (m : Int)), some (.ref l), x4, some (.ref Ch)]) ∧ ∃ (vs : List V) (ds : List PyData) (z' : Int), H' Ch = some (.lst vs) ∧ H' p2 = some (.lst (zs.map V.str)) ∧ H' L = some (.lst [V.int z']) ∧
      DpAll K (newp H6 H') vs ds ∧ ds.length ≤ j ∧ (∀ d ∈ ds, Nice (dc + 1) (bc + 90) d ∧ pairD d = true ∧ shD m (sndD d) = true) ∧ Strm S C (n + 206 + j * kc) H' ∧ Fr3 S C L H5 H' ∧ Ext H6 H')
    ⟨⟨_, rfl⟩, [], [], _, eCh8, ep2, eL8, .nil, Nat.le_refl _, (fun _ h => nomatch h), by rw [Nat.zero_mul]; exact s8.mono (by omega), w56, x68⟩ (fun j σ H' _ pv => by
      obtain ⟨_, _, _, _, _, e, _⟩ := pv
      exact SqL.of e) ?_ ?_
  · rintro j u σ H9 hu ⟨⟨x4, rfl⟩, vs9, ds9, z9, eCh9, ep9, eL9, dp9, hl9, hR9, s9, f9, x9⟩
    have hj := (List.getElem?_eq_some_iff.mp hu).1
    obtain ⟨y, hy, rfl⟩ := List.mem_map.mp (List.mem_of_getElem? hu)
    obtain ⟨hy1, hy2⟩ := oz.2 y hy
    have hj3 : j * kc + kc ≤ 3 * kc := by
      have := Nat.mul_le_mul_right kc (show j + 1 ≤ 3 by omega)
      rw [Nat.succ_mul] at this
      exact this
    refine ⟨_, rfl, L, _, _, _, rfl, rfl, SqL.of eL9, rfl, _, _, rfl, rfl, _, rfl, ite2 (fun c => ?_) (fun c => ?_)⟩
    · rcases hrec with hm0 | ⟨m', rfl, rfl, rfl, rfl⟩
      · have h0 := hk0 hm0
        have h1 := oz.1
        rw [List.length_map] at hj
        omega
      obtain rfl := hsp m' rfl
      have evs : [V.ref S, V.ref L, V.int (((m' + 1 : Nat) : Int) - 1)] = [V.ref S, V.ref L, V.int (m' : Int)] := by rw [show ((m' + 1 : Nat) : Int) - 1 = (m' : Int) by omega]
      refine ⟨_, rfl, .inl ⟨rfl, _, SqL.of eCh9⟩, _, rfl, _, rfl, _, rfl, _, rfl, _, _, rfl, rfl, S, C, L, _, z9, evs, s9, LS, LC, eL9, by omega, fun v d H10 z10 hv nv sv s10 f10 e10 => ⟨(by show 2 ≤ sizeLine; decide), fun T nT => ?_⟩⟩
      have w11 := same_new nT (.tup [V.str y, v])
      have aT : (upd H10 T (.tup [V.str y, v])) T = some (.tup [V.str y, v]) := upd_same
      have s11 := s10.lay nT (.tup [V.str y, v])
      have nT9 : H9 T = none := Fr3.ext s10 e10 f10 T nT
      have nT6 : H6 T = none := x9 T nT9
      generalize (upd H10 T (.tup [V.str y, v])) = H11 at w11 aT s11 ⊢
      have f911 : Fr3 S C L H9 H11 := f10.trans (fun a o _ _ _ h => w11 a o h)
      have eCh11 : H11 Ch = some (.lst vs9) := f911 _ _ ChS ChC ChL eCh9
      have dT : Dp K (newp H6 H11) (.ref T) (.tuple [.str y, d]) := new_tup nT6 aT (.cons (.str _) (.cons (Dp_mono ((newp_left x9).trans (newp_right w11)) hv) .nil))
      have nd : Nice (5 + 3 * m' + 1) (bW m' + 90) (.tuple [.str y, d]) := by
        have := ((Nices.one (Nice.str (n := 5 + 3 * m') (b := 82) hy2.ok (by omega))).append (.one nv)).tup
        exact this.mono (Nat.le_refl _) (by omega)
      refine ⟨Ch, _, _, rfl, rfl, eCh11, ?_, ⟨_, rfl⟩, _, ds9 ++ [.tuple [.str y, d]], z10, upd_same, (upd_ne p2Ch).trans (f911 _ _ p2S p2C p2L ep9), (upd_ne ChL.symm).trans (w11 _ _ e10), ?_, ?_, ?_, ?_, ?_, ?_⟩
      · rw [DpAll_len dp9]
        exact Nat.lt_of_le_of_lt (show ds9.length ≤ 100 by omega) (by decide)
      · exact DpAll_snoc (DpAll_mono ((newp_fr3 s6 trL f911).trans (newp_upd trCh)) dp9) (Dp_mono (newp_upd trCh) dT)
      · rw [List.length_append]
        exact Nat.succ_le_succ hl9
      · intro e he
        rcases List.mem_append.mp he with he | he
        · exact hR9 e he
        · rw [List.mem_singleton.mp he]
          exact ⟨nd, rfl, sv⟩
      · rw [Nat.succ_mul, ← Nat.add_assoc]
        exact s11.upd ChS ChC _
      · exact Fr3.upd (f9.trans f911) nCh
      · exact (x9.trans ((Fr3.ext s10 e10 f10).trans (Ext.of_same w11))).trans Ext.upd
    · refine ⟨⟨_, rfl⟩, vs9, ds9, z9, eCh9, ep9, eL9, dp9, Nat.le_succ_of_le hl9, hR9, s9.mono ?_, f9, x9⟩
      rw [Nat.succ_mul]
      omega
  · rintro σ H9 ⟨⟨x4, rfl⟩, vs9, ds9, z9, eCh9, ep9, eL9, dp9, hl9, hR9, s9, f9, x9⟩
    have hl9' : ds9.length ≤ 3 := by omega
    have hb3 : (zs.map V.str).length * kc ≤ 3 * kc := Nat.mul_le_mul_right _ hz3
    refine ⟨_, rfl, _, rfl, Ch, vs9, rfl, .inl ⟨SqL.of eCh9, fun t nt => ⟨(by show 2 ≤ sizeLine; decide), fun T nT => ?_⟩⟩⟩
    have wt := same_new nt (.tup vs9)
    have at_ : (upd H9 t (.tup vs9)) t = some (.tup vs9) := upd_same
    have s10 := s9.lay nt (.tup vs9)
    have nt6 : H6 t = none := x9 t nt
    generalize (upd H9 t (.tup vs9)) = H10 at nT wt at_ s10 ⊢
    have wT := same_new nT (.tup [V.ref l, V.ref t])
    have aT : (upd H10 T (.tup [V.ref l, V.ref t])) T = some (.tup [V.ref l, V.ref t]) := upd_same
    have s11 := s10.lay nT (.tup [V.ref l, V.ref t])
    have nT6 : H6 T = none := x9 T (wt.free nT)
    generalize (upd H10 T (.tup [V.ref l, V.ref t])) = H11 at wT aT s11 ⊢
    have w911 := wt.trans wT
    have f511 : Fr3 S C L H5 H11 := f9.trans (fun a o _ _ _ h => w911 a o h)
    have x16 : Ext H H6 := x1.trans (Fr.ext s6 f16)
    have dl : Dp K (newp H H11) (.ref l) (.tuple ds) := Dp_mono ((newp_fr3 s1 (by rw [e1]; exact Option.some_ne_none _) f511).trans (newp_left x1)) d5
    have dt : Dp K (newp H H11) (.ref t) (.tuple ds9) := Dp_mono (newp_left x16) (new_tup nt6 (wT _ _ at_) (DpAll_mono (newp_right w911) dp9))
    have dT : Dp K (newp H H11) (.ref T) (.tuple [.tuple ds, .tuple ds9]) := new_tup (x16 T nT6) aT (.cons dl (.cons dt .nil))
    have n9 : Nice (dc + 2) (3 * (bc + 92) + 3) (.tuple ds9) := by
      have := Nat.mul_le_mul_right (bc + 90 + 2) hl9'
      exact (nices_of fun d hd => (hR9 d hd).1).tup.mono (by omega) (by omega)
    refine q _ _ H11 z9 dT ?_ (sh_mk hP4 (List.all_eq_true.mpr fun d hd => (hR9 d hd).2.1) fun d hd => (hR9 d hd).2.2) (s11.mono (by omega)) ((f1.trans (Fr3.of f15)).trans f511) (w911 _ _ eL9)
    have := (((Nices.one n5).mono (n' := 4 + 3 * m) (by omega) (Nat.le_refl _)).append ((Nices.one n9).mono (n' := 4 + 3 * m) (by omega) (Nat.le_refl _))).tup
    exact this.mono (by omega) (by omega)
theorem ok__law_wide_tree (m : Nat) : FnOk P w K mg base CX0 (m+5) Z.f__law_wide_tree Z.fd__law_wide_tree ["_law_stream", "_law_left", "_law_deep"] (spWide K m) := by
  induction m with
  | zero => exact wide_step Z 0 0 (fun _ _ _ _ => False) ⟨fun _ _ _ _ h => h.elim, fun _ _ _ _ _ _ _ _ _ _ _ _ _ h => h.elim⟩ (Nat.zero_le _) (fun m' h => nomatch h)
  | succ m ih => exact wide_step Z (m + 1) (m + 5) _ ih (Nat.le_refl _) fun m' h => by rw [Nat.succ.inj h]

/-! ### _law_under, _law_any_tree -/
theorem ok__law_under : FnOk P w K mg base CX0 5 Z.f__law_under Z.fd__law_under ["_law_stream", "_law_part", "_law_levels"] (spUnder K) := by
  refine Z.D__law_under.F.ok sc__law_under (fun vs H Q E h => ?_) (fun cdv A outer s H vs Q E hr h => ?_)
  · obtain ⟨S, C, n, m, nb, dd, bb, B, v, d, rfl, _⟩ := h
    rfl
  obtain ⟨S, C, n, m, nb, dd, bb, B, v, d, rfl, hm, st, hn, sB, xB, hd, nd, hdd, q⟩ := h
  refine ⟨_, (pss_cons (ps_for PassesOwn.never rfl (pi_range1 (by rfl) Z.T.range (pa_cons (pv 2) pa_nil)) (pg_name (i := 3) sc__law_under.nd rfl (.inl rfl)) (pss_one (ps_set (i := 1) sc__law_under.nd rfl (.inl rfl) (pe_tup (pa_cons (pe_call (ok__law_props Z) (hr.mono (by decide)) (by rfl) Z.D__law_props.m Z.D__law_props.F.kp Z.D__law_props.b .nil pass0 (pa_cons (pv 0) pa_nil)) (pa_cons (pe_tup (pa_cons (pe_tup (pa_cons (pe_call (ok__law_letters Z) (hr.mono (by decide)) (by rfl) Z.D__law_letters.m Z.D__law_letters.F.kp Z.D__law_letters.b .nil pass0 (pa_cons (pv 0) (pa_cons (pe_op op_add pe_int (pe_call (ok__law_draw Z) (hr.mono (by decide)) (by rfl) Z.D__law_draw.m Z.D__law_draw.F.kp Z.D__law_draw.b .nil pass0 (pa_cons (pv 0) (pa_cons pe_int pa_nil)))) pa_nil))) (pa_cons (pv 1) pa_nil))) pa_nil)) pa_nil))))))
    (pss_one (ps_ret (pv 1)))), ?_⟩
  refine ⟨_, rfl, (m : Int), rfl, by omega, by omega, for_range (lo := 0) (n := m) (fun i σ H' => ∃ (v' : V) (d' : PyData), (∃ x3, σ = [some (.ref S), some v', some (.int (m : Int)), x3]) ∧ Dp K (newp B H') v' d' ∧ Nice (dd + 3 * i) (bb + i * 13300) d' ∧ (∀ j, treeD (j + i) d' = treeD j d) ∧ (∀ j, shD (j + i) d' = shD j d) ∧ Strm S C (n + i * 230) H' ∧ Fr S C H H' ∧ Ext B H')
    ⟨v, d, ⟨_, rfl⟩, hd, nd.mono (Nat.le_refl _) (by omega), fun j => rfl, fun j => rfl, by rw [Nat.zero_mul]; exact st, fun _ _ h => h, xB⟩ ?_ ?_⟩
  · rintro i σ H1 hi ⟨v1, d1, ⟨x3, rfl⟩, h1, n1, t1, t1s, s1, f1, x1⟩
    have him : i * 230 + 230 ≤ m * 230 := by omega
    refine ⟨_, rfl, S, C, _, [], rfl, rfl, s1, by omega, fun vp dp H2 hp ⟨np, pp, pv⟩ s2 f2 => ?_⟩
    refine ⟨_, rfl, _, rfl, S, C, _, 3, rfl, s2, by omega, by decide, by decide, fun r H3 r0 r1 s3 f3 => ?_⟩
    have er : [V.ref S, V.int (1 + r)] = [V.ref S, V.int (((1 + r).toNat : Nat) : Int)] := by rw [show (((1 + r).toNat : Nat) : Int) = 1 + r by omega]
    refine ⟨_, _, rfl, rfl, S, C, _, (1 + r).toNat, er, by omega, s3, by omega, fun x H4 hx az s4 f4 => ⟨_, rfl, (by show 2 ≤ sizeLine; decide), fun T1 m1 => ⟨(by show 1 ≤ sizeLine; decide), fun T2 m2 => ⟨(by show 2 ≤ sizeLine; decide), fun T3 m3 => ?_⟩⟩⟩⟩
    have f14 : Fr S C H1 H4 := (f2.trans f3).trans f4
    have w1 := same_new m1 (.tup [V.str x, v1])
    have a1 : (upd H4 T1 (.tup [V.str x, v1])) T1 = _ := upd_same
    generalize (upd H4 T1 (.tup [V.str x, v1])) = G1 at m2 m3 w1 a1 ⊢
    have w2 := same_new m2 (.tup [V.ref T1])
    have a2 : (upd G1 T2 (.tup [V.ref T1])) T2 = _ := upd_same
    generalize (upd G1 T2 (.tup [V.ref T1])) = G2 at m3 w2 a2 ⊢
    have w3 := same_new m3 (.tup [vp, V.ref T2])
    have a3 : (upd G2 T3 (.tup [vp, V.ref T2])) T3 = _ := upd_same
    generalize (upd G2 T3 (.tup [vp, V.ref T2])) = G3 at w3 a3 ⊢
    have w13 := (w1.trans w2).trans w3
    have f1G : Fr S C H1 G3 := f14.trans (Fr.of_same w13)
    have x4 : Ext B H4 := x1.trans (Fr.ext s4 f14)
    have e1 : B T1 = none := x4 T1 m1
    have e2 : B T2 = none := x4 T2 (w1.free m2)
    have e3 : B T3 = none := x4 T3 ((w1.trans w2).free m3)
    have g1 : Dp K (newp B G3) v1 d1 := Dp_mono (newp_fr sB f1G) h1
    have gp : Dp K (newp B G3) vp dp := Dp_mono ((newp_left x1).trans (newp_fr sB ((f3.trans f4).trans (Fr.of_same w13)))) hp
    have gT : Dp K (newp B G3) (.ref T3) (.tuple [dp, .tuple [.tuple [.str x, d1]]]) :=
      new_tup e3 a3 (.cons gp (.cons (new_tup e2 (w3 _ _ a2) (.cons (new_tup e1 (w3 _ _ (w2 _ _ a1)) (.cons (.str _) (.cons g1 .nil))) .nil)) .nil))
    have nx : nameD (.str x) = true := az_name az (by omega) (by omega)
    refine ⟨_, _, ⟨_, rfl⟩, gT, ?_, fun j => ?_, fun j => ?_, (s4.same w13).mono (by omega), f1.trans f1G, x4.trans (Ext.of_same w13)⟩
    · have c1 := ((Nices.one (Nice.str (n := dd + 3 * i) (b := 82) az.ok (by omega))).append (.one n1)).tup
      have c2 := (Nices.one c1).tup
      have c3 := ((Nices.one (np.mono (n' := dd + 3 * i + 2) (by omega) (Nat.le_refl _))).append (.one c2)).tup
      exact c3.mono (by omega) (by omega)
    · rw [← Nat.add_assoc, under_tree pp pv nx]
      exact t1 j
    · rw [← Nat.add_assoc, under_sh pp]
      exact t1s j
  · rintro σ H1 ⟨v1, d1, ⟨x3, rfl⟩, h1, n1, t1, t1s, s1, f1, x1⟩
    exact ⟨_, rfl, q v1 d1 H1 h1 n1 t1 t1s s1 f1⟩
theorem ok__law_any_tree : FnOk P w K mg base CX0 9 Z.f__law_any_tree Z.fd__law_any_tree ["_law_stream"] (spGet K 10000 (fun us => us = []) (fun d => Nice 29 800000 d ∧ shD 9 d = true)) := by
  refine Z.D__law_any_tree.F.ok sc__law_any_tree (fun vs H Q E h => ?_) (fun cdv A outer s H vs Q E hr h => ?_)
  · obtain ⟨S, C, n, us, rfl, rfl, _⟩ := h
    rfl
  obtain ⟨S, C, n, us, rfl, rfl, st, hn, q⟩ := h
  refine ⟨_, (pss_cons (ps_set (i := 1) sc__law_any_tree.nd rfl (.inl rfl) (pe_call (ok__law_wide_tree Z 3) (hr.mono (by decide)) (by rfl) Z.D__law_wide_tree.m Z.D__law_wide_tree.F.kp Z.D__law_wide_tree.b .nil pass0 (pa_cons (pv 0) (pa_cons (pe_lst (pa_cons (pe_op op_add pe_int (pe_call (ok__law_draw Z) (hr.mono (by decide)) (by rfl) Z.D__law_draw.m Z.D__law_draw.F.kp Z.D__law_draw.b .nil pass0 (pa_cons (pv 0) (pa_cons pe_int pa_nil)))) pa_nil)) (pa_cons pe_int pa_nil)))))
    (pss_one (ps_ret (pe_ifExp (pt_cmpR op_eq (pe_call (ok__law_draw Z) (hr.mono (by decide)) (by rfl) Z.D__law_draw.m Z.D__law_draw.F.kp Z.D__law_draw.b .nil pass0 (pa_cons (pv 0) (pa_cons pe_int pa_nil))) pe_int (nomark _)) (pe_call (ok__law_under Z) (hr.mono (by decide)) (by rfl) Z.D__law_under.m Z.D__law_under.F.kp Z.D__law_under.b .nil pass0 (pa_cons (pv 0) (pa_cons (pv 1) (pa_cons (pe_call (ok__law_draw Z) (hr.mono (by decide)) (by rfl) Z.D__law_draw.m Z.D__law_draw.F.kp Z.D__law_draw.b .nil pass0 (pa_cons (pv 0) (pa_cons pe_int pa_nil))) pa_nil)))) (pv 1))))), ?_⟩
  refine ⟨_, rfl, _, rfl, S, C, n, 12, rfl, st, by omega, by decide, by decide, fun r H1 r0 r1 s1 f1 => ⟨_, _, rfl, rfl, (by show 1 ≤ sizeLine; decide), fun L nL => ?_⟩⟩
  have LS := s1.neS nL
  have LC := s1.neC nL
  have kw : kW 3 = 8400 := by decide
  have s2 := s1.lay nL (.lst [V.int (1 + r)])
  refine ⟨S, C, L, _, 1 + r, rfl, s2, LS, LC, upd_same, by omega, fun v d H2 z' hv nv sv s3 f3 e3 => ?_⟩
  have f13 : Fr S C H1 H2 := Fr3.drop (fun a o h1 h2 h3 h => f3 a o h1 h2 h3 ((upd_ne h3).trans h)) nL
  have f03 : Fr S C H H2 := f1.trans f13
  have x2 : Ext H H2 := f03.ext s3
  have hv0 : Dp K (newp H H2) v d := Dp_mono ((newp_left Ext.upd).trans (newp_left (f1.ext s1))) hv
  refine ⟨_, rfl, S, C, _, 4, rfl, s3, by omega, by decide, by decide, fun r2 H3 r0 r1 s4 f4 => ⟨rfl, _, rfl, ite2 (fun c => ?_) (fun c => ?_)⟩⟩
  · refine ⟨_, rfl, _, rfl, _, rfl, S, C, _, 6, rfl, s4, by omega, by decide, by decide, fun r3 H4 r0 r1 s5 f5 => ?_⟩
    have er : [V.ref S, v, V.int r3] = [V.ref S, v, V.int ((r3.toNat : Nat) : Int)] := by rw [show ((r3.toNat : Nat) : Int) = r3 by omega]
    have hr5 : r3.toNat ≤ 5 := by omega
    refine ⟨S, C, _, r3.toNat, n, _, _, H, v, d, er, by omega, s5, by omega, st, x2.trans (Fr.ext s5 (f4.trans f5)), Dp_mono (newp_fr st (f4.trans f5)) hv0, nv, by omega, fun v' d' H5 hv' nv' _ tv' s6 f6 => ?_⟩
    exact q v' d' H5 hv' ⟨nv'.mono (by omega) (by
      have : bW 3 = 422700 := by decide
      omega), by
      have e1 : shD (4 + r3.toNat) d' = true := (tv' 4).trans sv
      have e2 := sh_more (5 - r3.toNat) e1
      rwa [show 4 + r3.toNat + (5 - r3.toNat) = 9 by omega] at e2⟩ (s6.mono (by omega)) (((f03.trans f4).trans f5).trans f6)
  · exact ⟨_, rfl, q v d H3 (Dp_mono (newp_fr st f4) hv0) ⟨nv.mono (by decide) (by decide), sh_more 5 sv⟩ (s4.mono (by omega)) (f03.trans f4)⟩

/-! ### _law_bent_pairs -/
theorem ok__law_bent_pairs : FnOk P w K mg base CX0 6 Z.f__law_bent_pairs Z.fd__law_bent_pairs ["_law_stream", "_law_pairs"] (spBentP K) := by
  refine Z.D__law_bent_pairs.F.ok sc__law_bent_pairs (fun vs H Q E h => ?_) (fun cdv A outer s H vs Q E hr h => ?_)
  · obtain ⟨S, C, n, nb, B, v, ds, rfl, _⟩ := h
    rfl
  obtain ⟨S, C, n, nb, B, v, ds, rfl, st, hn, sB, xB, hd, od, pr, hl, q⟩ := h
  obtain ⟨a, xs, rfl, sx, dx⟩ : ∃ a xs, v = .ref a ∧ SqT K (newp B H) a xs ∧ DpAll K (newp B H) xs ds := by
    cases hd with
    | tup sx hx => exact ⟨_, _, rfl, sx, hx⟩
  have lx : xs.length = ds.length := DpAll_len dx
  refine ⟨_, (pss_cons (ps_if (pt_cmpR (eqDK (K := K) hr.units) (pv 1) (pe_tup pa_nil) (nomark _)) (pss_one (ps_ret (pe_ix (ixL (K := K)) (pe_lst (pa_cons (pe_tup pa_nil) (pa_cons (pe_lst pa_nil) (pa_cons pe_non (pa_cons pe_str (pa_cons (pe_tup (pa_cons (pe_tup pa_nil) pa_nil)) (pa_cons pe_int pa_nil))))))) (pe_call (ok__law_draw Z) (hr.mono (by decide)) (by rfl) Z.D__law_draw.m Z.D__law_draw.F.kp Z.D__law_draw.b .nil pass0 (pa_cons (pv 0) (pa_cons pe_int pa_nil))) (fun _ _ => rfl)))) pss_nil)
    (pss_cons (ps_set (i := 2) sc__law_bent_pairs.nd rfl (.inr rfl) (pe_call (ok__law_draw Z) (hr.mono (by decide)) (by rfl) Z.D__law_draw.m Z.D__law_draw.F.kp Z.D__law_draw.b .nil pass0 (pa_cons (pv 0) (pa_cons (pe_callB (lenK (K := K)) (by rfl) Z.T.len (by decide +kernel) (pa_cons (pv 1) pa_nil)) pa_nil))))
    (pss_cons (ps_asg (pe_ix (ixT (K := K)) (pv 1) (pv 2) (fun _ _ => rfl)) (pg_tup rfl (pgs_cons (pg_name (i := 3) sc__law_bent_pairs.nd rfl (.inl rfl)) (pgs_cons (pg_name (i := 4) sc__law_bent_pairs.nd rfl (.inl rfl)) pgs_nil))))
    (pss_cons (ps_set (i := 5) sc__law_bent_pairs.nd rfl (.inl rfl) (pe_lst (pa_cons (pe_lst (pa_cons (pv 3) (pa_cons (pv 4) pa_nil))) (pa_cons (pe_tup (pa_cons (pv 3) pa_nil)) (pa_cons (pe_tup (pa_cons (pv 3) (pa_cons (pv 4) (pa_cons (pv 4) pa_nil)))) (pa_cons (pe_tup (pa_cons (pe_call (ok__law_near_name Z) (hr.mono (by decide)) (by rfl) Z.D__law_near_name.m Z.D__law_near_name.F.kp Z.D__law_near_name.b .nil pass0 (pa_cons (pv 0) pa_nil)) (pa_cons (pv 4) pa_nil))) pa_nil))))))
    (pss_cons (ps_set (i := 5) sc__law_bent_pairs.nd rfl (.inl rfl) (pe_op op_cat (pv 5) (pe_lst (pa_cons (pe_tup (pa_cons (pv 3) (pa_cons (pe_call (ok__law_near_value Z) (hr.mono (by decide)) (by rfl) Z.D__law_near_value.m Z.D__law_near_value.F.kp Z.D__law_near_value.b .nil pass0 (pa_cons (pv 0) pa_nil)) pa_nil))) (pa_cons (pe_tup (pa_cons (pv 3) (pa_cons (pe_call (ok__law_thing Z 2) (hr.mono (by decide)) (by rfl) Z.D__law_thing.m Z.D__law_thing.F.kp Z.D__law_thing.b .nil pass0 (pa_cons (pv 0) (pa_cons pe_int pa_nil))) pa_nil))) (pa_cons pe_non (pa_cons (pv 3) pa_nil)))))))
    (pss_cons (ps_setLc (i := 5) (own := [("_law_one", 6)]) (g := gName 6) (tt := tYes) rfl sc__law_bent_pairs.nd rfl rfl (sw_true rfl rfl rfl (by decide +kernel)) (pi_list (pv 5)) (blkOk_by (own := [("_law_one", 6)]) (N := ["_law_stream", "_law_pairs", "_law_at", "_law_name", "_law_value_here", "_law_some", "_law_one"]) (sc := defScope s__law_bent_pairs) (by decide +kernel)) (fun _ _ _ _ _ => (pg_name (i := 6) sc__law_bent_pairs.nd rfl (.inl rfl))) (fun _ _ _ _ _ => pts_nil) (fun _ _ _ _ _ => (pe_op (caA (K := K)) (pe_op (caA (K := K)) (pe_slice (slA (K := K)) (pv 1) po_none (po_some (pv 2))) (pe_tup (pa_cons (pv 6) pa_nil))) (pe_slice (slA (K := K)) (pv 1) (po_some (pe_op op_add (pv 2) pe_int)) po_none))))
    (pss_one (ps_ret (pe_ix (ixL (K := K)) (pe_op op_cat (pv 5) (pe_lst (pa_cons (pe_callTy (lstK (K := K)) (by rfl) Z.T.list (by decide +kernel) (pa_cons (pv 1) pa_nil)) (pa_cons (pe_op (caA (K := K)) (pv 1) (pe_slice (slA (K := K)) (pv 1) (po_some (pv 2)) (po_some (pe_op op_add (pv 2) pe_int)))) (pa_cons (pe_revT (pv 1)) pa_nil))))) (pe_call (ok__law_draw Z) (hr.mono (by decide)) (by rfl) Z.D__law_draw.m Z.D__law_draw.F.kp Z.D__law_draw.b .nil pass0 (pa_cons (pv 0) (pa_cons pe_int pa_nil))) (fun _ _ => rfl)))))))))), ?_⟩
  refine ⟨_, rfl, (by show 0 ≤ sizeLine; decide), fun p np => ?_⟩
  have w1 := same_new np (.tup [])
  have a1 : (upd H p (.tup [])) p = _ := upd_same
  have s1 := st.lay np (.tup [])
  have x1 : Ext H _ := Ext.of_same w1
  generalize (upd H p (.tup [])) = H1 at w1 a1 s1 x1 ⊢
  have xB1 : Ext B H1 := xB.trans x1
  have hd1 : Dp K (newp B H1) (.ref a) (.tuple ds) := Dp_mono (newp_right w1) hd
  have ok0 : SeqAt.shaped (.tuple []) = true := by decide
  refine ⟨_, _, Dp_mono newp_same hd1, .tup (SqT.of a1) .nil, od.shaped, ok0, _, rfl, ite2 (fun c => ?_) (fun c => ?_)⟩
  · have e0 : ds = [] := by
      cases ds with
      | nil => rfl
      | cons x y => exact absurd c (by simp [PyData.eqv, PyData.eqvAll])
    refine ⟨(by show 0 ≤ sizeLine; decide), fun p1 n1 => ⟨(by show 0 ≤ sizeLine; decide), fun p2 n2 => ⟨(by show 0 ≤ sizeLine; decide), fun p3 n3 => ⟨(by show 1 ≤ sizeLine; decide), fun p4 n4 => ⟨(by show 6 ≤ sizeLine; decide), fun p5 n5 => ?_⟩⟩⟩⟩⟩
    have v1 := same_new n1 (.tup [])
    have b1 : (upd H1 p1 (.tup [])) p1 = _ := upd_same
    generalize (upd H1 p1 (.tup [])) = H2 at n2 n3 n4 n5 v1 b1 ⊢
    have v2 := same_new n2 (.lst [])
    have b2 : (upd H2 p2 (.lst [])) p2 = _ := upd_same
    generalize (upd H2 p2 (.lst [])) = H3 at n3 n4 n5 v2 b2 ⊢
    have v3 := same_new n3 (.tup [])
    have b3 : (upd H3 p3 (.tup [])) p3 = _ := upd_same
    generalize (upd H3 p3 (.tup [])) = H4 at n4 n5 v3 b3 ⊢
    have v4 := same_new n4 (.tup [.ref p3])
    have b4 : (upd H4 p4 (.tup [.ref p3])) p4 = _ := upd_same
    generalize (upd H4 p4 (.tup [.ref p3])) = H5 at n5 v4 b4 ⊢
    have v5 := same_new n5 (.lst [.ref p1, .ref p2, .non, .str "", .ref p4, .int 0])
    have b5 : (upd H5 p5 (.lst [.ref p1, .ref p2, .non, .str "", .ref p4, .int 0])) p5 = _ := upd_same
    have v14 := ((v1.trans v2).trans v3).trans v4
    have s5 := s1.same v14
    have p5S := s5.neS n5
    have p5C := s5.neC n5
    have f5 : Fr S C H _ := Fr.of_same (w1.trans (v14.trans v5))
    have s6 := s5.same v5
    have B1 := xB1 p1 n1
    have B2 := xB1 p2 (v1.free n2)
    have B3 := xB1 p3 ((v1.trans v2).free n3)
    have B4 := xB1 p4 (((v1.trans v2).trans v3).free n4)
    have dps : DpAll K (newp B (upd H5 p5 (.lst [.ref p1, .ref p2, .non, .str "", .ref p4, .int 0]))) [.ref p1, .ref p2, .non, .str "", .ref p4, .int 0] [.tuple [], .list [], .none, .str "", .tuple [.tuple []], .int 0] :=
      .cons (new_tup B1 (v5 _ _ (v4 _ _ (v3 _ _ (v2 _ _ b1)))) .nil) (.cons (new_lst B2 (v5 _ _ (v4 _ _ (v3 _ _ b2))) .nil) (.cons .non (.cons (.str _)
        (.cons (new_tup B4 (v5 _ _ b4) (.cons (new_tup B3 (v5 _ _ (v4 _ _ b3)) .nil) .nil)) (.cons (.int _) .nil)))))
    have liv : LivA (newp B (upd H5 p5 (.lst [.ref p1, .ref p2, .non, .str "", .ref p4, .int 0]))) [.ref p1, .ref p2, .non, .str "", .ref p4, .int 0] [.tuple [], .list [], .none, .str "", .tuple [.tuple []], .int 0] :=
      .cons (.not rfl) (.cons (.lst ((newp_of B2).trans (v5 _ _ (v4 _ _ (v3 _ _ b2)))) rfl) (.cons (.not rfl) (.cons (.not rfl) (.cons (.not rfl) (.cons (.not rfl) .nil)))))
    generalize (upd H5 p5 (.lst [.ref p1, .ref p2, .non, .str "", .ref p4, .int 0])) = H6 at b5 f5 s6 dps liv ⊢
    refine ⟨_, rfl, S, C, n, 6, rfl, s6, by omega, by decide, by decide, fun r H7 r0 r1 s7 f7 => ?_⟩
    obtain ⟨v', d', e1, hd', hv', lv'⟩ := DpAll_atL (DpAll_mono (newp_fr sB f7) dps) (LivA.mono (newp_fr sB f7) liv) r0 r1
    have all6 : ∀ d ∈ ([.tuple [], .list [], .none, .str "", .tuple [.tuple []], .int 0] : List PyData), fine d = true ∧ d.depth ≤ 2 ∧ big d ≤ 2000 := by
      intro d h
      simp only [List.mem_cons, List.not_mem_nil, or_false] at h
      rcases h with rfl | rfl | rfl | rfl | rfl | rfl <;> decide +kernel
    obtain ⟨o1, o2, o3⟩ := all6 d' hd'
    exact ⟨p5, _, r, v', rfl, rfl, SqL.of (cut_keep f7 p5S p5C b5), e1, q v' d' H7 hv' o1 (by omega) (fun _ => o2) (by omega) lv' (s7.mono (by omega)) (f5.trans f7)⟩
  · have ne : 0 < ds.length := by
      cases ds with
      | nil => exact absurd rfl c
      | cons x y => exact Nat.succ_pos _
    have sx1 : SqT K (newp B H1) a xs := Same.seqT (newp_right w1) sx
    have dx1 := DpAll_mono (newp_right (H := B) w1) dx
    refine ⟨_, rfl, _, rfl, a, xs, rfl, .inr (Same.seqT newp_same sx1), S, C, n, (xs.length : Int), rfl, s1, by omega, by omega, by omega, fun r H2 r0 r1 s2 f2 => ?_⟩
    obtain ⟨i0, rfl⟩ : ∃ i0 : Nat, r = (i0 : Int) := ⟨r.toNat, by omega⟩
    obtain ⟨ve, e1, e2⟩ := at_int r0 r1
    rw [Int.toNat_natCast] at e2
    have hi0 : i0 < ds.length := by omega
    have dx2 : DpAll K (newp B H2) xs ds := DpAll_mono (newp_fr sB f2) dx1
    have sx2 : SqT K (newp B H2) a xs := Same.seqT (newp_fr sB f2) sx1
    obtain ⟨e, g1, g2⟩ := DpAll_get i0 dx2 e2
    obtain ⟨dn, dv, rfl⟩ := pair_is (List.all_eq_true.mp pr e (List.mem_of_getElem? g1))
    obtain ⟨b, x, y, rfl, sb, hx2, hy2⟩ : ∃ b x y, ve = .ref b ∧ SqT K (newp B H2) b [x, y] ∧ Dp K (newp B H2) x dn ∧ Dp K (newp B H2) y dv := by
      cases g2 with
      | @tup _ ys _ sy hy =>
        cases hy with
        | cons h1 hr =>
          cases hr with
          | cons h2 hr2 =>
            cases hr2
            exact ⟨_, _, _, rfl, sy, h1, h2⟩
    refine ⟨_, rfl, _, rfl, a, xs, (i0 : Int), _, rfl, rfl, Same.seqT newp_same sx2, e1, b, [x, y], rfl, Same.seqT newp_same sb, rfl, _, _, rfl, _, _, rfl, rfl, ?_⟩
    refine ⟨_, rfl, _, rfl, (by show 2 ≤ sizeLine; decide), fun p1 n1 => ⟨_, rfl, (by show 1 ≤ sizeLine; decide), fun p2 n2 => ⟨_, rfl, _, rfl, _, rfl, (by show 3 ≤ sizeLine; decide), fun p3 n3 => ?_⟩⟩⟩
    have xB2 : Ext B H2 := xB1.trans (Fr.ext s2 f2)
    have t1 : Dp K (newp B (upd H2 p1 (.lst [x, y]))) (.ref p1) (.list [dn, dv]) := lay_lst xB2 n1 (.cons hx2 (.cons hy2 .nil))
    have f3 : Fr S C H2 _ := Fr.lay n1 (.lst [x, y])
    have s3 := s2.lay n1 (.lst [x, y])
    generalize (upd H2 p1 (.lst [x, y])) = H3 at n2 n3 t1 f3 s3 ⊢
    have xB3 := xB2.trans (Fr.ext s3 f3)
    have hx3 := Dp_mono (newp_fr sB f3) hx2
    have hy3 := Dp_mono (newp_fr sB f3) hy2
    have t2 : Dp K (newp B (upd H3 p2 (.tup [x]))) (.ref p2) (.tuple [dn]) := lay_tup xB3 n2 (.cons hx3 .nil)
    have f4 : Fr S C H3 _ := Fr.lay n2 (.tup [x])
    have s4 := s3.lay n2 (.tup [x])
    generalize (upd H3 p2 (.tup [x])) = H4 at n3 t2 f4 s4 ⊢
    have xB4 := xB3.trans (Fr.ext s4 f4)
    have hx4 := Dp_mono (newp_fr sB f4) hx3
    have hy4 := Dp_mono (newp_fr sB f4) hy3
    have t3 : Dp K (newp B (upd H4 p3 (.tup [x, y, y]))) (.ref p3) (.tuple [dn, dv, dv]) := lay_tup xB4 n3 (.cons hx4 (.cons hy4 (.cons hy4 .nil)))
    have f5 : Fr S C H4 _ := Fr.lay n3 (.tup [x, y, y])
    have s5 := s4.lay n3 (.tup [x, y, y])
    generalize (upd H4 p3 (.tup [x, y, y])) = H5 at t3 f5 s5 ⊢
    have xB5 := xB4.trans (Fr.ext s5 f5)
    refine ⟨_, rfl, S, C, n + 1, [], rfl, rfl, s5, by omega, fun vn dn' H6 hvn hnn s6 f6 => ⟨_, rfl, (by show 2 ≤ sizeLine; decide), fun p4 n4 => ⟨(by show 4 ≤ sizeLine; decide), fun p5 n5 => ?_⟩⟩⟩
    have xB6 := xB5.trans (Fr.ext s6 f6)
    have g56 := f5.trans f6
    have hx6 := Dp_mono (newp_fr sB g56) hx4
    have hy6 := Dp_mono (newp_fr sB g56) hy4
    have hvn6 : Dp K (newp B H6) vn dn' := Dp_mono (newp_left xB5) hvn
    have t4 : Dp K (newp B (upd H6 p4 (.tup [vn, y]))) (.ref p4) (.tuple [dn', dv]) := lay_tup xB6 n4 (.cons hvn6 (.cons hy6 .nil))
    have f7 : Fr S C H6 _ := Fr.lay n4 (.tup [vn, y])
    have s7 := s6.lay n4 (.tup [vn, y])
    generalize (upd H6 p4 (.tup [vn, y])) = H7 at n5 t4 f7 s7 ⊢
    have xB7 := xB6.trans (Fr.ext s7 f7)
    have f8 : Fr S C H7 _ := Fr.lay n5 (.lst [.ref p1, .ref p2, .ref p3, .ref p4])
    have s8 := s7.lay n5 (.lst [.ref p1, .ref p2, .ref p3, .ref p4])
    have b5 : (upd H7 p5 (.lst [.ref p1, .ref p2, .ref p3, .ref p4])) p5 = _ := upd_same
    have p5S := s7.neS n5
    have p5C := s7.neC n5
    generalize (upd H7 p5 (.lst [.ref p1, .ref p2, .ref p3, .ref p4])) = H8 at f8 s8 b5 ⊢
    have xB8 := xB7.trans (Fr.ext s8 f8)
    refine ⟨_, rfl, _, rfl, _, rfl, S, C, _, [], rfl, rfl, s8, by omega, fun vv dv' H9 hvv hnv s9 f9 => ⟨(by show 2 ≤ sizeLine; decide), fun p6 n6 => ⟨_, rfl, _, rfl, S, C, _, [.int 2], rfl, rfl, s9.lay n6 _, by show n + 1 + 30 + 260 + 47 ≤ _; omega, fun vt dt H11 hvt hnt s11 f11 => ⟨(by show 2 ≤ sizeLine; decide), fun p7 n7 => ⟨_, rfl, (by show 4 ≤ sizeLine; decide), fun p8 n8 => ?_⟩⟩⟩⟩⟩
    have xB9 := xB8.trans (Fr.ext s9 f9)
    have g69 := (f7.trans f8).trans f9
    have hx9 := Dp_mono (newp_fr sB g69) hx6
    have t6 : Dp K (newp B (upd H9 p6 (.tup [x, vv]))) (.ref p6) (.tuple [dn, dv']) := lay_tup xB9 n6 (.cons hx9 (.cons (Dp_mono (newp_left xB8) hvv) .nil))
    have f10 : Fr S C H9 _ := Fr.lay n6 (.tup [x, vv])
    have s10 := s9.lay n6 (.tup [x, vv])
    generalize (upd H9 p6 (.tup [x, vv])) = H10 at hvt s11 f11 t6 f10 s10 ⊢
    have xB10 := xB9.trans (Fr.ext s10 f10)
    have xB11 := xB10.trans (Fr.ext s11 f11)
    have g911 := f10.trans f11
    have hx11 := Dp_mono (newp_fr sB g911) hx9
    have t7 : Dp K (newp B (upd H11 p7 (.tup [x, vt]))) (.ref p7) (.tuple [dn, dt]) := lay_tup xB11 n7 (.cons hx11 (.cons (Dp_mono (newp_left xB10) hvt) .nil))
    have f12 : Fr S C H11 _ := Fr.lay n7 (.tup [x, vt])
    have s12 := s11.lay n7 (.tup [x, vt])
    generalize (upd H11 p7 (.tup [x, vt])) = H12 at n8 t7 f12 s12 ⊢
    have f13 : Fr S C H12 _ := Fr.lay n8 (.lst [.ref p6, .ref p7, .non, x])
    have s13 := s12.lay n8 (.lst [.ref p6, .ref p7, .non, x])
    have b8 : (upd H12 p8 (.lst [.ref p6, .ref p7, .non, x])) p8 = _ := upd_same
    generalize (upd H12 p8 (.lst [.ref p6, .ref p7, .non, x])) = H13 at f13 s13 b8 ⊢
    have g813 := (f9.trans (g911.trans f12)).trans f13
    refine ⟨p5, p8, _, _, rfl, rfl, cut_keep g813 p5S p5C b5, b8, (by show 8 ≤ sizeLine; decide), fun p9 n9 => ?_⟩
    have xB13 := xB8.trans (Fr.ext s13 g813)
    have f14 : Fr S C H13 _ := Fr.lay n9 (.lst [.ref p1, .ref p2, .ref p3, .ref p4, .ref p6, .ref p7, .non, x])
    have s14 := s13.lay n9 (.lst [.ref p1, .ref p2, .ref p3, .ref p4, .ref p6, .ref p7, .non, x])
    have b9 : (upd H13 p9 (.lst [.ref p1, .ref p2, .ref p3, .ref p4, .ref p6, .ref p7, .non, x])) p9 = _ := upd_same
    have p9S := s13.neS n9
    have p9C := s13.neC n9
    show gName 5 (.ref p9) _ (upd H13 p9 (.lst [.ref p1, .ref p2, .ref p3, .ref p4, .ref p6, .ref p7, .non, x])) _
    generalize (upd H13 p9 (.lst [.ref p1, .ref p2, .ref p3, .ref p4, .ref p6, .ref p7, .non, x])) = H14 at f14 s14 b9 ⊢
    have xB14 := xB13.trans (Fr.ext s14 f14)
    have g1214 := f13.trans f14
    have g1114 := f12.trans g1214
    have g1014 := f11.trans g1114
    have g714 := f8.trans (g813.trans f14)
    have g514 := (f6.trans f7).trans g714
    have g414 := f5.trans g514
    have g314 := f4.trans g414
    have g214 := f3.trans g314
    have some8 : DpAll K (newp B H14) [.ref p1, .ref p2, .ref p3, .ref p4, .ref p6, .ref p7, .non, x] [.list [dn, dv], .tuple [dn], .tuple [dn, dv, dv], .tuple [dn', dv], .tuple [dn, dv'], .tuple [dn, dt], .none, dn] :=
      .cons (Dp_mono (newp_fr sB g314) t1) (.cons (Dp_mono (newp_fr sB g414) t2) (.cons (Dp_mono (newp_fr sB g514) t3) (.cons (Dp_mono (newp_fr sB g714) t4)
        (.cons (Dp_mono (newp_fr sB g1014) t6) (.cons (Dp_mono (newp_fr sB g1214) t7) (.cons .non (.cons (Dp_mono (newp_fr sB g214) hx2) .nil)))))))
    have dx14 := DpAll_mono (newp_fr sB g214) dx2
    have sx14 : SqT K (newp B H14) a xs := Same.seqT (newp_fr sB g214) sx2
    have hd14 : Dp K (newp B H14) (.ref a) (.tuple ds) := .tup sx14 dx14
    have f014 : Fr S C H H14 := ((Fr.of_same w1).trans f2).trans g214
    have s14' : Strm S C (n + 400) H14 := s14.mono (by show n + 1 + 30 + 260 + 47 ≤ _; omega)
    clear t1 t2 t3 t4 t6 t7 f3 f4 f5 f6 f7 f8 f9 f10 f11 f12 f13 s3 s4 s5 s6 s7 s8 s9 s10 s11 s12 s13 s14 hx3 hy3 hx4 hy4 hx6 hy6 hx9 hx11 hvn hvv hvt hvn6 b5 b8 n1 n2 n3 n4 n5 n6 n7 n8 n9 g813 g1214 g1114 g1014 g714 g514 g414 g314 g911 g69 g56
    refine ⟨_, rfl, p9, rfl, ⟨_, SqL.of b9⟩, fun D nD => ?_⟩
    obtain ⟨G, xBG, gD, sG, sm, xG⟩ := side_ext sB xB14 nD (.lst [])
    have N : Nices (PyData.depthAll ds) (bigs ds) ds := ⟨od.fine, Nat.le_refl _, Nat.le_refl _⟩
    have Np := N.mem (List.mem_of_getElem? g1)
    have fp : fine dn = true ∧ fine dv = true := by
      have h := Np.fine
      simp only [fine, fines, Bool.and_true, Bool.and_eq_true] at h
      exact h
    have zp : dn.depth + 1 ≤ PyData.depthAll ds ∧ dv.depth + 1 ≤ PyData.depthAll ds := by
      have h := Np.depth
      simp only [PyData.depth, PyData.depthAll] at h
      omega
    have bp : big dn + big dv + 7 ≤ bigs ds := by
      have h := Np.big
      simp only [big, bigs] at h
      omega
    have Nn : Nice (PyData.depthAll ds - 1) (big dn) dn := ⟨fp.1, by omega, Nat.le_refl _⟩
    have Nv : Nice (PyData.depthAll ds - 1) (big dv) dv := ⟨fp.2, by omega, Nat.le_refl _⟩
    have Nn' : Nice 0 402 dn' := by
      obtain ⟨z, rfl, hz, oz⟩ := hnn
      exact Nice.str oz (by omega)
    have Nv' : Nice 4 40000 dv' := hnv
    have Nt : Nice 3 18936 dt := hnt
    have all8 : ∀ e ∈ ([.list [dn, dv], .tuple [dn], .tuple [dn, dv, dv], .tuple [dn', dv], .tuple [dn, dv'], .tuple [dn, dt], .none, dn] : List PyData), Nice (max (PyData.depthAll ds) 5) (2 * bigs ds + 41000) e := by
      have Z := PyData.depthAll ds
      intro e h
      simp only [List.mem_cons, List.not_mem_nil, or_false] at h
      have m1 : ∀ {b : Nat} {d : PyData}, Nice (PyData.depthAll ds - 1) b d → Nice (max (PyData.depthAll ds) 5 - 1) b d := fun h => h.mono (by omega) (Nat.le_refl _)
      have m2 : ∀ {k b : Nat} {d : PyData}, Nice k b d → k ≤ 4 → Nice (max (PyData.depthAll ds) 5 - 1) b d := fun h hk => h.mono (by omega) (Nat.le_refl _)
      rcases h with rfl | rfl | rfl | rfl | rfl | rfl | rfl | rfl
      · exact ((Nices.one (m1 Nn)).append (.one (m1 Nv))).lst.mono (by omega) (by omega)
      · exact (Nices.one (m1 Nn)).tup.mono (by omega) (by omega)
      · exact ((Nices.one (m1 Nn)).append ((Nices.one (m1 Nv)).append (.one (m1 Nv)))).tup.mono (by omega) (by omega)
      · exact ((Nices.one (m2 Nn' (by decide))).append (.one (m1 Nv))).tup.mono (by omega) (by omega)
      · exact ((Nices.one (m1 Nn)).append (.one (m2 Nv' (by decide)))).tup.mono (by omega) (by omega)
      · exact ((Nices.one (m1 Nn)).append (.one (m2 Nt (by decide)))).tup.mono (by omega) (by omega)
      · exact ⟨rfl, Nat.zero_le _, by show 5 ≤ _; omega⟩
      · exact Nn.mono (by omega) (by omega)
    have len2 := bigs_len ds
    have size2 : bigs ds + 3 ≤ sizeLine := od.big
    have take0 : (ds.take i0).length = i0 := by rw [List.length_take]; omega
    have drop0 : (ds.drop (i0 + 1)).length = ds.length - (i0 + 1) := List.length_drop ..
    refine lc_base (K := K) (G := G) (R := fun d => Nice (max (PyData.depthAll ds + 1) 6) (4 * bigs ds + 50000) d ∧ isLst d = false) s14' nD sG gD xG p9S p9C b9 (fun _ => rfl) (by show 8 ≤ 100000; decide) (fun i x3 H15 q3 hx3 s15 f15 x15 k15 => ?_) fun H15 vs15 ds15 e15 dp15 hl15 hR15 s15 f15 x15 => ?_
    · have sm15 := sm.trans (newp_fr sG f15)
      obtain ⟨d3, hd3, hv3⟩ := DpAll_get i (DpAll_mono sm15 some8) hx3
      have N3 := all8 d3 (List.mem_of_getElem? hd3)
      have hd15 := Dp_mono sm15 hd14
      refine ⟨_, rfl, _, rfl, _, rfl, take_by x15 hd15 fun v1 H16 h16 w16 => ⟨_, rfl, (by show 1 ≤ sizeLine; decide), fun T nT => ?_⟩⟩
      have x16 := x15.trans (Ext.of_same w16)
      have h3 := lay_tup x16 nT (.cons (Dp_mono (newp_right w16) hv3) .nil)
      have wT := same_new nT (.tup [x3])
      generalize (upd H16 T (.tup [x3])) = H17 at h3 wT ⊢
      have x17 := x16.trans (Ext.of_same wT)
      refine cat_by x17 (Dp_mono (newp_right wT) h16) h3 (by rw [take0]; show i0 + 1 ≤ sizeLine; omega) fun v2 H18 h18 w18 => ?_
      have x18 := x17.trans (Ext.of_same w18)
      have w1518 := (w16.trans wT).trans w18
      refine ⟨_, rfl, _, rfl, _, _, rfl, rfl, ((i0 + 1 : Nat) : Int), congrArg V.int (show (i0 : Int) + 1 = ((i0 + 1 : Nat) : Int) by omega), ?_⟩
      show rSlA K (.ref a) (some ((i0 + 1 : Nat) : Int)) none H18 (fun y H2 => rCatA K v2 y H2 q3)
      refine drop_by (i := i0 + 1) x18 (Dp_mono (newp_right w1518) hd15) (by omega) fun v3 H19 h19 w19 => ?_
      have x19 := x18.trans (Ext.of_same w19)
      refine cat_by x19 (Dp_mono (newp_right w19) h18) h19 (by rw [List.length_append, take0, drop0]; show i0 + 1 + _ ≤ sizeLine; omega) fun v4 H20 h20 w20 => ?_
      have wAll := (w1518.trans w19).trans w20
      refine k15 v4 _ H20 h20 ?_ (s15.same wAll) (Fr.of_same wAll)
      refine ⟨?_, rfl⟩
      exact ((((N.take i0).mono (Nat.le_max_left _ 5) (Nat.le_refl _)).append (.one N3)).append ((N.drop (i0 + 1)).mono (Nat.le_max_left _ 5) (Nat.le_refl _))).tup.mono (by omega) (by omega)
    · have neS := s14'.neS nD
      have neC := s14'.neC nD
      have xB15 := xB14.trans (Fr.ext s15 f15)
      have hd15 : Dp K (newp B H15) (.ref a) (.tuple ds) := Dp_mono (newp_fr sB f15) hd14
      have dx15 := DpAll_mono (newp_fr sB f15) dx14
      have sx15 := Same.seqT (newp_fr sB f15) sx14
      have dpB : DpAll K (newp B H15) vs15 ds15 := DpAll_mono (newp_left xBG) dp15
      refine ⟨_, rfl, _, rfl, a, xs, rfl, .inr (Same.seqT newp_same sx15), fun l1 m1 => ?_⟩
      have u1 : Dp K (newp B (upd H15 l1 (.lst xs))) (.ref l1) (.list ds) := lay_lst xB15 m1 dx15
      have w1 := same_new m1 (.lst xs)
      have el1 : newp B (upd H15 l1 (.lst xs)) l1 = some (.lst xs) := (newp_of (xB15 l1 m1)).trans upd_same
      generalize (upd H15 l1 (.lst xs)) = H16 at u1 w1 el1 ⊢
      have x16 := xB15.trans (Ext.of_same w1)
      have hd16 := Dp_mono (newp_right w1) hd15
      refine ⟨_, rfl, _, rfl, _, rfl, _, rfl, _, rfl, _, _, rfl, rfl, ((i0 + 1 : Nat) : Int), congrArg V.int (show (i0 : Int) + 1 = ((i0 + 1 : Nat) : Int) by omega), mid_by x16 hd16 (by omega) (by omega) fun v2 H17 h17 w2 => ?_⟩
      have x17 := x16.trans (Ext.of_same w2)
      have len3 : ((ds.drop i0).take (i0 + 1 - i0)).length ≤ 1 := by
        rw [List.length_take]; omega
      refine cat_by x17 (Dp_mono (newp_right w2) hd16) h17 (by omega) fun v3 H18 h18 w3 => ?_
      have x18 := x17.trans (Ext.of_same w3)
      have w13 := (w1.trans w2).trans w3
      refine ⟨_, rfl, a, xs, rfl, Same.seqT newp_same (Same.seqT (newp_right w13) sx15), by omega, fun p10 n10 => ⟨(by show 3 ≤ sizeLine; decide), fun p11 n11 => ?_⟩⟩
      have u3 : Dp K (newp B (upd H18 p10 (.tup xs.reverse))) (.ref p10) (.tuple ds.reverse) := lay_tup x18 n10 (DpAll_rev (DpAll_mono (newp_right w13) dx15))
      have w4 := same_new n10 (.tup xs.reverse)
      generalize (upd H18 p10 (.tup xs.reverse)) = H19 at n11 u3 w4 ⊢
      have w5 := same_new n11 (.lst [.ref l1, v3, .ref p10])
      have b11 : (upd H19 p11 (.lst [.ref l1, v3, .ref p10])) p11 = _ := upd_same
      generalize (upd H19 p11 (.lst [.ref l1, v3, .ref p10])) = H20 at w5 b11 ⊢
      have w1520 := (w13.trans w4).trans w5
      have l15 : vs15.length = 8 := by rw [DpAll_len dp15, hl15]; rfl
      refine ⟨D, p11, _, _, rfl, rfl, w1520 _ _ e15, b11, (by rw [l15]; show 11 ≤ sizeLine; decide), fun p12 n12 => ?_⟩
      have w6 := same_new n12 (.lst (vs15 ++ [.ref l1, v3, .ref p10]))
      have b12 : (upd H20 p12 (.lst (vs15 ++ [.ref l1, v3, .ref p10]))) p12 = _ := upd_same
      have s20 := s15.same w1520
      have p12S := s20.neS n12
      have p12C := s20.neC n12
      generalize (upd H20 p12 (.lst (vs15 ++ [.ref l1, v3, .ref p10]))) = H21 at w6 b12 ⊢
      have w1521 := w1520.trans w6
      have w1821 := (w4.trans w5).trans w6
      have eleven : DpAll K (newp B H21) (vs15 ++ [.ref l1, v3, .ref p10]) (ds15 ++ [.list ds, .tuple (ds ++ (ds.drop i0).take (i0 + 1 - i0)), .tuple ds.reverse]) :=
        DpAll_append (DpAll_mono (newp_right w1521) dpB) (.cons (Dp_mono (newp_right (((w2.trans w3).trans w4).trans (w5.trans w6))) u1) (.cons (Dp_mono (newp_right w1821) h18) (.cons (Dp_mono (newp_right (w5.trans w6)) u3) .nil)))
      have nice11 : ∀ d ∈ ds15 ++ [.list ds, .tuple (ds ++ (ds.drop i0).take (i0 + 1 - i0)), .tuple ds.reverse], Nice (max (PyData.depthAll ds + 1) 6) (4 * bigs ds + 50000) d := by
        intro d hd
        rcases List.mem_append.mp hd with h | h
        · exact (hR15 d h).1
        · simp only [List.mem_cons, List.not_mem_nil, or_false] at h
          rcases h with rfl | rfl | rfl
          · exact N.lst.mono (by omega) (by omega)
          · exact (N.append ((N.drop i0).take (i0 + 1 - i0))).tup.mono (by omega) (by omega)
          · exact N.rev.tup.mono (by omega) (by omega)
      have liv11 : LivA (newp B H21) (vs15 ++ [.ref l1, v3, .ref p10]) (ds15 ++ [.list ds, .tuple (ds ++ (ds.drop i0).take (i0 + 1 - i0)), .tuple ds.reverse]) :=
        (LivA.nots (DpAll_len dpB) fun d hd => (hR15 d hd).2).append (.cons (.mono (newp_right (((w2.trans w3).trans w4).trans (w5.trans w6))) (.lst el1 lx)) (.cons (.not rfl) (.cons (.not rfl) .nil)))
      refine ⟨_, rfl, S, C, n + 400, 11, rfl, s15.same w1521, by omega, by decide, by decide, fun r2 H22 q0 q1 s22 f22 => ?_⟩
      obtain ⟨v', d', e1', hd', hv', lv'⟩ := DpAll_atL (DpAll_mono (newp_fr sB f22) eleven) (LivA.mono (newp_fr sB f22) liv11) q0 (by rw [List.length_append, l15]; show r2 < 11; exact q1)
      have N' := nice11 d' hd'
      exact ⟨p12, _, r2, v', rfl, rfl, SqL.of (cut_keep f22 p12S p12C b12), e1', q v' d' H22 hv' N'.fine N'.depth (fun z => absurd ne (by rw [z]; exact Nat.lt_irrefl _)) (Nat.le_trans N'.big (by omega)) lv' (s22.mono (by omega)) ((f014.trans f15).trans ((Fr.of_same w1521).trans f22))⟩

/-! ### _law_bent_tree -/
theorem bent_step (m kk : Nat) (spR : Sp) (ih : FnOk P w K mg base CX0 kk Z.f__law_bent_tree Z.fd__law_bent_tree ["_law_stream", "_law_part"] spR) (hk : kk ≤ m + 7) (hsp : ∀ m', m = m' + 1 → spR = spBent K m) : FnOk P w K mg base CX0 (m+8) Z.f__law_bent_tree Z.fd__law_bent_tree ["_law_stream", "_law_part"] (spBent K (m+1)) := by
  refine Z.D__law_bent_tree.F.ok sc__law_bent_tree (fun vs H Q E h => ?_) (fun cdv A outer s H vs Q E hr h => ?_)
  · obtain ⟨S, C, k, nb, j, B, v, d, rfl, _⟩ := h
    rfl
  obtain ⟨S, C, k, nb, j, B, v, d, rfl, st, hn, sB, xB, hd, fd, zd, hj, bd, td, q⟩ := h
  obtain ⟨ps, cs, rfl, pp, pc, tc⟩ := sh_is td
  have hr1 : Room 1 (A.deeper (envOfC "_law_bent_tree" (defScope s__law_bent_tree) s.heap.objs.size Z.f__law_bent_tree cdv)) := hr.mono (by omega)
  have hr4 : Room 4 (A.deeper (envOfC "_law_bent_tree" (defScope s__law_bent_tree) s.heap.objs.size Z.f__law_bent_tree cdv)) := hr.mono (by omega)
  have hr6 : Room 6 (A.deeper (envOfC "_law_bent_tree" (defScope s__law_bent_tree) s.heap.objs.size Z.f__law_bent_tree cdv)) := hr.mono (by omega)
  have hrk : Room kk (A.deeper (envOfC "_law_bent_tree" (defScope s__law_bent_tree) s.heap.objs.size Z.f__law_bent_tree cdv)) := hr.mono hk
  refine ⟨_, (C8.pss_cut (ps_if (PW.pt (pw_and (pt_cmpR (neDK (K := K) hr.units) (pe_ix (ixT (K := K)) (pv 1) pe_int (fun _ _ => rfl)) (pe_tup pa_nil) (nomark _)) (pw_and1 (pt_cmpR op_gt (pe_call (ok__law_draw Z) hr1 (by rfl) Z.D__law_draw.m Z.D__law_draw.F.kp Z.D__law_draw.b .nil pass0 (pa_cons (pv 0) (pa_cons pe_int pa_nil))) pe_int (nomark _))))) (pss_cons (ps_set (i := 2) sc__law_bent_tree.nd rfl (.inl rfl) (pe_call (ok__law_draw Z) hr1 (by rfl) Z.D__law_draw.m Z.D__law_draw.F.kp Z.D__law_draw.b .nil pass0 (pa_cons (pv 0) (pa_cons (pe_callB (lenK (K := K)) (by rfl) Z.T.len (by decide +kernel) (pa_cons (pe_ix (ixT (K := K)) (pv 1) pe_int (fun _ _ => rfl)) pa_nil)) pa_nil))))
    (pss_cons (ps_asg (pe_ix (ixT (K := K)) (pe_ix (ixT (K := K)) (pv 1) pe_int (fun _ _ => rfl)) (pv 2) (fun _ _ => rfl)) (pg_tup rfl (pgs_cons (pg_name (i := 3) sc__law_bent_tree.nd rfl (.inl rfl)) (pgs_cons (pg_name (i := 4) sc__law_bent_tree.nd rfl (.inl rfl)) pgs_nil))))
    (pss_one (ps_ret (pe_tup (pa_cons (pe_ix (ixT (K := K)) (pv 1) pe_int (fun _ _ => rfl)) (pa_cons (pe_op (caA (K := K)) (pe_op (caA (K := K)) (pe_slice (slA (K := K)) (pe_ix (ixT (K := K)) (pv 1) pe_int (fun _ _ => rfl)) po_none (po_some (pv 2))) (pe_tup (pa_cons (pe_tup (pa_cons (pv 3) (pa_cons (pe_call ih hrk (by rfl) Z.D__law_bent_tree.m Z.D__law_bent_tree.F.kp Z.D__law_bent_tree.b .nil pass0 (pa_cons (pv 0) (pa_cons (pv 4) pa_nil))) pa_nil))) pa_nil))) (pe_slice (slA (K := K)) (pe_ix (ixT (K := K)) (pv 1) pe_int (fun _ _ => rfl)) (po_some (pe_op op_add (pv 2) pe_int)) po_none)) pa_nil))))))) pss_nil)
    (pss_cons (ps_set (i := 5) sc__law_bent_tree.nd rfl (.inl rfl) (pe_call (ok__law_draw Z) hr1 (by rfl) Z.D__law_draw.m Z.D__law_draw.F.kp Z.D__law_draw.b .nil pass0 (pa_cons (pv 0) (pa_cons pe_int pa_nil))))
    (pss_cons (ps_if (pt_cmpR op_eq (pv 5) pe_int (nomark _)) (pss_one (ps_ret (pe_ix (ixL (K := K)) (pe_lst (pa_cons (pe_callTy (lstK (K := K)) (by rfl) Z.T.list (by decide +kernel) (pa_cons (pv 1) pa_nil)) (pa_cons (pe_op (caA (K := K)) (pv 1) (pe_tup (pa_cons (pe_tup pa_nil) pa_nil))) (pa_cons (pe_slice (slA (K := K)) (pv 1) po_none (po_some pe_int)) (pa_cons (pe_call (ok__law_thing Z 2) hr4 (by rfl) Z.D__law_thing.m Z.D__law_thing.F.kp Z.D__law_thing.b .nil pass0 (pa_cons (pv 0) (pa_cons pe_int pa_nil))) pa_nil))))) (pe_call (ok__law_draw Z) hr1 (by rfl) Z.D__law_draw.m Z.D__law_draw.F.kp Z.D__law_draw.b .nil pass0 (pa_cons (pv 0) (pa_cons pe_int pa_nil))) (fun _ _ => rfl)))) pss_nil)
    (pss_cons (ps_set (i := 6) sc__law_bent_tree.nd rfl (.inl rfl) (pe_callTy (lstK (K := K)) (by rfl) Z.T.list (by decide +kernel) (pa_cons (pv 1) pa_nil)))
    (pss_cons (ps_asg (pe_call (ok__law_bent_pairs Z) hr6 (by rfl) Z.D__law_bent_pairs.m Z.D__law_bent_pairs.F.kp Z.D__law_bent_pairs.b .nil pass0 (pa_cons (pv 0) (pa_cons (pe_ix (ixT (K := K)) (pv 1) (pe_op op_mod (pe_callTy call_int1 (by rfl) Z.T.int (by decide +kernel) (pa_cons (pv 5) pa_nil)) pe_int) (fun _ _ => rfl)) pa_nil))) (pg_sub (pv 6) (pe_op op_mod (pe_callTy call_int1 (by rfl) Z.T.int (by decide +kernel) (pa_cons (pv 5) pa_nil)) pe_int) set_list))
    (pss_one (ps_ret (pe_callTy (tupK (K := K)) (by rfl) Z.T.tuple (by decide +kernel) (pa_cons (pv 6) pa_nil))))))))), ?_⟩
  obtain ⟨a, vp, vc, rfl, sa, hp, hc⟩ : ∃ a vp vc, v = .ref a ∧ SqT K (newp B H) a [vp, vc] ∧ Dp K (newp B H) vp (.tuple ps) ∧ Dp K (newp B H) vc (.tuple cs) := by
    cases hd with
    | @tup _ ys _ sy hy =>
      cases hy with
      | cons h1 hr =>
        cases hr with
        | cons h2 hr2 =>
          cases hr2
          exact ⟨_, _, _, rfl, sy, h1, h2⟩
  obtain ⟨c, xs, rfl, sc, dc⟩ : ∃ c xs, vc = .ref c ∧ SqT K (newp B H) c xs ∧ DpAll K (newp B H) xs cs := by
    cases hc with
    | tup sx hx => exact ⟨_, _, rfl, sx, hx⟩
  have lx : xs.length = cs.length := DpAll_len dc
  have ff : fines ps = true ∧ fines cs = true := by
    simp only [fine, fines, Bool.and_true, Bool.and_eq_true] at fd
    exact fd
  have dd : PyData.depthAll ps + 2 ≤ 3 * j + 2 ∧ PyData.depthAll cs + 2 ≤ 3 * j + 2 := by
    simp only [PyData.depth, PyData.depthAll] at zd
    omega
  have bb : bigs ps + bigs cs + 13 = big (.tuple [.tuple ps, .tuple cs]) := by
    simp only [big, bigs]
    omega
  have lp := pairs_len ps pp
  have lc := pairs_len cs pc
  have sz : 16777216 = sizeLine := sizeLine_eq.symm
  have okp : Ok (.tuple ps) := ⟨ff.1, by show bigs ps + 3 ≤ sizeLine; omega, by show _ + 1 ≤ 60; omega⟩
  have okc : Ok (.tuple cs) := ⟨ff.2, by show bigs cs + 3 ≤ sizeLine; omega, by show _ + 1 ≤ 60; omega⟩
  have ok0 : SeqAt.shaped (.tuple []) = true := by decide
  refine ⟨fun σ H' => σ = [some (.ref S), some (.ref a), none, none, none, none, none] ∧ Strm S C (k + 1) H' ∧ Fr S C H H', ?_, ?_⟩
  · refine ⟨_, rfl, a, [vp, .ref c], 1, .ref c, rfl, rfl, Same.seqT newp_same sa, rfl, (by show 0 ≤ sizeLine; decide), fun p np => ?_⟩
    have w1 := same_new np (.tup [])
    have a1 : (upd H p (.tup [])) p = _ := upd_same
    have s1 := st.lay np (.tup [])
    generalize (upd H p (.tup [])) = H1 at w1 a1 s1 ⊢
    have xB1 : Ext B H1 := xB.trans (Ext.of_same w1)
    have hc1 := Dp_mono (newp_right (H := B) w1) hc
    refine ⟨_, _, Dp_mono newp_same hc1, .tup (SqT.of a1) .nil, okc.shaped, ok0, _, rfl, ite2 (fun c1 => ?_) (fun c1 => ?_)⟩
    · refine ⟨_, rfl, S, C, k, 3, rfl, s1, by omega, by decide, by decide, fun r0 H2 r00 r01 s2 f2 => ⟨_, _, rfl, rfl, _, rfl, ite2 (fun c2 => ?_) (fun c2 => ?_)⟩⟩
      · have ne : 0 < cs.length := by
          cases cs with
          | nil => exact absurd c1 (by decide)
          | cons x y => exact Nat.succ_pos _
        have f02 : Fr S C H H2 := (Fr.of_same w1).trans f2
        have x2 : Ext B H2 := xB1.trans (Fr.ext s2 f2)
        have m02 := (newp_right (H := B) w1).trans (newp_fr sB f2)
        refine ⟨_, rfl, _, rfl, a, [vp, .ref c], 1, .ref c, rfl, rfl, Same.seqT newp_same (Same.seqT m02 sa), rfl, c, xs, rfl, .inr (Same.seqT newp_same (Same.seqT m02 sc)), S, C, k + 1, (xs.length : Int), rfl, s2, by omega, by omega, by omega, fun r H3 r0 r1 s3 f3 => ?_⟩
        obtain ⟨i0, rfl⟩ : ∃ i0 : Nat, r = (i0 : Int) := ⟨r.toNat, by omega⟩
        obtain ⟨ve, e1, e2⟩ := at_int r0 r1
        rw [Int.toNat_natCast] at e2
        have hi0 : i0 < cs.length := by omega
        have x3 : Ext B H3 := x2.trans (Fr.ext s3 f3)
        have f03 := f02.trans f3
        have m03 := m02.trans (newp_fr sB f3)
        have sa3 := Same.seqT m03 sa
        have sc3 := Same.seqT m03 sc
        have hc3 := Dp_mono m03 hc
        have hp3 := Dp_mono m03 hp
        obtain ⟨e, g1, g2⟩ := DpAll_get i0 (DpAll_mono m03 dc) e2
        have ecs := List.mem_of_getElem? g1
        have te := tc e ecs
        obtain ⟨dn, dv, rfl⟩ := pair_is (List.all_eq_true.mp pc e ecs)
        obtain ⟨b, x, y, rfl, sb, hx3, hy3⟩ : ∃ b x y, ve = .ref b ∧ SqT K (newp B H3) b [x, y] ∧ Dp K (newp B H3) x dn ∧ Dp K (newp B H3) y dv := by
          cases g2 with
          | @tup _ ys _ sy hy =>
            cases hy with
            | cons h1 hr =>
              cases hr with
              | cons h2 hr2 =>
                cases hr2
                exact ⟨_, _, _, rfl, sy, h1, h2⟩
        have te' : shD m dv = true := te
        obtain ⟨m', rfl⟩ : ∃ m', m = m' + 1 := by
          cases m with
          | zero => cases te'
          | succ m' => exact ⟨m', rfl⟩
        obtain rfl := hsp m' rfl
        have N : Nices (PyData.depthAll cs) (bigs cs) cs := ⟨ff.2, Nat.le_refl _, Nat.le_refl _⟩
        have Np := N.mem ecs
        have fp : fine dn = true ∧ fine dv = true := by
          have h := Np.fine
          simp only [fine, fines, Bool.and_true, Bool.and_eq_true] at h
          exact h
        have zp : dn.depth + 1 ≤ PyData.depthAll cs ∧ dv.depth + 1 ≤ PyData.depthAll cs := by
          have h := Np.depth
          simp only [PyData.depth, PyData.depthAll] at h
          omega
        have split : bigs (cs.take i0) + (big (.tuple [dn, dv]) + 2 + bigs (cs.drop (i0 + 1))) = bigs cs := by
          have h1 := bigs_take_drop cs i0
          have h2 : cs.drop i0 = .tuple [dn, dv] :: cs.drop (i0 + 1) := by
            rw [List.drop_eq_getElem_cons hi0]
            rw [List.getElem?_eq_getElem hi0] at g1
            rw [Option.some.inj g1]
          rw [h2] at h1
          simp only [bigs] at h1 ⊢
          omega
        have bpair : big (.tuple [dn, dv]) = big dn + big dv + 7 := by
          simp only [big, bigs]
          omega
        have take0 : (cs.take i0).length = i0 := by rw [List.length_take]; omega
        have drop0 : (cs.drop (i0 + 1)).length = cs.length - (i0 + 1) := List.length_drop ..
        refine ⟨_, rfl, a, [vp, .ref c], 1, .ref c, rfl, rfl, Same.seqT newp_same sa3, rfl, _, rfl, c, xs, (i0 : Int), _, rfl, rfl, Same.seqT newp_same sc3, e1, b, [x, y], rfl, Same.seqT newp_same sb, rfl, _, _, rfl, _, _, rfl, rfl, ?_⟩
        refine ⟨_, rfl, a, [vp, .ref c], 0, vp, rfl, rfl, Same.seqT newp_same sa3, rfl, _, rfl, a, [vp, .ref c], 1, .ref c, rfl, rfl, Same.seqT newp_same sa3, rfl, _, rfl, (i0 : Int), rfl, take_by x3 hc3 fun v1 H4 h4 w4 => ?_⟩
        have x4 := x3.trans (Ext.of_same w4)
        have m34 := newp_right (H := B) w4
        refine ⟨_, rfl, _, rfl, _, rfl, S, C, k + 2, nb, j - 1, B, y, dv, rfl, s3.same w4, by omega, sB, x4, Dp_mono m34 hy3, fp.2, by omega, by omega, by omega, te', fun v' d' H5 h5 fd5 zd5 bd5 s5 f5 => ⟨(by show 2 ≤ sizeLine; decide), fun T1 n1 => ⟨(by show 1 ≤ sizeLine; decide), fun T2 n2 => ?_⟩⟩⟩
        have x5 := x4.trans (Fr.ext s5 f5)
        have m35 := m34.trans (newp_fr sB f5)
        have t1 := lay_tup x5 n1 (.cons (Dp_mono m35 hx3) (.cons h5 .nil))
        have wT1 := same_new n1 (.tup [x, v'])
        generalize (upd H5 T1 (.tup [x, v'])) = H6 at n2 t1 wT1 ⊢
        have x6 := x5.trans (Ext.of_same wT1)
        have t2 := lay_tup x6 n2 (.cons t1 .nil)
        have wT2 := same_new n2 (.tup [.ref T1])
        generalize (upd H6 T2 (.tup [.ref T1])) = H7 at t2 wT2 ⊢
        have x7 := x6.trans (Ext.of_same wT2)
        have m57 := newp_right (H := B) (wT1.trans wT2)
        have m47 := (newp_fr sB f5).trans m57
        refine cat_by x7 (Dp_mono m47 h4) t2 (by rw [take0]; show i0 + 1 ≤ sizeLine; omega) fun v2 H8 h8 w8 => ?_
        have x8 := x7.trans (Ext.of_same w8)
        have m38 := (m35.trans m57).trans (newp_right w8)
        refine ⟨_, rfl, a, [vp, .ref c], 1, .ref c, rfl, rfl, Same.seqT newp_same (Same.seqT m38 sa3), rfl, _, rfl, _, _, rfl, rfl, ((i0 + 1 : Nat) : Int), congrArg V.int (show (i0 : Int) + 1 = ((i0 + 1 : Nat) : Int) by omega), drop_no (i := i0 + 1) x8 (Dp_mono m38 hc3) (by omega) fun v3 H9 h9 w9 => ?_⟩
        have x9 := x8.trans (Ext.of_same w9)
        refine cat_by x9 (Dp_mono (newp_right w9) h8) h9 (by rw [List.length_append, take0, drop0]; show i0 + 1 + _ ≤ sizeLine; omega) fun v4 H10 h10 w10 => ?_
        have x10 := x9.trans (Ext.of_same w10)
        refine ⟨(by show 2 ≤ sizeLine; decide), fun T3 n3 => ?_⟩
        have m810 := newp_right (H := B) (w9.trans w10)
        have t3 := lay_tup x10 n3 (.cons (Dp_mono (m38.trans m810) hp3) (.cons h10 .nil))
        have w510 := ((wT1.trans wT2).trans w8).trans (w9.trans w10)
        have wT3 := same_new n3 (.tup [vp, v4])
        have n1' : Nice (3 * j) (big dn) dn := ⟨fp.1, by omega, Nat.le_refl _⟩
        have n2' : Nice (3 * j + 1) (4 * big dv + 60000) d' := ⟨fd5, by omega, bd5⟩
        have np' := ((Nices.one (n1'.mono (show 3 * j ≤ 3 * j + 1 by omega) (Nat.le_refl _))).append (.one n2')).tup
        have nt : Nices (3 * j + 2) (bigs (cs.take i0)) (cs.take i0) := ⟨(N.take i0).fine, Nat.le_trans (N.take i0).depth (by omega), Nat.le_refl _⟩
        have nd : Nices (3 * j + 2) (bigs (cs.drop (i0 + 1))) (cs.drop (i0 + 1)) := ⟨(N.drop (i0 + 1)).fine, Nat.le_trans (N.drop (i0 + 1)).depth (by omega), Nat.le_refl _⟩
        have nc := ((nt.append (.one np')).append nd).tup
        have npp : Nice (3 * j + 3) (bigs ps + 3) (.tuple ps) := ⟨ff.1, by show _ + 1 ≤ _; omega, Nat.le_refl _⟩
        have nn := ((Nices.one npp).append (.one nc)).tup
        exact q _ _ _ t3 nn.fine (Nat.le_trans nn.depth (by omega)) (Nat.le_trans nn.big (by omega)) ((s5.same (w510.trans wT3)).mono (by omega)) (((f03.trans (Fr.of_same w4)).trans f5).trans (Fr.of_same (w510.trans wT3)))
      · exact ⟨rfl, s2, (Fr.of_same w1).trans f2⟩
    · exact ⟨rfl, s1.mono (by omega), Fr.of_same w1⟩
  · rintro σ H1 ⟨rfl, s1, f1⟩
    have sz2 : bigs ps + bigs cs + 13 ≤ sizeLine := by omega
    refine ⟨_, rfl, S, C, k + 1, 8, rfl, s1, by omega, by decide, by decide, fun r H2 r0 r1 s2 f2 => ⟨_, rfl, rfl, _, rfl, ite2 (fun c7 => ?_) (fun c7 => ?_)⟩⟩
    · have f02 := f1.trans f2
      have x2 : Ext B H2 := xB.trans (Fr.ext s2 f02)
      have m02 := newp_fr sB f02
      have sa2 := Same.seqT m02 sa
      have hp2 := Dp_mono m02 hp
      have hc2 := Dp_mono m02 hc
      have hd2 : Dp K (newp B H2) (.ref a) (.tuple [.tuple ps, .tuple cs]) := .tup sa2 (.cons hp2 (.cons hc2 .nil))
      refine ⟨_, rfl, a, [vp, .ref c], rfl, .inr (Same.seqT newp_same sa2), fun l1 m1 => ?_⟩
      have t1 := lay_lst x2 m1 (.cons hp2 (.cons hc2 .nil))
      have w1 := same_new m1 (.lst [vp, .ref c])
      generalize (upd H2 l1 (.lst [vp, .ref c])) = H3 at t1 w1 ⊢
      have x3 := x2.trans (Ext.of_same w1)
      refine ⟨_, rfl, (by show 0 ≤ sizeLine; decide), fun p1 n1 => ⟨(by show 1 ≤ sizeLine; decide), fun p2 n2 => ?_⟩⟩
      have u1 := lay_tup (K := K) x3 n1 .nil
      have w2 := same_new n1 (.tup [])
      generalize (upd H3 p1 (.tup [])) = H4 at n2 u1 w2 ⊢
      have x4 := x3.trans (Ext.of_same w2)
      have u2 := lay_tup x4 n2 (.cons u1 .nil)
      have w3 := same_new n2 (.tup [.ref p1])
      generalize (upd H4 p2 (.tup [.ref p1])) = H5 at u2 w3 ⊢
      have x5 := x4.trans (Ext.of_same w3)
      have m25 := newp_right (H := B) ((w1.trans w2).trans w3)
      refine cat_by x5 (Dp_mono m25 hd2) u2 (by show 2 + 1 ≤ sizeLine; decide) fun v2 H6 h6 w4 => ?_
      have x6 := x5.trans (Ext.of_same w4)
      have m26 := m25.trans (newp_right w4)
      refine ⟨_, rfl, ((1 : Nat) : Int), rfl, take_by x6 (Dp_mono m26 hd2) fun v3 H7 h7 w5 => ?_⟩
      have x7 := x6.trans (Ext.of_same w5)
      have w27 := (((w1.trans w2).trans w3).trans w4).trans w5
      refine ⟨_, rfl, S, C, k + 2, [.int 2], rfl, rfl, s2.same w27, by show k + 2 + 47 ≤ _; omega, fun vt dt H8 ht hnt s8 f8 => ⟨(by show 4 ≤ sizeLine; decide), fun p5 n5 => ?_⟩⟩
      have x8 := x7.trans (Fr.ext s8 f8)
      have m78 := newp_fr sB f8
      have four : DpAll K (newp B H8) [.ref l1, v2, v3, vt] [.list [.tuple ps, .tuple cs], .tuple ([.tuple ps, .tuple cs] ++ [.tuple []]), .tuple (List.take 1 [.tuple ps, .tuple cs]), dt] :=
        .cons (Dp_mono ((newp_right (((w2.trans w3).trans w4).trans w5)).trans m78) t1) (.cons (Dp_mono ((newp_right w5).trans m78) h6) (.cons (Dp_mono m78 h7) (.cons (Dp_mono (newp_left x7) ht) .nil)))
      have w6 := same_new n5 (.lst [.ref l1, v2, v3, vt])
      have b5 : (upd H8 p5 (.lst [.ref l1, v2, v3, vt])) p5 = _ := upd_same
      have p5S := s8.neS n5
      have p5C := s8.neC n5
      generalize (upd H8 p5 (.lst [.ref l1, v2, v3, vt])) = H9 at w6 b5 ⊢
      refine ⟨_, rfl, S, C, k + 2 + 47, 4, rfl, (s8.same w6), by omega, by decide, by decide, fun r2 H10 q0 q1 s10 f10 => ?_⟩
      obtain ⟨v', d', e1', hd', hv'⟩ := DpAll_at (DpAll_mono ((newp_right w6).trans (newp_fr sB f10)) four) q0 q1
      have npp : Nice (3 * j + 1) (bigs ps + 3) (.tuple ps) := ⟨ff.1, by show _ + 1 ≤ _; omega, Nat.le_refl _⟩
      have ncc : Nice (3 * j + 1) (bigs cs + 3) (.tuple cs) := ⟨ff.2, by show _ + 1 ≤ _; omega, Nat.le_refl _⟩
      have ne0 : Nice (3 * j + 1) 3 (.tuple []) := ⟨rfl, by show 0 + 1 ≤ _; omega, Nat.le_refl _⟩
      have N4 : Nice (3 * j + 4) (4 * big (.tuple [.tuple ps, .tuple cs]) + 60000) d' := by
        simp only [List.mem_cons, List.not_mem_nil, or_false] at hd'
        rcases hd' with rfl | rfl | rfl | rfl
        · exact ((Nices.one npp).append (.one ncc)).lst.mono (by omega) (by omega)
        · exact (((Nices.one npp).append (.one ncc)).append (.one ne0)).tup.mono (by omega) (by omega)
        · exact (Nices.one npp).tup.mono (by omega) (by omega)
        · exact Nice.mono (n := 3) (b := 18936) hnt (by omega) (by omega)
      exact ⟨p5, _, r2, v', rfl, rfl, SqL.of (cut_keep f10 p5S p5C b5), e1', q v' d' H10 hv' N4.fine N4.depth N4.big (s10.mono (by omega)) ((f02.trans ((Fr.of_same w27).trans f8)).trans ((Fr.of_same w6).trans f10))⟩
    · have f02 := f1.trans f2
      have x2 : Ext B H2 := xB.trans (Fr.ext s2 f02)
      have m02 := newp_fr sB f02
      have sa2 := Same.seqT m02 sa
      refine ⟨_, rfl, a, [vp, .ref c], rfl, .inr (Same.seqT newp_same sa2), fun L nL => ?_⟩
      have LS := s2.neS nL
      have LC := s2.neC nL
      obtain ⟨G, xBG, gL, sG, sm, xG⟩ := side_ext sB x2 nL (.lst [vp, .ref c])
      have nL0 : H L = none := Fr.ext s2 f02 L nL
      have eL : (upd H2 L (.lst [vp, .ref c])) L = _ := upd_same
      have s3 := s2.lay nL (.lst [vp, .ref c])
      have f23 : Fr S C H2 _ := Fr.lay nL (.lst [vp, .ref c])
      show gName 6 (.ref L) _ (upd H2 L (.lst [vp, .ref c])) _
      generalize (upd H2 L (.lst [vp, .ref c])) = H3 at eL s3 f23 xG ⊢
      have f03 := f02.trans f23
      have sa3 := Same.seqT (newp_fr sB f23) sa2
      have mG := (m02.trans sm).trans (newp_fr sG f23)
      have hp3 := Dp_mono mG hp
      have hc3 := Dp_mono mG hc
      have npp : Nice (3 * j + 3) (bigs ps + 3) (.tuple ps) := ⟨ff.1, by show _ + 1 ≤ _; omega, Nat.le_refl _⟩
      have ncc : Nice (3 * j + 3) (bigs cs + 3) (.tuple cs) := ⟨ff.2, by show _ + 1 ≤ _; omega, Nat.le_refl _⟩
      have zzz : ∀ (ds : List PyData) (d' : PyData), ds.all pairD = true → PyData.depthAll ds + 2 ≤ 3 * j + 2 → d'.depth ≤ max (PyData.depthAll ds + 1) 6 → (ds = [] → d'.depth ≤ 2) → d'.depth ≤ 3 * j + 3 := by
        intro ds d' h1 h2 h3 h4
        cases j with
        | zero =>
          have := h4 (pairs_deep h1 (by omega))
          omega
        | succ j => omega
      have two : r % 2 = 0 ∨ r % 2 = 1 := by omega
      rcases two with e | e
      · refine ⟨_, rfl, _, rfl, _, rfl, .inl ⟨_, rfl, _, _, rfl, rfl, (by show (0 : Int) < 2; decide), a, [vp, .ref c], r % 2, vp, rfl, rfl, Same.seqT newp_same sa3, (by rw [e]; rfl), S, C, k + 2, nb, G, vp, ps, rfl, s3, by omega, sG, xG, hp3, okp, pp, by omega, fun v' d' H4 h4 fd4 zd4 zz4 bd4 _ s4 f4 => ?_⟩⟩
        have e4 : H4 L = some (.lst [vp, .ref c]) := cut_keep f4 LS LC eL
        have x4 := xG.trans (Fr.ext s4 f4)
        refine ⟨_, rfl, _, rfl, .inl ⟨_, rfl, _, _, rfl, rfl, (by show (0 : Int) < 2; decide), L, [vp, .ref c], r % 2, 0, rfl, rfl, e4, (by rw [e]; rfl), ?_⟩⟩
        have s5 := s4.upd LS LC (.lst ([vp, .ref c].set 0 v'))
        have e5 : (upd H4 L (.lst ([vp, .ref c].set 0 v'))) L = some (.lst [v', .ref c]) := upd_same
        have f5 : Fr S C H (upd H4 L (.lst ([vp, .ref c].set 0 v'))) := Fr.upd (f03.trans f4) nL0
        have x5 : Ext G (upd H4 L (.lst ([vp, .ref c].set 0 v'))) := x4.trans Ext.upd
        have m45 : Same (newp G H4) (newp G (upd H4 L (.lst ([vp, .ref c].set 0 v')))) := newp_upd gL
        have h5 := Dp_mono m45 h4
        have o5 := Dp_mono ((newp_fr sG f4).trans m45) hc3
        generalize (upd H4 L (.lst ([vp, .ref c].set 0 v'))) = H5 at s5 e5 f5 x5 m45 h5 o5 ⊢
        refine ⟨_, rfl, L, [v', .ref c], rfl, .inl ⟨SqL.of e5, fun l nl => ?_⟩⟩
        have h6 := lay_tup x5 nl (.cons h5 (.cons o5 .nil))
        have nx : Nice (3 * j + 3) (4 * bigs ps + 60000) d' := ⟨fd4, zzz ps d' pp dd.1 zd4 zz4, bd4⟩
        have nn := ((Nices.one nx).append (.one ncc)).tup
        exact q _ _ _ (Dp_mono (newp_left xBG) h6) nn.fine (Nat.le_trans nn.depth (by omega)) (Nat.le_trans nn.big (by omega)) ((s5.lay nl _).mono (by omega)) (f5.trans (Fr.lay nl _))
      · refine ⟨_, rfl, _, rfl, _, rfl, .inl ⟨_, rfl, _, _, rfl, rfl, (by show (0 : Int) < 2; decide), a, [vp, .ref c], r % 2, (.ref c), rfl, rfl, Same.seqT newp_same sa3, (by rw [e]; rfl), S, C, k + 2, nb, G, (.ref c), cs, rfl, s3, by omega, sG, xG, hc3, okc, pc, by omega, fun v' d' H4 h4 fd4 zd4 zz4 bd4 _ s4 f4 => ?_⟩⟩
        have e4 : H4 L = some (.lst [vp, .ref c]) := cut_keep f4 LS LC eL
        have x4 := xG.trans (Fr.ext s4 f4)
        refine ⟨_, rfl, _, rfl, .inl ⟨_, rfl, _, _, rfl, rfl, (by show (0 : Int) < 2; decide), L, [vp, .ref c], r % 2, 1, rfl, rfl, e4, (by rw [e]; rfl), ?_⟩⟩
        have s5 := s4.upd LS LC (.lst ([vp, .ref c].set 1 v'))
        have e5 : (upd H4 L (.lst ([vp, .ref c].set 1 v'))) L = some (.lst [vp, v']) := upd_same
        have f5 : Fr S C H (upd H4 L (.lst ([vp, .ref c].set 1 v'))) := Fr.upd (f03.trans f4) nL0
        have x5 : Ext G (upd H4 L (.lst ([vp, .ref c].set 1 v'))) := x4.trans Ext.upd
        have m45 : Same (newp G H4) (newp G (upd H4 L (.lst ([vp, .ref c].set 1 v')))) := newp_upd gL
        have h5 := Dp_mono m45 h4
        have o5 := Dp_mono ((newp_fr sG f4).trans m45) hp3
        generalize (upd H4 L (.lst ([vp, .ref c].set 1 v'))) = H5 at s5 e5 f5 x5 m45 h5 o5 ⊢
        refine ⟨_, rfl, L, [vp, v'], rfl, .inl ⟨SqL.of e5, fun l nl => ?_⟩⟩
        have h6 := lay_tup x5 nl (.cons o5 (.cons h5 .nil))
        have nx : Nice (3 * j + 3) (4 * bigs cs + 60000) d' := ⟨fd4, zzz cs d' pc dd.2 zd4 zz4, bd4⟩
        have nn := ((Nices.one npp).append (.one nx)).tup
        exact q _ _ _ (Dp_mono (newp_left xBG) h6) nn.fine (Nat.le_trans nn.depth (by omega)) (Nat.le_trans nn.big (by omega)) ((s5.lay nl _).mono (by omega)) (f5.trans (Fr.lay nl _))
theorem ok__law_bent_tree (m : Nat) : FnOk P w K mg base CX0 (m+8) Z.f__law_bent_tree Z.fd__law_bent_tree ["_law_stream", "_law_part"] (spBent K (m+1)) := by
  induction m with
  | zero => exact bent_step Z 0 0 (fun _ _ _ _ => False) ⟨fun _ _ _ _ h => h.elim, fun _ _ _ _ _ _ _ _ _ _ _ _ _ h => h.elim⟩ (Nat.zero_le _) (fun m' h => nomatch h)
  | succ m ih => exact bent_step Z (m + 1) (m + 8) _ ih (Nat.le_refl _) fun m' h => rfl

/-! ### as_tuples -/
theorem ok_as_tuples : FnOk P w K mg base CX0 1 Z.f_as_tuples Z.fd_as_tuples ["value"] (spTup K) := by
  refine Z.D_as_tuples.F.ok sc_as_tuples (fun vs H Q E h => ?_) (fun cdv A outer s H vs Q E hr h => ?_)
  · obtain ⟨v, d, rfl, _⟩ := h
    rfl
  obtain ⟨v, d, rfl, hd, ok, q⟩ := h
  refine ⟨_, (pss_cons (ps_set (i := 1) sc_as_tuples.nd rfl (.inl rfl) (pe_lst (pa_cons (pe_tup (pa_cons (pe_lst (pa_cons (pv 0) pa_nil)) (pa_cons (pe_lst pa_nil) pa_nil))) pa_nil)))
    (pss_one (ps_while PassesOwn.never (pt_val pe_bl) (pss_cons (ps_asg (pe_ix (ixL (K := K)) (pv 1) (pe_un un_neg pe_int) (fun _ _ => rfl)) (pg_tup rfl (pgs_cons (pg_name (i := 2) sc_as_tuples.nd rfl (.inl rfl)) (pgs_cons (pg_name (i := 3) sc_as_tuples.nd rfl (.inl rfl)) pgs_nil))))
    (pss_one (ps_if (pt_cmpR op_eq (pe_callB (lenK (K := K)) (by rfl) Z.T.len (by decide +kernel) (pa_cons (pv 3) pa_nil)) (pe_callB (lenK (K := K)) (by rfl) Z.T.len (by decide +kernel) (pa_cons (pv 2) pa_nil)) (nomark _)) (pss_cons (ps_if (pt_cmpR op_eq (pe_callB (lenK (K := K)) (by rfl) Z.T.len (by decide +kernel) (pa_cons (pv 1) pa_nil)) pe_int (nomark _)) (pss_one (ps_ret (pe_ix (ixL (K := K)) (pv 3) pe_int (fun _ _ => rfl)))) pss_nil)
    (pss_cons (ps_expr (pe_bm0 PySem.F.plainAttrs_list PySem.F.slot_list_pop PySem.F.type_list_pop mt_pop (pv 1)))
    (pss_one (ps_expr (pe_bm PySem.F.plainAttrs_list PySem.F.slot_list_append PySem.F.type_list_append mt_append (pe_ix (ixT (K := K)) (pe_ix (ixL (K := K)) (pv 1) (pe_un un_neg pe_int) (fun _ _ => rfl)) pe_int (fun _ _ => rfl)) (pa_cons (pe_callTy (tupK (K := K)) (by rfl) Z.T.tuple (by decide +kernel) (pa_cons (pv 3) pa_nil)) pa_nil)))))) (pss_one (ps_if (pt_val (pe_callB (isitK (K := K)) (by rfl) Z.T.isinstance (by decide +kernel) (pa_cons (pe_ix (ixE (K := K)) (pv 2) (pe_callB (lenK (K := K)) (by rfl) Z.T.len (by decide +kernel) (pa_cons (pv 3) pa_nil)) (fun _ _ => rfl)) (pa_cons (pe_tup (pa_cons (pe_bltn (v := .ty "list") (u := .type "list") (by rfl) Z.T.list (by decide +kernel) rfl) (pa_cons (pe_bltn (v := .ty "tuple") (u := .type "tuple") (by rfl) Z.T.tuple (by decide +kernel) rfl) pa_nil))) pa_nil)))) (pss_one (ps_expr (pe_bm PySem.F.plainAttrs_list PySem.F.slot_list_append PySem.F.type_list_append mt_append (pv 1) (pa_cons (pe_tup (pa_cons (pe_ix (ixE (K := K)) (pv 2) (pe_callB (lenK (K := K)) (by rfl) Z.T.len (by decide +kernel) (pa_cons (pv 3) pa_nil)) (fun _ _ => rfl)) (pa_cons (pe_lst pa_nil) pa_nil))) pa_nil)))) (pss_one (ps_expr (pe_bm PySem.F.plainAttrs_list PySem.F.slot_list_append PySem.F.type_list_append mt_append (pv 3) (pa_cons (pe_ix (ixE (K := K)) (pv 2) (pe_callB (lenK (K := K)) (by rfl) Z.T.len (by decide +kernel) (pa_cons (pv 3) pa_nil)) (fun _ _ => rfl)) pa_nil)))))))))))), ?_⟩
  refine ⟨_, rfl, (by show 1 ≤ sizeLine; decide), fun a na => ⟨(by show 0 ≤ sizeLine; decide), fun b nb => ⟨(by show 2 ≤ sizeLine; decide), fun t nt => ⟨(by show 1 ≤ sizeLine; decide), fun L nL => ?_⟩⟩⟩⟩
  -- H1: the heap with the list of the value
  have hS : Same H (upd H a (.lst [v])) := same_new na _
  have hE : Ext H (upd H a (.lst [v])) := Ext.upd
  have S0 := Stk.start (Dp_mono hS hd) ok upd_same nb nt nL
  generalize (upd H a (.lst [v])) = H1 at hS hE nb nt nL S0 ⊢
  generalize (upd (upd (upd H1 b (.lst [])) t (.tup [.ref a, .ref b])) L (.lst [.ref t])) = H2 at S0 ⊢
  refine ⟨fun m σ H' => ∃ (f : Frm) (r : List Frm) (x y : Option V), σ = [some v, some (.ref L), x, y] ∧ Stk K H1 L d (f :: r) H' ∧ m = mu (f :: r), ⟨_, _, _, none, none, rfl, S0, rfl⟩, ?_⟩
  rintro m σ H' ⟨f, r, x0, y0, rfl, S, rfl⟩
  refine ⟨true, rfl, iteT ⟨fun σ' H' => ∃ m', m' < mu (f :: r) ∧ ∃ (f : Frm) (r : List Frm) (x y : Option V), σ' = [some v, some (.ref L), x, y] ∧ Stk K H1 L d (f :: r) H' ∧ m' = mu (f :: r), fun _ _ h => h, ?_⟩⟩
  have F := S.ok f List.mem_cons_self
  have hL := S.hL
  rw [tops_cons] at hL
  refine ⟨_, rfl, 1, rfl, L, _, -1, _, rfl, rfl, SqL.of hL, atI_last _ _, f.t, _, rfl, SqT.of F.ht, rfl, _, _, rfl, _, _, rfl, rfl, ?_⟩
  have hxl := F.xlen
  have hln := F.len
  have srcH : SqL K H' f.s f.xs ∨ SqT K H' f.s f.xs := F.src.imp (fun h => S.same.seq h) (fun h => Same.seqT S.same h)
  have hout := F.out
  refine ⟨_, rfl, f.b, f.vs, rfl, .inl (SqL.of F.hb), _, rfl, f.s, f.xs, rfl, srcH, rfl, _, rfl, ?_⟩
  rw [int_dec]
  refine ite2 (fun c => ?_) (fun c => ?_)
  · have hf : f.vs.length = f.ds.length := by
      have := of_decide_eq_true c
      omega
    rw [hf, List.take_length] at hout
    refine ⟨_, rfl, L, _, rfl, .inl (SqL.of hL), rfl, _, rfl, ?_⟩
    rw [int_dec, ← tops_cons, tops_len]
    refine ite2 (fun c1 => ?_) (fun c1 => ?_)
    · -- the end
      have hr0 : r = [] := by
        have := of_decide_eq_true c1
        rw [List.length_cons] at this
        exact List.eq_nil_of_length_eq_zero (by omega)
      subst hr0
      obtain ⟨g, e1, e2⟩ := S.last
      simp at e1
      subst e1
      rw [e2] at hf hout
      cases hvs : f.vs with
      | nil => rw [hvs] at hf; cases hf
      | cons y ys =>
      rw [hvs] at hf hout
      cases ys with
      | cons _ _ => simp at hf
      | nil =>
      cases hout with
      | cons hy _ =>
      refine ⟨_, rfl, f.b, _, 0, _, rfl, rfl, SqL.of F.hb, by rw [hvs]; exact atI0 _ _, ?_⟩
      refine q y H' (hS.trans S.same) (Dp_mono ?_ hy)
      exact tupP_newp.trans (newp_left hE)
    · cases r with
      | nil => exact absurd (decide_eq_true rfl) c1
      | cons g r =>
      obtain ⟨S1, ⟨x, hx, ex, m1, m2⟩, out1, eb, nbg⟩ := S.up hf
      refine ⟨_, rfl, .inl ⟨rfl, _, SqL.of S.hL⟩, L, tops (f :: g :: r), .ref f.t, rfl, rfl, S.hL, tops_last _ _, ?_⟩
      rw [tops_drop]
      have hL1 : (upd H' L (.lst (tops (g :: r)))) L = some (.lst (tops r ++ [.ref g.t])) := S1.hL.trans (congrArg (fun z => some (HO.lst z)) (tops_cons g r))
      have G := S1.ok g List.mem_cons_self
      generalize (upd H' L (.lst (tops (g :: r)))) = H3 at S1 out1 eb hL1 G ⊢
      refine ⟨_, rfl, 1, rfl, L, _, -1, _, rfl, rfl, SqL.of hL1, atI_last _ _, g.t, _, 1, _, rfl, rfl, SqT.of G.ht, rfl, .inl ⟨rfl, _, SqL.of G.hb⟩, ?_⟩
      refine ⟨_, rfl, f.b, f.vs, rfl, .inl ⟨SqL.of eb, fun l nl => ?_⟩⟩
      have S2 := S1.lay (o := .tup f.vs) nl
      have hv : Dp K (tupP H1 (upd H3 l (.tup f.vs))) (.ref l) (tupD x) := by
        rw [ex]
        exact .tup (SqT.of (tupP_of (S1.same.free nl) upd_same)) (DpAll_mono (tupP_lay nl) out1)
      obtain ⟨S3, m3⟩ := S2.add hx hv
      have G2 := S2.ok g List.mem_cons_self
      have gl := G2.len
      have gle := G2.le
      refine ⟨g.b, g.vs, _, rfl, rfl, G2.hb, Nat.lt_of_le_of_lt gle (Nat.lt_of_le_of_lt gl (by decide)), ?_⟩
      exact ⟨_, by omega, _, _, _, _, rfl, S3, rfl⟩
  · -- one further item
    have hlt : f.vs.length < f.ds.length := by
      have h1 : ¬ (f.vs.length : Int) = (f.xs.length : Int) := fun z => c (decide_eq_true z)
      have := F.le
      omega
    obtain ⟨x, hx⟩ : ∃ x, f.ds[f.vs.length]? = some x := ⟨_, List.getElem?_eq_getElem hlt⟩
    obtain ⟨u, hu⟩ : ∃ u, f.xs[f.vs.length]? = some u := ⟨_, List.getElem?_eq_getElem (by omega)⟩
    have du : Dp K H1 u x := by
      obtain ⟨x', e1, e2⟩ := DpAll_get _ F.dp hu
      rw [hx] at e1
      cases e1
      exact e2
    have hat : atI f.xs (f.vs.length : Int) = some u := atI_nat hu
    have ixq : ∀ (H'' : Hp) (Q : VK), Same H' H'' → Q u H'' → rIxL K (.ref f.s) (.int (f.vs.length : Int)) H'' Q ∨ rIxT K (.ref f.s) (.int (f.vs.length : Int)) H'' Q := fun H'' Q e h => srcH.imp (fun z => ⟨f.s, f.xs, _, u, rfl, rfl, Same.seq e z, hat, h⟩) (fun z => ⟨f.s, f.xs, _, u, rfl, rfl, Same.seqT e z, hat, h⟩)
    refine ⟨_, rfl, _, rfl, f.b, f.vs, rfl, .inl (SqL.of F.hb), ixq H' _ (Same.refl H') ?_⟩
    refine ⟨(by show 2 ≤ sizeLine; decide), fun tp ntp => ?_⟩
    have S4 := S.lay (o := .tup [.ty "list", .ty "tuple"]) ntp
    have e4 := same_new ntp (.tup [.ty "list", .ty "tuple"])
    have htp : (upd H' tp (.tup [.ty "list", .ty "tuple"])) tp = _ := upd_same
    refine ⟨u, tp, [.ty "list", .ty "tuple"], _, [.type "list", .type "tuple"], isSeqD x, rfl, htp, .cons (.ty "list") (.cons (.ty "tuple") .nil), Dp_type (Dp_mono (S.same.trans e4) du), kit_seq du, _, rfl, ?_⟩
    generalize (upd H' tp (.tup [.ty "list", .ty "tuple"])) = H4 at S4 e4 ⊢
    have F4 := S4.ok f List.mem_cons_self
    refine ite2 (fun cs => ?_) (fun cs => ?_)
    · obtain ⟨a2, ys, rfl, hy, dy⟩ := Dp_seq du cs
      refine ⟨_, rfl, .inl ⟨rfl, _, SqL.of S4.hL⟩, _, rfl, _, rfl, f.b, f.vs, rfl, .inl (SqL.of F4.hb), ixq H4 _ e4 ?_⟩
      refine ⟨(by show 0 ≤ sizeLine; decide), fun b2 nb2 => ⟨(by show 2 ≤ sizeLine; decide), fun t2 nt2 => ?_⟩⟩
      obtain ⟨S5, m5⟩ := S4.down hx cs hy dy nb2 nt2
      have hdeep : r.length ≤ 60 := by
        have := S4.dp.1
        omega
      have hL5 : (upd (upd H4 b2 (.lst [])) t2 (.tup [.ref a2, .ref b2])) L = some (.lst (tops (f :: r))) := by
        have n1 : L ≠ b2 := ne_of_none S4.hL nb2
        have n2 : (upd H4 b2 (.lst [])) L = some (.lst (tops (f :: r))) := (upd_ne n1).trans S4.hL
        rw [upd_ne (ne_of_none n2 nt2)]
        exact n2
      refine ⟨L, tops (f :: r), _, rfl, rfl, hL5, ?_, ?_⟩
      · rw [tops_len, List.length_cons]
        exact Nat.lt_of_le_of_lt (Nat.succ_le_succ hdeep) (by decide)
      · exact ⟨_, by omega, _, _, _, _, rfl, S5, rfl⟩
    · obtain ⟨S5, m5⟩ := S4.add hx (Dp_atom du (Bool.eq_false_iff.mpr cs))
      have := wt_pos x
      refine ⟨_, rfl, .inl ⟨rfl, _, SqL.of F4.hb⟩, _, rfl, _, rfl, f.b, f.vs, rfl, .inl (SqL.of F4.hb), ixq H4 _ e4 ?_⟩
      refine ⟨f.b, f.vs, _, rfl, rfl, F4.hb, Nat.lt_of_le_of_lt F4.le (Nat.lt_of_le_of_lt hln (by decide)), ?_⟩
      exact ⟨_, by omega, _, _, _, _, rfl, S5, rfl⟩

/-! ### by_name -/
theorem ok_by_name (TB : LamX.TabB base mg Z.cB Z.PB) : FnOk P w K mg base CX0 4 Z.f_by_name Z.fd_by_name ["pairs"] (spBy K Z.PB) := by
  refine Z.D_by_name.ok sc_by_name (fun vs H Q E h => ?_) (fun A outer s H vs Q E hr h => ?_)
  · obtain ⟨v, d, B, rfl, _⟩ := h
    rfl
  obtain ⟨v, d, B, rfl, hd, ok, hE, hBT, hT, q⟩ := h
  refine ⟨_, (pss_cons (ps_if (pt_not (pt_val (pe_call (ok_are_named Z) (hr.mono (by decide)) (by rfl) Z.D_are_named.m Z.D_are_named.F.kp Z.D_are_named.b .nil pass0 (pa_cons (pv 0) pa_nil)))) (pss_one (ps_ret (pv 0))) pss_nil)
    (pss_one (ps_ret (pe_callTy (tupK (K := K)) (by rfl) Z.T.tuple (by decide +kernel) (pa_cons (pe_sortL (K := K) (q := qL) (by rfl) Z.T.sorted (pv 0) TB rfl hr (show (Str.ofString "by_name" ++ Str.ofString ".<locals>.") ++ Str.ofString "<lambda>" = qL by decide +kernel) rfl) pa_nil))))), ?_⟩
  refine ⟨_, rfl, v, d, rfl, Dp_mono newp_same hd, ok, fun H1 s1 => ⟨_, rfl, ite2 (fun c => ?_) (fun c => ?_)⟩⟩
  · refine ⟨_, rfl, q v H1 (ExtT.of s1) (hT.ext s1) ?_⟩
    have e : byD d = d := by
      unfold byD
      rw [if_neg (by simpa using c)]
    rw [e]
    exact Dp_mono (newp_right s1) hd
  · have hn : namedD d = true := by simpa using c
    obtain ⟨ds, rfl⟩ := named_tup hn
    have hall : ∀ e ∈ ds, nmD e = true := fun e he => List.all_eq_true.mp hn e he
    have hd1 := Dp_mono (newp_right s1) hd
    have hlen := ok.len
    cases hd1 with
    | @tup a xs _ hs ha =>
    obtain ⟨L, rfl, rfl, hL⟩ := DpAll_pairs ha hall
    rw [List.length_map] at hlen
    have hs1 := Same.seqT newp_same hs
    refine ⟨_, rfl, a, L.map (fun p => (p.1, keyD p.2)), rfl, ?_, by rw [List.length_map]; exact hlen, fun b hb => ?_, hT.ext s1, fun H2 l eN T2 nl => ?_⟩
    · rw [List.map_map]
      exact hs1
    · obtain ⟨p, hp, rfl⟩ := List.mem_map.mp hb
      obtain ⟨us, hu⟩ := pairs_key (hL p hp) (hall p.2 (List.mem_map.mpr ⟨p, hp, rfl⟩))
      exact ⟨us, Same.seqT newp_same hu⟩
    · rw [sort_data]
      refine ⟨l, _, rfl, .inl ⟨SqL.of upd_same, fun p np => ?_⟩⟩
      have w2 := same_new nl (.lst ((L.mergeSort fun p q => leD p.2 q.2).map (fun p => V.ref p.1)))
      have w3 := w2.trans (same_new np (.tup ((L.mergeSort fun p q => leD p.2 q.2).map (fun p => V.ref p.1))))
      have nB : B p = none := hE p ((Ext.of_same s1) p (eN.ext p (w2.free np)))
      have e : byD (.tuple (L.map (·.2))) = .tuple ((L.mergeSort fun p q => leD p.2 q.2).map (·.2)) := by
        unfold byD
        rw [if_pos hn, sort_snd]
        rfl
      refine q _ _ ((ExtT.of s1).trans (eN.trans (.of w3))) (T2.ext w3) ?_
      rw [e]
      refine .tup (SqT.of (by rw [newp_of nB]; exact upd_same)) (pairs_DpAll fun p hp => ?_)
      have hp' : p ∈ L := (List.mergeSort_perm L _).mem_iff.mp hp
      exact Dp_mono ((newp_extT hBT eN).trans (newp_right w3)) (hL p hp')
/-! ### BadTree, make_tree -/
/-- BadTree.__init__(self): nothing is told -/
def spIni (K : PySem.W.Frag) (C : Addr) : Sp := fun vs H Q _ => ∃ a : Addr, vs = [.ref a] ∧ H a = some (exo a C none) ∧ Q .non H
theorem ok_BadTree : FnOk P w K mg base CX0 1 Z.i_BadTree Z.fd_BadTree ["self"] (spIni K Z.c_BadTree) := by
  refine Z.E_BadTree.F.ok sc_BadTree (fun vs H Q E h => ?_) (fun cdv A outer s H vs Q E hr h => ?_)
  · obtain ⟨a, rfl, _⟩ := h
    rfl
  obtain ⟨a, rfl, ha, q⟩ := h
  refine ⟨_, pss_one (ps_expr (pe_oinit (by rfl) Z.V_VariantError.m Z.V_VariantError.rd Z.V_VariantError.ga Z.V_VariantError.ini (pa_cons (pv 0) (pa_cons pe_str pa_nil)))), ?_⟩
  exact ⟨_, rfl, a, _, _, rfl, (by show 1 ≤ 1000; decide), Z.E_BadTree.T, ha, q⟩
theorem ok_make_tree (TB : LamX.TabB base mg Z.cB Z.PB) : FnOk P w K mg base (L2.CX P w) 20 Z.f_make_tree Z.fd_make_tree ["props", "children"] (spMake K Z.PB Z.c_BadTree) := by
  refine Z.D_make_tree.F.ok sc_make_tree (fun vs H Q E h => ?_) (fun cdv A outer s H vs Q E hr h => ?_)
  · obtain ⟨v0, v1, d0, d1, rfl, _⟩ := h
    rfl
  obtain ⟨v0, v1, d0, d1, rfl, hd0, hd1, ok, hT, qY, qN⟩ := h
  refine ⟨_, (pss_cons (ps_set (i := 2) sc_make_tree.nd rfl (.inl rfl) (pe_tup (pa_cons (pe_call (ok_by_name Z TB) (hr.mono (by decide)) (by rfl) Z.D_by_name.m Z.D_by_name.F.kp Z.D_by_name.b .nil pass0 (pa_cons (pe_call (ok_as_tuples Z) (hr.mono (by decide)) (by rfl) Z.D_as_tuples.m Z.D_as_tuples.F.kp Z.D_as_tuples.b .nil pass0 (pa_cons (pv 0) pa_nil)) pa_nil)) (pa_cons (pe_call (ok_by_name Z TB) (hr.mono (by decide)) (by rfl) Z.D_by_name.m Z.D_by_name.F.kp Z.D_by_name.b .nil pass0 (pa_cons (pe_call (ok_as_tuples Z) (hr.mono (by decide)) (by rfl) Z.D_as_tuples.m Z.D_as_tuples.F.kp Z.D_as_tuples.b .nil pass0 (pa_cons (pv 1) pa_nil)) pa_nil)) pa_nil))))
    (pss_cons (ps_if (pt_not (pt_val (pe_call (ok_is_tree Z) (hr.mono (by decide)) (by rfl) Z.D_is_tree.m Z.D_is_tree.F.kp Z.D_is_tree.b .nil pass0 (pa_cons (pv 2) pa_nil)))) (pss_one (ps_raise rfl (takes_of rfl rfl rfl rfl) (pmk_oex0 Z.E_BadTree.T Z.E_BadTree.iC Z.E_BadTree.tI (ok_BadTree Z) (hr.mono (by decide)) Z.E_BadTree.b pass0 (by rfl) Z.E_BadTree.m))) pss_nil)
    (pss_one (ps_ret (pv 2))))), ?_⟩
  have ok0 := ok.item (List.mem_cons_self (a := d0) (l := [d1]))
  have ok1 := ok.item (List.mem_cons_of_mem d0 (List.mem_cons_self (a := d1) (l := [])))
  have hHT : H Z.PB ≠ none := by
    obtain ⟨ps, e, _⟩ := hT
    rw [e]
    exact Option.some_ne_none _
  refine ⟨_, rfl, v0, d0, rfl, hd0, ok0, fun w0 H1 s1 k0 => ?_⟩
  refine ⟨w0, tupD d0, H, rfl, k0, ok0.tup, .of_same s1, hHT, hT.ext s1, fun u0 H2 x2 T2 m0 => ?_⟩
  have y2 : ExtT Z.PB H H2 := (ExtT.of s1).trans x2
  refine ⟨_, rfl, v1, d1, rfl, Dp_extT hT y2 hd1, ok1, fun w1 H3 s3 k1 => ?_⟩
  have y3 : ExtT Z.PB H H3 := y2.trans (.of s3)
  refine ⟨w1, tupD d1, H, rfl, Dp_mono (newp_left y2.ext) k1, ok1.tup, y3.ext, hHT, T2.ext s3, fun u1 H4 x4 T4 m1 => ?_⟩
  have y4 : ExtT Z.PB H H4 := y3.trans x4
  have m0' : Dp K (newp H H4) u0 (byD (tupD d0)) := Dp_mono ((newp_right s3).trans (newp_extT hHT x4)) m0
  refine ⟨(by show 2 ≤ sizeLine; decide), fun t nt => ?_⟩
  have s5 := same_new nt (.tup [u0, u1])
  have y5 := y4.trans (.of s5)
  have hD : Dp K (newp H (upd H4 t (.tup [u0, u1]))) (.ref t) (mkD d0 d1) :=
    .tup (SqT.of (by rw [newp_of (y4.ext t nt)]; exact upd_same)) (.cons (Dp_mono (newp_right s5) m0') (.cons (Dp_mono (newp_right s5) m1) .nil))
  have T5 := T4.ext s5
  generalize (upd H4 t (.tup [u0, u1])) = H5 at y5 hD T5 ⊢
  refine ⟨_, rfl, _, mkD d0 d1, rfl, Dp_mono newp_same hD, mk_ok ok, fun H6 s6 => ⟨_, rfl, ite2 (fun c => ?_) (fun c => ?_)⟩⟩
  · have hF : treeD 9 (mkD d0 d1) = false := by simpa using c
    intro a na
    refine ⟨a, rfl, upd_same, rfl, upd_same, ?_⟩
    have s7 : Same H6 (del (upd H6 a (exo a Z.c_BadTree none)) a) := fun b o e => by
      have n := ne_of_none e na
      rw [del_ne n, upd_ne n]
      exact e
    exact qN hF _ (y5.trans (.of (s6.trans s7))) (T5.ext (s6.trans s7))
  · have hF : treeD 9 (mkD d0 d1) = true := by simpa using c
    exact ⟨_, rfl, qY hF _ H6 (y5.trans (.of s6)) (T5.ext s6) (Dp_mono (newp_right s6) hD)⟩

/-! ### _law_mixed -/
theorem ok__law_mixed : FnOk P w K mg base CX0 2 Z.f__law_mixed Z.fd__law_mixed ["_law_stream", "_law_some"] (spMixed K) := by
  refine Z.D__law_mixed.F.ok sc__law_mixed (fun vs H Q E h => ?_) (fun cdv A outer s H vs Q E hr h => ?_)
  · obtain ⟨S, C, n, nb, B, v, ds, rfl, _⟩ := h
    rfl
  obtain ⟨S, C, n, nb, B, v, ds, rfl, st, hn, sB, xB, hd, hl, q⟩ := h
  refine ⟨_, (pss_cons (ps_set (i := 2) sc__law_mixed.nd rfl (.inr rfl) (pe_callTy (lstK (K := K)) (by rfl) Z.T.list (by decide +kernel) (pa_cons (pv 1) pa_nil)))
    (pss_one (ps_ret (pe_lc (own := [("_law_k", 3)]) (g := gName 3) (tt := tYes) rfl sc__law_mixed.nd (pi_range1 (by rfl) Z.T.range (pa_cons (pe_callB (lenK (K := K)) (by rfl) Z.T.len (by decide +kernel) (pa_cons (pv 2) pa_nil)) pa_nil)) (blkOk_by (own := [("_law_k", 3)]) (N := ["_law_stream", "_law_some", "_law_left", "_law_k"]) (sc := defScope s__law_mixed) (by decide +kernel)) (fun _ _ _ _ _ => (pg_name (i := 3) sc__law_mixed.nd rfl (.inl rfl))) (fun _ _ _ _ _ => pts_nil) (fun _ _ _ _ _ => (pe_bmE (K := K) PySem.F.plainAttrs_list PySem.F.slot_list_pop PySem.F.type_list_pop mt_popAt (pv 2) (pa_cons (pe_call (ok__law_draw Z) (hr.mono (by decide)) (by rfl) Z.D__law_draw.m Z.D__law_draw.F.kp Z.D__law_draw.b .nil pass0 (pa_cons (pv 0) (pa_cons (pe_callB (lenK (K := K)) (by rfl) Z.T.len (by decide +kernel) (pa_cons (pv 2) pa_nil)) pa_nil))) pa_nil))))))), ?_⟩
  cases hd with
  | @tup a xs _ hs ha =>
  have hxl := DpAll_len ha
  refine ⟨_, rfl, a, xs, rfl, .inr (Same.seqT newp_same hs), fun L nL => ?_⟩
  obtain ⟨G1, b1, b2, b3, b4, b5⟩ := side_ext sB xB nL (.lst xs)
  have LS := st.neS nL
  have LC := st.neC nL
  have hL0 : (upd H L (.lst xs)) L = some (.lst xs) := upd_same
  have s1 := st.lay nL (.lst xs)
  have f1 : Fr S C H (upd H L (.lst xs)) := Fr.lay nL _
  have d1 : DpAll K (newp G1 (upd H L (.lst xs))) xs ds := DpAll_mono (b4.trans (newp_right (same_new nL _))) ha
  generalize (upd H L (.lst xs)) = H1 at b5 hL0 s1 f1 d1 ⊢
  refine ⟨_, rfl, L, xs, rfl, .inl (SqL.of hL0), (xs.length : Int), rfl, by omega, by omega, fun D nD => ?_⟩
  obtain ⟨G2, c1, c2, c3, c4, c5⟩ := side_ext b3 b5 nD (.lst [])
  have DS := s1.neS nD
  have DC := s1.neC nD
  have LD : L ≠ D := ne_of_none hL0 nD
  have L2' : G2 L ≠ none := fun z => b2 (c1 L z)
  have nDH : H D = none := Fr.ext s1 f1 D nD
  have xB2 : Ext B G2 := b1.trans c1
  rw [hxl]
  refine lc_range (lo := 0) (n := ds.length) (fun i H' => ∃ ls es vs fs, H' L = some (.lst ls) ∧ H' D = some (.lst vs) ∧ DpAll K (newp G2 H') ls es ∧ DpAll K (newp G2 H') vs fs ∧ (fs ++ es).Perm ds ∧ es.length + i = ds.length ∧ Strm S C (n + i) H' ∧ Fr S C H H' ∧ Ext G2 H')
    ⟨xs, ds, [], [], by rw [upd_ne LD]; exact hL0, upd_same, DpAll_mono (c4.trans (newp_right (same_new nD _))) d1, .nil, .refl _, rfl, s1.lay nD _, f1.trans (Fr.lay nD _), c5⟩ ?_ ?_
  · rintro i H3 hi ⟨ls, es, vs, fs, eL, eD, dl, dv, pm, le, s3, f3, x3⟩
    refine ⟨rfl, ?_⟩
    unfold tYes
    refine iteT ?_
    have hll := DpAll_len dl
    refine ⟨_, rfl, .inl ⟨rfl, _, SqL.of eL⟩, _, rfl, _, rfl, L, ls, rfl, .inl (SqL.of eL), S, C, n + i, _, rfl, s3, by omega, by omega, by omega, fun r H4 r0 r1 s4 f4 => ?_⟩
    have eL4 := cut_keep f4 LS LC eL
    have eD4 := cut_keep f4 DS DC eD
    have hr : r.toNat < es.length := by omega
    obtain ⟨x, hx⟩ : ∃ x, es[r.toNat]? = some x := ⟨_, List.getElem?_eq_getElem hr⟩
    obtain ⟨u, hu⟩ : ∃ u, ls[r.toNat]? = some u := ⟨_, List.getElem?_eq_getElem (by omega)⟩
    have dx : Dp K (newp G2 H4) u x := by
      obtain ⟨x', e1, e2⟩ := DpAll_get _ dl hu
      rw [hx] at e1
      cases e1
      exact Dp_mono (newp_fr c3 f4) e2
    have dl4 := DpAll_mono (newp_fr c3 f4) dl
    have dv4 := DpAll_mono (newp_fr c3 f4) dv
    have x4 := x3.trans (Fr.ext s4 f4)
    refine ⟨L, ls, r, r.toNat, u, rfl, rfl, eL4, by omega, by omega, seqIx r0 (by omega), hu, vs, ?_, ?_, ?_⟩
    · rw [upd_ne LD.symm]
      exact eD4
    · have h1 := DpAll_len dv
      have h2 := pm.length_eq
      rw [List.length_append] at h2
      exact Nat.lt_of_le_of_lt (show vs.length ≤ 10000000 by omega) (by decide)
    · have w1 : Same (newp G2 H4) (newp G2 (upd H4 L (.lst (ls.eraseIdx r.toNat)))) := newp_upd L2'
      have w2 : Same (newp G2 (upd H4 L (.lst (ls.eraseIdx r.toNat)))) (newp G2 (upd (upd H4 L (.lst (ls.eraseIdx r.toNat))) D (.lst (vs ++ [u])))) := newp_upd c2
      have w := w1.trans w2
      refine ⟨ls.eraseIdx r.toNat, es.eraseIdx r.toNat, vs ++ [u], fs ++ [x], by rw [upd_ne LD, upd_same], upd_same, DpAll_erase _ (DpAll_mono w dl4), DpAll_snoc (DpAll_mono w dv4) (Dp_mono w dx), ?_, ?_, ?_, ?_, (x4.trans Ext.upd).trans Ext.upd⟩
      · rw [List.append_assoc]
        exact ((getElem_perm hx).append_left fs).trans pm
      · rw [List.length_eraseIdx, if_pos hr]
        omega
      · exact (s4.upd LS LC _).upd DS DC _
      · exact Fr.upd (Fr.upd (f3.trans f4) nL) nDH
  · rintro H3 ⟨ls, es, vs, fs, eL, eD, dl, dv, pm, le, s3, f3, x3⟩
    have e0 : es = [] := List.eq_nil_of_length_eq_zero (by omega)
    subst e0
    rw [List.append_nil] at pm
    exact q D vs fs H3 nDH eD (DpAll_mono (newp_left xB2) dv) pm s3 f3

/-! ### _law_listed -/
theorem listed_step (m kk : Nat) (spR : Sp) (ih : FnOk P w K mg base CX0 kk Z.f__law_listed Z.fd__law_listed ["_law_stream", "_law_thing_here"] spR) (hk : kk ≤ m + 1) (hsp : ∀ m', m = m' + 1 → spR = spListed K m') : FnOk P w K mg base CX0 (m+2) Z.f__law_listed Z.fd__law_listed ["_law_stream", "_law_thing_here"] (spListed K m) := by
  refine Z.D__law_listed.F.ok sc__law_listed (fun vs H Q E h => ?_) (fun cdv A outer s H vs Q E hr h => ?_)
  · obtain ⟨S, C, n, nb, B, v, d, rfl, _⟩ := h
    rfl
  obtain ⟨S, C, n, nb, B, v, d, rfl, st, hn, sB, xB, hd, hm, ok, q⟩ := h
  have hr1 : Room 1 (A.deeper (envOfC "_law_listed" (defScope s__law_listed) s.heap.objs.size Z.f__law_listed cdv)) := hr.mono (by omega)
  have hrk : Room kk (A.deeper (envOfC "_law_listed" (defScope s__law_listed) s.heap.objs.size Z.f__law_listed cdv)) := hr.mono hk
  refine ⟨_, (pss_cons (ps_if (pt_not (pt_val (pe_callB (isiK (K := K)) (by rfl) Z.T.isinstance (by decide +kernel) (pa_cons (pv 1) (pa_cons (pe_bltn (v := .ty "tuple") (u := .type "tuple") (by rfl) Z.T.tuple (by decide +kernel) rfl) pa_nil))))) (pss_one (ps_ret (pv 1))) pss_nil)
    (pss_cons (ps_setLc (i := 2) (own := [("_law_part", 3)]) (g := gName 3) (tt := tYes) rfl sc__law_listed.nd rfl rfl (sw_true rfl rfl rfl (by decide +kernel)) (pi_tup (pv 1)) (blkOk_by (own := [("_law_part", 3)]) (N := ["_law_stream", "_law_thing_here", "_law_parts", "_law_part"]) (sc := defScope s__law_listed) (by decide +kernel)) (fun _ _ _ _ _ => (pg_name (i := 3) sc__law_listed.nd rfl (.inl rfl))) (fun _ _ _ _ _ => pts_nil) (fun _ _ _ _ _ => (pe_call ih hrk (by rfl) Z.D__law_listed.m Z.D__law_listed.F.kp Z.D__law_listed.b .nil pass0 (pa_cons (pv 0) (pa_cons (pv 3) pa_nil)))))
    (pss_one (ps_ret (pe_ix (ixL (K := K)) (pe_lst (pa_cons (pv 2) (pa_cons (pe_callTy (tupK (K := K)) (by rfl) Z.T.tuple (by decide +kernel) (pa_cons (pv 2) pa_nil)) pa_nil))) (pe_call (ok__law_draw Z) hr1 (by rfl) Z.D__law_draw.m Z.D__law_draw.F.kp Z.D__law_draw.b .nil pass0 (pa_cons (pv 0) (pa_cons pe_int pa_nil))) (fun _ _ => rfl)))))), ?_⟩
  have hd0 := Dp_mono newp_same hd
  refine ⟨_, rfl, _, _, _, _, isTup d, rfl, .ty "tuple", Dp_type hd0, kit_tup hd0, _, rfl, ?_⟩
  have plain : isTup d = false → Q v H := fun e => q v d H hd rfl id (st.mono (by omega)) (.of_same (Same.refl H))
  cases d with
  | tuple ds =>
    refine iteF ?_
    cases m with
    | zero =>
      simp only [PyData.depth] at hm
      omega
    | succ m =>
    obtain rfl := hsp m rfl
    have hm' : PyData.depthAll ds ≤ m := by
      simp only [PyData.depth] at hm
      omega
    cases hd with
    | @tup a xs _ hs ha =>
    have hn' : n + (1 + nts ds) ≤ 20000000 := hn
    refine ⟨_, rfl, a, rfl, ⟨xs, Same.seqT newp_same hs⟩, fun D nD => ?_⟩
    obtain ⟨G, b1, b2, b3, b4, b5⟩ := side_ext sB xB nD (.lst [])
    have DS := st.neS nD
    have DC := st.neC nD
    have haG : DpAll K (newp G H) xs ds := DpAll_mono b4 ha
    have hsG : SqT K (newp G H) a xs := Same.seqT b4 hs
    refine lc_tup (xs := xs) (fun i H' => ∃ vs es, H' D = some (.lst vs) ∧ DpAll K (newp G H') vs es ∧ es.map tupD = (ds.take i).map tupD ∧ Strm S C (n + nts (ds.take i)) H' ∧ Fr S C H H' ∧ Ext G H')
      ⟨[], [], upd_same, .nil, rfl, (st.lay nD _).mono (Nat.le_refl _), Fr.lay nD _, b5⟩ (fun i H' _ p => ?_) ?_ ?_
    · obtain ⟨_, _, _, _, _, _, f, _⟩ := p
      exact Same.seqT ((newp_fr b3 f).trans newp_same) hsG
    · rintro i u H3 hu ⟨vs, es, eD, dv, et, s3, f3, x3⟩
      refine ⟨rfl, ?_⟩
      unfold tYes
      refine iteT ?_
      obtain ⟨x, hx, dx⟩ := DpAll_get i haG hu
      have dx3 : Dp K (newp G H3) u x := Dp_mono (newp_fr b3 f3) dx
      have okx := ok.item (List.mem_of_getElem? hx)
      have dpx := depthAll_get hx
      have tk := nts_take hx
      have tl : nts (ds.take (i + 1)) ≤ nts ds := by
        have e := List.take_append_drop (i + 1) ds
        have app : ∀ a b : List PyData, nts (a ++ b) = nts a + nts b := fun a b => by
          induction a with
          | nil => simp [nts]
          | cons x a ih =>
            simp only [List.cons_append, nts, ih]
            omega
        have e2 := app (ds.take (i + 1)) (ds.drop (i + 1))
        rw [e] at e2
        omega
      refine ⟨_, rfl, _, rfl, S, C, _, nb, G, u, x, rfl, s3, by omega, b3, x3, dx3, by omega, okx, fun v' d' H4 dv' et' _ s4 f4 => ?_⟩
      have eD4 := cut_keep f4 DS DC eD
      refine ⟨vs, eD4, ?_, vs ++ [v'], es ++ [d'], upd_same, DpAll_snoc (DpAll_mono ((newp_fr b3 f4).trans (newp_upd b2)) dv) (Dp_mono (newp_upd b2) dv'), ?_, ?_, Fr.upd (f3.trans f4) nD, (x3.trans (Fr.ext s4 f4)).trans Ext.upd⟩
      · have h1 := DpAll_len dv
        have h2 := congrArg List.length et
        rw [List.length_map, List.length_map, List.length_take] at h2
        have h3 := ok.len
        have h4 := (List.getElem?_eq_some_iff.mp hx).1
        omega
      · rw [List.map_append, et, take_snoc hx, List.map_append]
        show _ ++ [tupD d'] = _ ++ [tupD x]
        rw [et']
      · have := s4.upd DS DC (.lst (vs ++ [v']))
        exact this.mono (by omega)
    · rintro H3 ⟨vs, es, eD, dv, et, s3, f3, x3⟩
      have hxl := DpAll_len ha
      rw [hxl, List.take_length] at et s3
      have dvB : DpAll K (newp B H3) vs es := DpAll_mono (newp_left b1) dv
      have xB3 : Ext B H3 := b1.trans x3
      have eT : tupDs es = tupDs ds := by rw [tupDs_map, tupDs_map, et]
      refine ⟨_, rfl, _, rfl, D, vs, rfl, .inl ⟨SqL.of eD, fun l nl => ⟨(by show 2 ≤ sizeLine; decide), fun p np => ?_⟩⟩⟩
      have w1 := same_new nl (.tup vs)
      have el : (upd H3 l (.tup vs)) l = _ := upd_same
      have nlB := xB3 l nl
      have s4 := s3.lay nl (.tup vs)
      generalize (upd H3 l (.tup vs)) = H4 at w1 el np s4 ⊢
      have f4 := f3.trans (Fr.of_same w1)
      refine ⟨_, rfl, S, C, _, 2, rfl, s4.lay np _, by omega, by decide, by decide, fun r H5 r0 r1 s5 f5 => ?_⟩
      have ep : H5 p = some (.lst [.ref D, .ref l]) := s4.keep np f5
      have f45 : Fr S C H4 H5 := (Fr.lay np _).trans f5
      have f35 : Fr S C H3 H5 := (Fr.of_same w1).trans f45
      have fin : ∀ v' d', Dp K (newp B H5) v' d' → tupD d' = tupD (.tuple ds) → LivL (newp B H5) v' d' → Q v' H5 := fun v' d' h1 h2 h3 => q v' d' H5 h1 h2 (fun _ => h3) (s5.mono (by show n + nts ds + 1 ≤ n + (1 + nts ds); omega)) (f4.trans f45)
      have dv5 : DpAll K (newp B H5) vs es := DpAll_mono (newp_fr sB f35) dvB
      have r2 : r = 0 ∨ r = 1 := by omega
      rcases r2 with rfl | rfl
      · refine ⟨p, _, 0, _, rfl, rfl, SqL.of ep, rfl, fin _ (.list es) (.lst (SqL.of ?_) dv5) ?_ (.lst ((newp_of (xB D nD)).trans (cut_keep f35 DS DC eD)) (DpAll_len dv))⟩
        · rw [newp_of (xB D nD)]
          exact cut_keep f35 DS DC eD
        · rw [tupD, tupD, eT]
      · refine ⟨p, _, 1, _, rfl, rfl, SqL.of ep, rfl, fin _ (.tuple es) (.tup (SqT.of ?_) dv5) ?_ (.not rfl)⟩
        · rw [newp_of nlB]
          exact cut_keep f45 (s3.neS nl) (s3.neC nl) el
        · rw [tupD, tupD, eT]
  | _ => exact iteT ⟨_, rfl, plain rfl⟩
theorem ok__law_listed (m : Nat) : FnOk P w K mg base CX0 (m+2) Z.f__law_listed Z.fd__law_listed ["_law_stream", "_law_thing_here"] (spListed K m) := by
  induction m with
  | zero => exact listed_step Z 0 0 (fun _ _ _ _ => False) ⟨fun _ _ _ _ h => h.elim, fun _ _ _ _ _ _ _ _ _ _ _ _ _ h => h.elim⟩ (Nat.zero_le _) (fun m' h => nomatch h)
  | succ m ih => exact listed_step Z (m + 1) (m + 2) _ ih (Nat.le_refl _) fun m' h => by rw [Nat.succ.inj h]

/-! ### _law_tupled -/
theorem tupled_step (m kk : Nat) (spR : Sp) (ih : FnOk P w K mg base CX0 kk Z.f__law_tupled Z.fd__law_tupled ["_law_thing_here"] spR) (hk : kk ≤ m) (hsp : ∀ m', m = m' + 1 → spR = spTupled K m') : FnOk P w K mg base CX0 (m+1) Z.f__law_tupled Z.fd__law_tupled ["_law_thing_here"] (spTupled K m) := by
  refine Z.D__law_tupled.F.ok sc__law_tupled (fun vs H Q E h => ?_) (fun cdv A outer s H vs Q E hr h => ?_)
  · obtain ⟨v, d, rfl, _⟩ := h
    rfl
  obtain ⟨v, d, rfl, hd, hm, ok, q⟩ := h
  have hrk : Room kk (A.deeper (envOfC "_law_tupled" (defScope s__law_tupled) s.heap.objs.size Z.f__law_tupled cdv)) := hr.mono hk
  refine ⟨_, (pss_one (ps_ret (pe_ifExp (pt_val (pe_callB (isitK (K := K)) (by rfl) Z.T.isinstance (by decide +kernel) (pa_cons (pv 0) (pa_cons (pe_tup (pa_cons (pe_bltn (v := .ty "list") (u := .type "list") (by rfl) Z.T.list (by decide +kernel) rfl) (pa_cons (pe_bltn (v := .ty "tuple") (u := .type "tuple") (by rfl) Z.T.tuple (by decide +kernel) rfl) pa_nil))) pa_nil)))) (pe_callTy (tupK (K := K)) (by rfl) Z.T.tuple (by decide +kernel) (pa_cons (pe_lc (own := [("_law_part", 1)]) (g := gName 1) (tt := tYes) rfl sc__law_tupled.nd (pi_either (K := K) (pv 0)) (blkOk_by (own := [("_law_part", 1)]) (N := ["_law_thing_here", "_law_part"]) (sc := defScope s__law_tupled) (by decide +kernel)) (fun _ _ _ _ _ => (pg_name (i := 1) sc__law_tupled.nd rfl (.inl rfl))) (fun _ _ _ _ _ => pts_nil) (fun _ _ _ _ _ => (pe_call ih hrk (by rfl) Z.D__law_tupled.m Z.D__law_tupled.F.kp Z.D__law_tupled.b .nil pass0 (pa_cons (pv 1) pa_nil)))) pa_nil)) (pv 0)))), ?_⟩
  refine ⟨_, rfl, (by show 2 ≤ sizeLine; decide), fun tp ntp => ?_⟩
  have s1 := same_new ntp (.tup [.ty "list", .ty "tuple"])
  have htp : (upd H tp (.tup [.ty "list", .ty "tuple"])) tp = _ := upd_same
  refine ⟨v, tp, [.ty "list", .ty "tuple"], _, [.type "list", .type "tuple"], isSeqD d, rfl, htp, .cons (.ty "list") (.cons (.ty "tuple") .nil), Dp_type (Dp_mono s1 hd), kit_seq hd, _, rfl, ?_⟩
  have hd1 := Dp_mono s1 hd
  generalize (upd H tp (.tup [.ty "list", .ty "tuple"])) = H1 at s1 hd1 ⊢
  refine ite2 (fun c => ?_) (fun c => ?_)
  · obtain ⟨a, xs, rfl, hq, ha⟩ := Dp_seq hd1 c
    have e1 := tupD_seq c
    have hdep := depth_seq c
    have hlen : (seqItems d).length ≤ sizeLine := by
      have h1 := big_seq c
      have h2 := bigs_len (seqItems d)
      have h3 := ok.big
      omega
    have okI : ∀ x ∈ seqItems d, Ok x := fun x hx => by
      have okt : Ok (.tuple (seqItems d)) := by
        cases d with
        | tuple ds => exact ok
        | list ds => exact ⟨ok.fine, ok.big, ok.depth⟩
        | _ => cases c
      exact okt.item hx
    cases m with
    | zero => omega
    | succ m =>
    obtain rfl := hsp m rfl
    have hds : PyData.depthAll (seqItems d) ≤ m := by omega
    have fin : ∀ v' H', Same H H' → Dp K (newp H H') v' (.tuple ((seqItems d).map tupD)) → Q v' H' := fun v' H' s h => q v' H' s (by rw [e1]; exact h)
    generalize seqItems d = ds at ha hlen okI hds fin
    refine ⟨_, rfl, a, rfl, ?_⟩
    rcases hq with hq | hq
    · refine .inl ⟨⟨xs, hq⟩, fun D nD => ?_⟩
      refine lc_list (xs := xs) (fun i H' => ∃ vs, H' D = some (.lst vs) ∧ DpAll K (newp (upd H1 D (.lst [])) H') vs ((ds.take i).map tupD) ∧ Same H1 H' ∧ Ext (upd H1 D (.lst [])) H')
        ⟨[], upd_same, .nil, same_new nD _, fun _ h => h⟩ (fun i H' _ p => ?_) ?_ ?_
      · obtain ⟨_, _, _, e, _⟩ := p
        exact Same.seq e hq
      · rintro i u H3 hu ⟨vs, eD, dv, s3, x3⟩
        refine ⟨rfl, ?_⟩
        unfold tYes
        refine iteT ?_
        obtain ⟨x, hx, dx⟩ := DpAll_get i ha hu
        have dpx := depthAll_get hx
        refine ⟨_, rfl, u, x, rfl, Dp_mono s3 dx, by omega, okI x (List.mem_of_getElem? hx), fun v' H4 s4 dv' => ?_⟩
        have eD4 := s4 _ _ eD
        have tr : (upd H1 D (.lst [])) D ≠ none := by rw [upd_same]; exact Option.some_ne_none _
        refine ⟨vs, eD4, ?_, vs ++ [v'], upd_same, ?_, fun b o e => ?_, (x3.trans (.of_same s4)).trans Ext.upd⟩
        · have h1 := DpAll_len dv
          rw [List.length_map, List.length_take] at h1
          have h4 := (List.getElem?_eq_some_iff.mp hx).1
          omega
        · rw [take_snoc hx, List.map_append]
          exact DpAll_snoc (DpAll_mono ((newp_right s4).trans (newp_upd tr)) dv) (Dp_mono ((newp_left x3).trans (newp_upd tr)) dv')
        · rw [upd_ne (ne_of_none e nD)]
          exact s4 _ _ (s3 _ _ e)
      · rintro H3 ⟨vs, eD, dv, s3, x3⟩
        rw [DpAll_len ha, List.take_length] at dv
        refine ⟨D, vs, rfl, .inl ⟨SqL.of eD, fun l nl => ?_⟩⟩
        have wl := same_new nl (.tup vs)
        have xH : Ext H (upd H1 D (.lst [])) := (Ext.of_same s1).trans Ext.upd
        exact fin _ _ ((s1.trans s3).trans wl) (.tup (SqT.of (by rw [newp_of (xH l (x3 l nl))]; exact upd_same)) (DpAll_mono ((newp_left xH).trans (newp_right wl)) dv))
    · refine .inr ⟨⟨xs, hq⟩, fun D nD => ?_⟩
      refine lc_tup (xs := xs) (fun i H' => ∃ vs, H' D = some (.lst vs) ∧ DpAll K (newp (upd H1 D (.lst [])) H') vs ((ds.take i).map tupD) ∧ Same H1 H' ∧ Ext (upd H1 D (.lst [])) H')
        ⟨[], upd_same, .nil, same_new nD _, fun _ h => h⟩ (fun i H' _ p => ?_) ?_ ?_
      · obtain ⟨_, _, _, e, _⟩ := p
        exact Same.seqT e hq
      · rintro i u H3 hu ⟨vs, eD, dv, s3, x3⟩
        refine ⟨rfl, ?_⟩
        unfold tYes
        refine iteT ?_
        obtain ⟨x, hx, dx⟩ := DpAll_get i ha hu
        have dpx := depthAll_get hx
        refine ⟨_, rfl, u, x, rfl, Dp_mono s3 dx, by omega, okI x (List.mem_of_getElem? hx), fun v' H4 s4 dv' => ?_⟩
        have eD4 := s4 _ _ eD
        have tr : (upd H1 D (.lst [])) D ≠ none := by rw [upd_same]; exact Option.some_ne_none _
        refine ⟨vs, eD4, ?_, vs ++ [v'], upd_same, ?_, fun b o e => ?_, (x3.trans (.of_same s4)).trans Ext.upd⟩
        · have h1 := DpAll_len dv
          rw [List.length_map, List.length_take] at h1
          have h4 := (List.getElem?_eq_some_iff.mp hx).1
          omega
        · rw [take_snoc hx, List.map_append]
          exact DpAll_snoc (DpAll_mono ((newp_right s4).trans (newp_upd tr)) dv) (Dp_mono ((newp_left x3).trans (newp_upd tr)) dv')
        · rw [upd_ne (ne_of_none e nD)]
          exact s4 _ _ (s3 _ _ e)
      · rintro H3 ⟨vs, eD, dv, s3, x3⟩
        rw [DpAll_len ha, List.take_length] at dv
        refine ⟨D, vs, rfl, .inl ⟨SqL.of eD, fun l nl => ?_⟩⟩
        have wl := same_new nl (.tup vs)
        have xH : Ext H (upd H1 D (.lst [])) := (Ext.of_same s1).trans Ext.upd
        exact fin _ _ ((s1.trans s3).trans wl) (.tup (SqT.of (by rw [newp_of (xH l (x3 l nl))]; exact upd_same)) (DpAll_mono ((newp_left xH).trans (newp_right wl)) dv))
  · refine ⟨_, rfl, q v H1 s1 (Dp_atom hd (Bool.eq_false_iff.mpr c))⟩
theorem ok__law_tupled (m : Nat) : FnOk P w K mg base CX0 (m+1) Z.f__law_tupled Z.fd__law_tupled ["_law_thing_here"] (spTupled K m) := by
  induction m with
  | zero => exact tupled_step Z 0 0 (fun _ _ _ _ => False) ⟨fun _ _ _ _ h => h.elim, fun _ _ _ _ _ _ _ _ _ _ _ _ _ h => h.elim⟩ (Nat.zero_le _) (fun m' h => nomatch h)
  | succ m ih => exact tupled_step Z (m + 1) (m + 1) _ ih (Nat.le_refl _) fun m' h => by rw [Nat.succ.inj h]

/-! ### _law_due_tree -/
theorem ok__law_due_tree : FnG P w K mg base CX0 70 Z.f__law_due_tree Z.fd__law_due_tree ["_law_props_here", "_law_children"] (spDue K) := by
  refine Fun_okG Z.D__law_due_tree.F sc__law_due_tree (fun vs H Q E h => ?_) (fun cdv A outer s H vs Q E hG hr h => ?_)
  · obtain ⟨v0, v1, d0, d1, rfl, _⟩ := h
    rfl
  obtain ⟨v0, v1, d0, d1, rfl, hd0, hd1, ok, qY, qN⟩ := h
  refine ⟨_, (pss_cons (ps_set (i := 2) sc__law_due_tree.nd rfl (.inl rfl) (pe_lst pa_nil))
    (pss_cons (ps_for PassesOwn.never rfl (pi_tup (pe_tup (pa_cons (pe_call (ok__law_tupled Z 60) (hr.mono (by decide)) (by rfl) Z.D__law_tupled.m Z.D__law_tupled.F.kp Z.D__law_tupled.b .nil pass0 (pa_cons (pv 0) pa_nil)) (pa_cons (pe_call (ok__law_tupled Z 60) (hr.mono (by decide)) (by rfl) Z.D__law_tupled.m Z.D__law_tupled.F.kp Z.D__law_tupled.b .nil pass0 (pa_cons (pv 1) pa_nil)) pa_nil)))) (pg_name (i := 3) sc__law_due_tree.nd rfl (.inl rfl)) (pss_cons (ps_if (PW.pt (pw_or (pt_not (pt_val (pe_callB (isiK (K := K)) (by rfl) Z.T.isinstance (by decide +kernel) (pa_cons (pv 3) (pa_cons (pe_bltn (v := .ty "tuple") (u := .type "tuple") (by rfl) Z.T.tuple (by decide +kernel) rfl) pa_nil))))) (pw_or1 (pt_not (pt_val (pe_callB (allK (K := K) rfl) (by rfl) Z.T.all (by decide +kernel) (pa_cons (pe_lc (own := [("_law_pair", 4)]) (g := gName 4) (tt := tYes) rfl sc__law_due_tree.nd (pi_tup (pv 3)) (blkOk_by (own := [("_law_pair", 4)]) (N := ["_law_props_here", "_law_children", "_law_found", "_law_pairs", "_law_pair", "_law_known", "_law_name"]) (sc := defScope s__law_due_tree) (by decide +kernel)) (fun _ _ _ _ _ => (pg_name (i := 4) sc__law_due_tree.nd rfl (.inl rfl))) (fun _ _ _ _ _ => pts_nil) (fun _ _ _ _ _ => (pe_and (pe_callB (isiK (K := K)) (by rfl) Z.T.isinstance (by decide +kernel) (pa_cons (pv 4) (pa_cons (pe_bltn (v := .ty "tuple") (u := .type "tuple") (by rfl) Z.T.tuple (by decide +kernel) rfl) pa_nil))) (pe_one (pe_cmpR op_eq (pe_callB (lenK (K := K)) (by rfl) Z.T.len (by decide +kernel) (pa_cons (pv 4) pa_nil)) pe_int (nomark _)))))) pa_nil))))))) (pss_one (ps_ret pe_non)) pss_nil)
    (pss_cons (ps_if (pt_not (pt_val (pe_callB (allK (K := K) rfl) (by rfl) Z.T.all (by decide +kernel) (pa_cons (pe_lc (own := [("_law_pair", 4)]) (g := gName 4) (tt := tYes) rfl sc__law_due_tree.nd (pi_tup (pv 3)) (blkOk_by (own := [("_law_pair", 4)]) (N := ["_law_props_here", "_law_children", "_law_found", "_law_pairs", "_law_pair", "_law_known", "_law_name"]) (sc := defScope s__law_due_tree) (by decide +kernel)) (fun _ _ _ _ _ => (pg_name (i := 4) sc__law_due_tree.nd rfl (.inl rfl))) (fun _ _ _ _ _ => pts_nil) (fun _ _ _ _ _ => (pe_call (ok__law_is_name Z) (hr.mono (by decide)) (by rfl) Z.D__law_is_name.m Z.D__law_is_name.F.kp Z.D__law_is_name.b .nil pass0 (pa_cons (pe_ix (ixT (K := K)) (pv 4) pe_int (fun _ _ => rfl)) pa_nil)))) pa_nil)))) (pss_one (ps_ret pe_non)) pss_nil)
    (pss_cons (ps_set (i := 5) sc__law_due_tree.nd rfl (.inr rfl) (pe_callTy (dictK (K := K) rfl) (by rfl) Z.T.dict (by decide +kernel) (pa_cons (pe_lc (own := [("_law_pair", 4)]) (g := gName 4) (tt := tYes) rfl sc__law_due_tree.nd (pi_tup (pv 3)) (blkOk_by (own := [("_law_pair", 4)]) (N := ["_law_props_here", "_law_children", "_law_found", "_law_pairs", "_law_pair", "_law_known", "_law_name"]) (sc := defScope s__law_due_tree) (by decide +kernel)) (fun _ _ _ _ _ => (pg_name (i := 4) sc__law_due_tree.nd rfl (.inl rfl))) (fun _ _ _ _ _ => pts_nil) (fun _ _ _ _ _ => (pe_tup (pa_cons (pe_ix (ixT (K := K)) (pv 4) pe_int (fun _ _ => rfl)) (pa_cons (pv 4) pa_nil))))) pa_nil)))
    (pss_cons (ps_if (pt_cmpR op_ne (pe_callB call_lenD (by rfl) Z.T.len (by decide +kernel) (pa_cons (pv 5) pa_nil)) (pe_callB (lenK (K := K)) (by rfl) Z.T.len (by decide +kernel) (pa_cons (pv 3) pa_nil)) (nomark _)) (pss_one (ps_ret pe_non)) pss_nil)
    (pss_one (ps_expr (pe_bm PySem.F.plainAttrs_list PySem.F.slot_list_append PySem.F.type_list_append mt_append (pv 2) (pa_cons (pe_callTy (tupK (K := K)) (by rfl) Z.T.tuple (by decide +kernel) (pa_cons (pe_lc (own := [("_law_name", 6)]) (g := gName 6) (tt := tYes) rfl sc__law_due_tree.nd (pi_list (pe_callB (sortedDA rfl hr.units) (by rfl) Z.T.sorted (by decide +kernel) (pa_cons (pv 5) pa_nil))) (blkOk_by (own := [("_law_name", 6)]) (N := ["_law_props_here", "_law_children", "_law_found", "_law_pairs", "_law_pair", "_law_known", "_law_name"]) (sc := defScope s__law_due_tree) (by decide +kernel)) (fun _ _ _ _ _ => (pg_name (i := 6) sc__law_due_tree.nd rfl (.inl rfl))) (fun _ _ _ _ _ => pts_nil) (fun _ _ _ _ _ => (pe_dget (hu_of hr) (pv 5) (pv 6) (fun _ _ => rfl)))) pa_nil)) pa_nil)))))))))
    (pss_one (ps_ret (pe_ifExp (pt_val (pe_callG (ok__law_is_tree Z 9) hG (hr.mono (by decide)) (by rfl) Z.D__law_is_tree.m Z.D__law_is_tree.F.kp Z.D__law_is_tree.b .nil pass0 (pa_cons (pe_callTy (tupK (K := K)) (by rfl) Z.T.tuple (by decide +kernel) (pa_cons (pv 2) pa_nil)) (pa_cons pe_int pa_nil)))) (pe_callTy (tupK (K := K)) (by rfl) Z.T.tuple (by decide +kernel) (pa_cons (pv 2) pa_nil)) pe_non))))), ?_⟩
  have ok0 := ok.item (List.mem_cons_self (a := d0) (l := [d1]))
  have ok1 := ok.item (List.mem_cons_of_mem d0 (List.mem_cons_self (a := d1) (l := [])))
  refine ⟨(by show 0 ≤ sizeLine; decide), fun F nF => ?_⟩
  have w1 := same_new nF (.lst [])
  have eF1 : (upd H F (.lst [])) F = some (.lst []) := upd_same
  have x1 : Ext H (upd H F (.lst [])) := Ext.upd
  generalize (upd H F (.lst [])) = H1 at w1 eF1 x1 ⊢
  have hF1 : H1 F ≠ none := by rw [eF1]; exact Option.some_ne_none _
  refine ⟨_, rfl, v0, d0, rfl, Dp_mono w1 hd0, ok0.depth, ok0, fun u0 H2 s2 k0 => ?_⟩
  refine ⟨_, rfl, v1, d1, rfl, Dp_mono (w1.trans s2) hd1, ok1.depth, ok1, fun u1 H3 s3 k1 => ⟨(by show 2 ≤ sizeLine; decide), fun t nt => ?_⟩⟩
  have s4 := same_new nt (.tup [u0, u1])
  have et : (upd H3 t (.tup [u0, u1])) t = some (.tup [u0, u1]) := upd_same
  have m0 : Dp K (newp H1 (upd H3 t (.tup [u0, u1]))) u0 (tupD d0) := Dp_mono ((newp_right s3).trans (newp_right s4)) k0
  have m1 : Dp K (newp H1 (upd H3 t (.tup [u0, u1]))) u1 (tupD d1) := Dp_mono ((newp_left (Ext.of_same s2)).trans (newp_right s4)) k1
  have s14 := (s2.trans s3).trans s4
  generalize (upd H3 t (.tup [u0, u1])) = H4 at s14 et m0 m1 ⊢
  -- the loop
  have goodIf : ∀ {p c : PyData}, treeD 9 (mkD p c) = true → (namedD (tupD p) = true ∧ (keysL (itemsD (tupD p))).Nodup) ∧ (namedD (tupD c) = true ∧ (keysL (itemsD (tupD c))).Nodup) := fun h => mk_parts h
  have bad : ∀ (x : PyData), (x = tupD d0 ∨ x = tupD d1) → ¬ (namedD x = true ∧ (keysL (itemsD x)).Nodup) → treeD 9 (mkD d0 d1) = false := fun x hx hn => by
    rw [Bool.eq_false_iff]
    intro h
    obtain ⟨a, b⟩ := mk_parts h
    rcases hx with rfl | rfl
    · exact hn a
    · exact hn b
  have okx : ∀ (x : PyData), (x = tupD d0 ∨ x = tupD d1) → Ok x := fun x hx => by
    rcases hx with rfl | rfl
    · exact ok0.tup
    · exact ok1.tup
  refine ⟨t, rfl, ⟨_, SqT.of et⟩, for_tup (xs := [u0, u1]) (fun i σ H' => (∃ x3 x5, σ = [some v0, some v1, some (.ref F), x3, none, x5, none]) ∧ Same H H' ∧ Ext H1 H' ∧ H' t = some (.tup [u0, u1]) ∧ Dp K (newp H1 H') u0 (tupD d0) ∧ Dp K (newp H1 H') u1 (tupD d1) ∧
      ∃ vs, H' F = some (.lst vs) ∧ DpAll K (newp H1 H') vs ([byD (tupD d0), byD (tupD d1)].take i))
    ⟨⟨_, _, rfl⟩, w1.trans s14, .of_same s14, et, m0, m1, [], s14 _ _ eF1, .nil⟩ (fun i σ H' _ p => SqT.of p.2.2.2.1) ?_ ?_⟩
  · rintro i u σ H5 hu ⟨⟨x3, x5, rfl⟩, s5, xx5, et5, a0, a1, vs, eF5, dv⟩
    obtain ⟨x, hx, du, hi⟩ : ∃ x, (x = tupD d0 ∨ x = tupD d1) ∧ Dp K (newp H1 H5) u x ∧ [byD (tupD d0), byD (tupD d1)][i]? = some (byD x) := by
      match i, hu with
      | 0, hu => exact ⟨_, .inl rfl, by cases hu; exact a0, rfl⟩
      | 1, hu => exact ⟨_, .inr rfl, by cases hu; exact a1, rfl⟩
      | i + 2, hu => simp at hu
    have hno := bad x hx
    have okX := okx x hx
    have du5 := Dp_mono newp_same du
    refine ⟨_, rfl, _, _, _, _, isTup x, rfl, .ty "tuple", Dp_type du5, kit_tup du5, _, rfl, ?_⟩
    refine ite2 (fun c => ?_) (fun c => ?_)
    · refine qN (hno fun z => ?_) H5 s5
      obtain ⟨es, rfl⟩ := named_tup z.1
      simp [isTup] at c
    obtain ⟨es, rfl⟩ : ∃ es, x = .tuple es := by
      cases x with
      | tuple es => exact ⟨es, rfl⟩
      | _ => simp [isTup] at c
    clear c
    have hlen := okX.len
    cases du with
    | @tup a xs _ hs ha =>
    have hs5 := Same.seqT newp_same hs
    have ha5 := DpAll_mono newp_same ha
    refine ⟨_, rfl, a, rfl, ⟨xs, hs5⟩, fun D nD => lc_items pairD nD hs5 ha5 hlen (fun _ => rfl) (fun v e H6 q6 he hv w6 k6 => ?_) fun H6 w6 e6 => ?_⟩
    · refine ⟨_, rfl, _, _, _, _, isTup e, rfl, .ty "tuple", Dp_type hv, kit_tup hv, _, rfl, ite2 (fun ct => ?_) (fun ct => ?_)⟩
      · cases e with
        | tuple fs =>
          cases hv with
          | @tup a2 ys _ hs2 ha2 =>
            refine ⟨_, rfl, a2, ys, rfl, .inr hs2, rfl, ?_⟩
            have k7 := k6 H6 (Same.refl H6)
            rw [← pair_dec ha2] at k7
            exact k7
        | _ => cases ct
      · have k7 := k6 H6 (Same.refl H6)
        have e0 : pairD e = false := by
          cases e with
          | tuple fs => exact absurd rfl ct
          | _ => rfl
        rw [e0] at k7
        exact k7
    refine ⟨D, _, rfl, SqL.of e6, _, rfl, ?_⟩
    rw [all_map]
    refine ite2 (fun c => ?_) (fun c => ?_)
    · refine qN (hno fun z => ?_) H6 (s5.trans w6)
      have : es.all pairD = true := pairs_of z.1
      rw [this] at c
      cases c
    have hp : es.all pairD = true := by simpa using c
    clear c
    -- names
    have hs6 := Same.seqT w6 hs5
    have ha6 := DpAll_mono w6 ha5
    refine ⟨_, rfl, a, rfl, ⟨xs, hs6⟩, fun D2 nD2 => lc_items (fun e => nameD (fstD e)) nD2 hs6 ha6 hlen (fun _ => rfl) (fun v e H7 q7 he hv w7 k7 => ?_) fun H7 w7 e7 => ?_⟩
    · have oke := okX.item he
      obtain ⟨p, b, rfl⟩ := pair_is (List.all_eq_true.mp hp e he)
      cases hv with
      | @tup a2 ys _ hs2 ha2 =>
        cases ha2 with
        | cons h0 h1 =>
          exact ⟨_, rfl, a2, _, 0, _, rfl, rfl, hs2, atI0 _ _, _, p, rfl, h0, oke.item List.mem_cons_self, k7⟩
    refine ⟨D2, _, rfl, SqL.of e7, _, rfl, ?_⟩
    rw [all_map]
    have nmE : es.all nmD = es.all fun e => nameD (fstD e) := by
      have key : ∀ l : List PyData, l.all pairD = true → l.all nmD = l.all fun e => nameD (fstD e) := fun l hl => by
        induction l with
        | nil => rfl
        | cons e l ih =>
          rw [List.all_cons, Bool.and_eq_true] at hl
          rw [List.all_cons, List.all_cons, ih hl.2]
          unfold nmD
          rw [hl.1, Bool.true_and]
      exact key es hp
    rw [← nmE]
    refine ite2 (fun c => ?_) (fun c => ?_)
    · refine qN (hno fun z => ?_) H7 ((s5.trans w6).trans w7)
      have : es.all nmD = true := z.1
      rw [this] at c
      cases c
    have hn : namedD (.tuple es) = true := by
      show es.all nmD = true
      simpa using c
    clear c
    have hall : ∀ e ∈ es, nmD e = true := fun e he => List.all_eq_true.mp hn e he
    have sH7 := (s5.trans w6).trans w7
    have w57 := w6.trans w7
    obtain ⟨L, rfl, rfl, hL⟩ := DpAll_pairs ha hall
    rw [List.length_map] at hlen
    have hs7 := Same.seqT w7 hs6
    have hkey : ∀ p ∈ L, ∃ us, SqT K H7 p.1 (.str (keyD p.2) :: us) := fun p hp => by
      obtain ⟨us, hu⟩ := pairs_key (hL p hp) (hall p.2 (List.mem_map.mpr ⟨p, hp, rfl⟩))
      exact ⟨us, Same.seqT w57 (Same.seqT newp_same hu)⟩
    -- known = dict(..)
    refine ⟨_, rfl, a, rfl, ⟨_, hs7⟩, fun D3 nD3 => ?_⟩
    refine lc_tup (xs := L.map fun p => V.ref p.1) (fun i H' => ∃ ps : List Addr, H' D3 = some (.lst (ps.map V.ref)) ∧ Paired (fun p kv => SqT K H' p [kV kv.1, kv.2]) ps (kvOf (L.take i)) ∧ Same H7 H')
      ⟨[], upd_same, .nil, same_new nD3 _⟩ (fun i H' _ p => by
        obtain ⟨_, _, _, e⟩ := p
        exact Same.seqT e hs7) ?_ ?_
    · rintro i' u' H8 hu' ⟨ps, eD, pr, s8⟩
      refine ⟨rfl, ?_⟩
      unfold tYes
      refine iteT ?_
      rw [List.getElem?_map] at hu'
      cases hp' : L[i']? with
      | none => rw [hp'] at hu'; cases hu'
      | some p =>
      rw [hp'] at hu'
      obtain rfl : V.ref p.1 = u' := Option.some.inj hu'
      obtain ⟨us, hu2⟩ := hkey p (List.mem_of_getElem? hp')
      refine ⟨_, rfl, p.1, _, 0, _, rfl, rfl, Same.seqT s8 hu2, atI0 _ _, _, rfl, (by show 2 ≤ sizeLine; decide), fun T nT => ?_⟩
      have wT := same_new nT (.tup [V.str (keyD p.2), V.ref p.1])
      have eT : (upd H8 T (.tup [V.str (keyD p.2), V.ref p.1])) T = _ := upd_same
      generalize (upd H8 T (.tup [V.str (keyD p.2), V.ref p.1])) = H9 at wT eT ⊢
      have lps : ps.length = i' := by
        have h1 := pr.length
        rw [List.length_map, List.length_take] at h1
        have := (List.getElem?_eq_some_iff.mp hp').1
        omega
      have li := (List.getElem?_eq_some_iff.mp hp').1
      have wD : Same H7 (upd H9 D3 (.lst (ps.map V.ref ++ [V.ref T]))) := fun b o e => by
        rw [upd_ne (ne_of_none e nD3)]
        exact wT _ _ (s8 _ _ e)
      have up2 : ∀ (q : Addr) (ys : List V), SqT K H9 q ys → SqT K (upd H9 D3 (.lst (ps.map V.ref ++ [V.ref T]))) q ys := fun q ys h => by
        have e9 := wT _ _ eD
        rcases h with (h | ⟨o, h⟩) | h
        · exact .inl (.inl (by rw [upd_ne (fun z => by rw [z, e9] at h; cases h)]; exact h))
        · exact .inl (.inr ⟨o, by rw [upd_ne (fun z => by rw [z, e9] at h; cases h)]; exact h⟩)
        · exact .inr h
      refine ⟨ps.map V.ref, wT _ _ eD, ?_, ps ++ [T], ?_, ?_, wD⟩
      · rw [List.length_map]
        exact Nat.lt_of_lt_of_le (show ps.length < L.length by omega) hlen
      · rw [upd_same, List.map_append]
        rfl
      · have e3 : kvOf (L.take (i' + 1)) = kvOf (L.take i') ++ [(Sum.inr (keyD p.2), V.ref p.1)] := by
          unfold kvOf
          rw [take_snoc hp', List.map_append]
          rfl
        rw [e3]
        refine paired_snoc (R := fun p (kv : Key × V) => SqT K (upd H9 D3 (.lst (ps.map V.ref ++ [V.ref T]))) p [kV kv.1, kv.2]) (a := T) (b := (Sum.inr (keyD p.2), V.ref p.1)) (up2 _ _ (SqT.of eT)) (paired_mono (R := fun p (kv : Key × V) => SqT K H8 p [kV kv.1, kv.2]) (R' := fun p (kv : Key × V) => SqT K (upd H9 D3 (.lst (ps.map V.ref ++ [V.ref T]))) p [kV kv.1, kv.2]) (fun q kv h => up2 _ _ (Same.seqT wT h)) pr)
    rintro H8 ⟨ps, eD, pr, s8⟩
    rw [List.length_map, List.take_length] at pr
    refine ⟨D3, ps, kvOf L, rfl, SqL.of eD, pr, fun kd nkd => ?_⟩
    have w9 := same_new nkd (.dK (mergeK [] (kvOf L)))
    have ekd : (upd H8 kd (.dK (mergeK [] (kvOf L)))) kd = some (.dK (mergeK [] (kvOf L))) := upd_same
    generalize (upd H8 kd (.dK (mergeK [] (kvOf L)))) = H9 at w9 ekd ⊢
    have w59 := (w57.trans s8).trans w9
    refine ⟨_, rfl, kd, _, rfl, ekd, _, rfl, a, _, rfl, .inr (Same.seqT (s8.trans w9) hs7), rfl, _, rfl, ?_⟩
    rw [int_dec, List.length_map]
    have ekl : keysL (L.map (·.2)) = L.map fun p => keyD p.2 := by
      unfold keysL
      rw [List.map_map]
      rfl
    refine ite2 (fun c => ?_) (fun c => ?_)
    · refine qN (hno fun z => ?_) H9 (s5.trans w59)
      have n2 : (L.map fun p => keyD p.2).Nodup := by
        rw [← ekl]
        exact z.2
      have n3 := merge_nodup (kv_nodup.mpr n2)
      rw [n3] at c
      unfold kvOf at c
      rw [List.length_map] at c
      simp at c
    have nd : (L.map fun p => keyD p.2).Nodup := by
      have e2 : (mergeK [] (kvOf L)).length = (kvOf L).length := by
        have c2 : ((mergeK [] (kvOf L)).length : Int) = (L.length : Int) := by simpa using c
        unfold kvOf at c2 ⊢
        rw [List.length_map]
        omega
      exact kv_nodup.mp ((merge_len _).mp e2)
    clear c
    rw [merge_nodup (kv_nodup.mpr nd)] at ekd
    have eF9 : H9 F = some (.lst vs) := w59 _ _ eF5
    -- found.append(..)
    refine ⟨_, rfl, .inl ⟨rfl, _, SqL.of eF9⟩, _, rfl, kd, kvOf L, L.map (fun p => keyD p.2), rfl, .of ekd, kv_keys L, by rw [List.length_map]; exact hlen, fun l nl => ?_⟩
    rw [sort_keys]
    have hLs : ∀ p ∈ L.mergeSort (fun p q => leD p.2 q.2), p ∈ L := fun p hp => (List.mergeSort_perm L _).mem_iff.mp hp
    have lenS : (L.mergeSort fun p q => leD p.2 q.2).length = L.length := List.length_mergeSort _
    have edata : byD (.tuple (L.map (·.2))) = .tuple ((L.mergeSort fun p q => leD p.2 q.2).map (·.2)) := by
      unfold byD
      rw [if_pos hn, sort_snd]
      rfl
    rw [edata] at hi
    clear edata
    generalize (L.mergeSort fun p q => leD p.2 q.2) = Ls at hLs lenS hi ⊢
    have w10 := same_new nl (.lst ((Ls.map fun p => keyD p.2).map V.str))
    have el : (upd H9 l (.lst ((Ls.map fun p => keyD p.2).map V.str))) l = _ := upd_same
    generalize (upd H9 l (.lst ((Ls.map fun p => keyD p.2).map V.str))) = H10 at w10 el ⊢
    have ekd10 := w10 _ _ ekd
    refine ⟨l, rfl, ⟨_, SqL.of el⟩, fun D4 nD4 => ?_⟩
    refine lc_list (xs := (Ls.map fun p => keyD p.2).map V.str) (fun i H' => H' D4 = some (.lst ((Ls.take i).map fun p => V.ref p.1)) ∧ Same H10 H')
      ⟨upd_same, same_new nD4 _⟩ (fun i H' _ p => SqL.of (p.2 _ _ el)) ?_ ?_
    · rintro i' u' H11 hu' ⟨eD4, s11⟩
      refine ⟨rfl, ?_⟩
      unfold tYes
      refine iteT ?_
      rw [List.map_map, List.getElem?_map] at hu'
      cases hp' : Ls[i']? with
      | none => rw [hp'] at hu'; cases hu'
      | some p =>
      rw [hp'] at hu'
      obtain rfl : V.str (keyD p.2) = u' := Option.some.inj hu'
      have hpL := hLs p (List.mem_of_getElem? hp')
      have g1 : DGet H11 kd (.str (keyD p.2)) (some (V.ref p.1)) := by
        rw [← kv_val nd hpL]
        exact DGet.k (k := Sum.inr (keyD p.2)) (s11 _ _ ekd10)
      have li := (List.getElem?_eq_some_iff.mp hp').1
      refine ⟨_, rfl, _, rfl, kd, V.ref p.1, rfl, g1, (Ls.take i').map (fun p => V.ref p.1), eD4, ?_, ?_, fun b o e => ?_⟩
      · rw [List.length_map, List.length_take]
        exact Nat.lt_of_lt_of_le (show min i' Ls.length < L.length by omega) hlen
      · rw [upd_same, take_snoc hp', List.map_append]
        rfl
      · rw [upd_ne (ne_of_none e nD4)]
        exact s11 _ _ e
    rintro H11 ⟨eD4, s11⟩
    rw [List.length_map, List.length_map, List.take_length] at eD4
    refine ⟨D4, _, rfl, .inl ⟨SqL.of eD4, fun l2 nl2 => ?_⟩⟩
    have w12 := same_new nl2 (.tup (Ls.map fun p => V.ref p.1))
    have el2 : (upd H11 l2 (.tup (Ls.map fun p => V.ref p.1))) l2 = _ := upd_same
    have w512 : Same H5 (upd H11 l2 (.tup (Ls.map fun p => V.ref p.1))) := ((w59.trans w10).trans s11).trans w12
    have nl1 : H1 l2 = none := (xx5.trans (.of_same ((w59.trans w10).trans s11))) l2 nl2
    generalize (upd H11 l2 (.tup (Ls.map fun p => V.ref p.1))) = H12 at w12 el2 w512 ⊢
    have eF12 := w512 _ _ eF5
    have tr : Same (newp H1 H5) (newp H1 (upd H12 F (.lst (vs ++ [V.ref l2])))) := (newp_right w512).trans (newp_upd hF1)
    have lv : vs.length ≤ 2 := by
      rw [DpAll_len dv, List.length_take]
      exact Nat.min_le_right _ _
    refine ⟨F, vs, _, rfl, rfl, eF12, Nat.lt_of_le_of_lt lv (by decide), ⟨_, _, rfl⟩, fun b o e => ?_, (xx5.trans (.of_same w512)).trans Ext.upd, ?_, Dp_mono tr a0, Dp_mono tr a1, _, upd_same, ?_⟩
    · rw [upd_ne (ne_of_none e nF)]
      exact w512 _ _ (s5 _ _ e)
    · rw [upd_ne (fun z => by rw [z, eF5] at et5; cases et5)]
      exact w512 _ _ et5
    · rw [take_snoc hi]
      refine DpAll_snoc (DpAll_mono tr dv) (Dp_mono (newp_upd hF1) (.tup (SqT.of ?_) (pairs_DpAll fun p hp => ?_)))
      · rw [newp_of nl1]
        exact el2
      · exact Dp_mono (newp_right w512) (hL p (hLs p hp))
  · rintro σ H5 ⟨⟨x3, x5, rfl⟩, s5, xx5, et5, a0, a1, vs, eF5, dv⟩
    have dv' : DpAll K (newp H1 H5) vs [byD (tupD d0), byD (tupD d1)] := dv
    refine ⟨_, rfl, F, vs, rfl, .inl ⟨SqL.of eF5, fun l nl => ?_⟩⟩
    have wl := same_new nl (.tup vs)
    have xH : Ext H H5 := x1.trans xx5
    have dl : Dp K (newp H (upd H5 l (.tup vs))) (.ref l) (mkD d0 d1) := .tup (SqT.of (by rw [newp_of (xH l nl)]; exact upd_same)) (DpAll_mono ((newp_left x1).trans (newp_right wl)) dv')
    have eF6 := wl _ _ eF5
    generalize (upd H5 l (.tup vs)) = H6 at wl dl eF6 ⊢
    refine ⟨_, mkD d0 d1, rfl, Dp_mono newp_same dl, mk_ok ok, fun H7 w7 => ⟨_, rfl, ite2 (fun c => ?_) (fun c => ?_)⟩⟩
    · refine ⟨_, rfl, F, vs, rfl, .inl ⟨SqL.of (w7 _ _ eF6), fun l2 nl2 => ?_⟩⟩
      have w8 := same_new nl2 (.tup vs)
      have w58 := (wl.trans w7).trans w8
      refine qY c _ _ (s5.trans w58) (.tup (SqT.of ?_) (DpAll_mono ((newp_left x1).trans (newp_right w58)) dv'))
      rw [newp_of ((xH.trans (.of_same (wl.trans w7))) l2 nl2)]
      exact upd_same
    · exact qN (Bool.eq_false_iff.mpr c) H7 (s5.trans (wl.trans w7))

/-! ### _law_tree_made -/
theorem ok__law_tree_made (TB : LamX.TabB base mg Z.cB Z.PB) : FnOk P w K mg base CX0 24 Z.f__law_tree_made Z.fd__law_tree_made ["_law_first", "_law_second"] (spMade K Z.PB) := by
  refine Z.D__law_tree_made.F.ok sc__law_tree_made (fun vs H Q E h => ?_) (fun cdv A outer s H vs Q E hr h => ?_)
  · obtain ⟨v0, v1, d0, d1, rfl, _⟩ := h
    rfl
  obtain ⟨v0, v1, d0, d1, rfl, hd0, hd1, ok, hT, qY, qN⟩ := h
  have hr1 : Room 20 (A.deeper (envOfC "_law_tree_made" (defScope s__law_tree_made) s.heap.objs.size Z.f__law_tree_made cdv)) := hr.mono (by decide)
  refine ⟨_, pss_cons (ps_set (i := 2) sc__law_tree_made.nd rfl (.inl rfl) pe_str)
    (pss_cons (ps_try_as (i := 3) (tb := fun W => tAsg (tCallS (spMake K Z.PB Z.c_BadTree) (WE W) (tCons (tVar 0) (tCons (tVar 1) tNil))) (gName 2)) (Wout := fun _ _ _ _ => False) rfl rfl sc__law_tree_made.nd rfl rfl ⟨rfl, by decide, Or.inl Z.E_BadTree.m⟩ takes0
      (fun W pn xe tk _ => pss_one (ps_set (i := 2) sc__law_tree_made.nd rfl (Or.inl rfl) (by exact (pe_callS (ok_make_tree Z TB) hr1 rfl Z.D_make_tree.m Z.D_make_tree.F.kp Z.D_make_tree.b2 (fun σ => passAt tk σ) (by exact (pa_cons (pv 0) (pa_cons (pv 1) pa_nil)))))))
      (fun a oe cls d pn hz hf => pss_one (ps_set (i := 2) sc__law_tree_made.nd rfl (Or.inl rfl)
        (pe_ifExp (PW.pt (pw_and (pt_val (pe_callB (isE (K := K) Z.E_BadTree.E hz hf) (by rfl) Z.T.isinstance (by decide +kernel) (pa_cons (pv 3) (pa_cons (pe_glob (v := .ref Z.c_VariantError) (by rfl) Z.V_VariantError.m rfl) pa_nil))))
          (pw_and1 (pt_val (pe_callB (isE (K := K) Z.E_BadTree.E hz hf) (by rfl) Z.T.isinstance (by decide +kernel) (pa_cons (pv 3) (pa_cons (pe_bltn (v := .ty "ValueError") (u := .type "ValueError") (by rfl) Z.T.ValueError (by decide +kernel) rfl) pa_nil)))))))
          pe_str pe_str))))
    (pss_one (ps_ret (pv 2)))), ?_⟩
  refine ⟨_, rfl, _, rfl, v0, v1, d0, d1, rfl, hd0, hd1, ok, hT, fun hF v' H' e' t' h' => ⟨_, rfl, qY hF v' H' e' t' h'⟩, fun hF H' e' t' => ⟨true, Z.E_BadTree.te, fun _ a na => ?_, fun z => nomatch z⟩⟩
  refine ⟨_, rfl, rfl, rfl, _, _, true, rfl, (fun _ r => r), Z.E_BadTree.kV, _, rfl, iteT ?_⟩
  refine ⟨_, rfl, rfl, rfl, _, _, true, rfl, (fun _ r => r), Z.E_BadTree.kE, _, rfl, iteT ?_⟩
  exact ⟨_, rfl, qN hF H' e' t'⟩

/-! ### law -/
theorem ok_law (TB : LamX.TabB base mg Z.cB Z.PB) {f : Addr} {fd : FuncData} (F : Fun K "law" "law" s_law f fd) : FnG P w K mg base CX0 72 f fd ["_law_script"] (spLawT K Z.PB) := by
  refine Fun_okG F sc_law (fun vs H Q E h => ?_) (fun cdv A outer s H vs Q E hG hr h => ?_)
  · obtain ⟨a, ns, rfl, _⟩ := h
    rfl
  obtain ⟨a, ns, rfl, hS, hl, hT, q⟩ := h
  obtain ⟨ds0, vv0, bb0⟩ := Z.D_make_tree.b0
  obtain ⟨ds1, vv1, bb1⟩ := Z.D_make_tree.b1
  refine ⟨_, (pss_cons (ps_set (i := 1) sc_law.nd rfl (.inr rfl) (pe_lst (pa_cons (pe_callTy (lstK (K := K)) (by rfl) Z.T.list (by decide +kernel) (pa_cons (pv 0) pa_nil)) (pa_cons pe_int (pa_cons pe_int (pa_cons pe_int pa_nil))))))
    (pss_cons (ps_for PassesOwn.never rfl (pi_range1 (by rfl) Z.T.range (pa_cons pe_int pa_nil)) (pg_name (i := 2) sc_law.nd rfl (.inl rfl)) (pss_cons (ps_set (i := 3) sc_law.nd rfl (.inl rfl) (pe_call (ok__law_any_tree Z) (hr.mono (by decide)) (by rfl) Z.D__law_any_tree.m Z.D__law_any_tree.F.kp Z.D__law_any_tree.b .nil pass0 (pa_cons (pv 1) pa_nil)))
    (C8.pss_cut (ps_if (pt_cmpR op_eq (pe_call (ok__law_draw Z) (hr.mono (by decide)) (by rfl) Z.D__law_draw.m Z.D__law_draw.F.kp Z.D__law_draw.b .nil pass0 (pa_cons (pv 1) (pa_cons pe_int pa_nil))) pe_int (nomark _)) (pss_one (ps_set (i := 3) sc_law.nd rfl (.inl rfl) (pe_call (ok__law_under Z) (hr.mono (by decide)) (by rfl) Z.D__law_under.m Z.D__law_under.F.kp Z.D__law_under.b .nil pass0 (pa_cons (pv 1) (pa_cons (pv 3) (pa_cons (pe_op op_add pe_int (pe_call (ok__law_draw Z) (hr.mono (by decide)) (by rfl) Z.D__law_draw.m Z.D__law_draw.F.kp Z.D__law_draw.b .nil pass0 (pa_cons (pv 1) (pa_cons pe_int pa_nil)))) pa_nil)))))) pss_nil)
    (pss_cons (ps_set (i := 4) sc_law.nd rfl (.inl rfl) (pe_lst (pa_cons (pe_callTy (tupK (K := K)) (by rfl) Z.T.tuple (by decide +kernel) (pa_cons (pe_call (ok__law_mixed Z) (hr.mono (by decide)) (by rfl) Z.D__law_mixed.m Z.D__law_mixed.F.kp Z.D__law_mixed.b .nil pass0 (pa_cons (pv 1) (pa_cons (pe_ix (ixT (K := K)) (pv 3) pe_int (fun _ _ => rfl)) pa_nil))) pa_nil)) (pa_cons (pe_callTy (tupK (K := K)) (by rfl) Z.T.tuple (by decide +kernel) (pa_cons (pe_call (ok__law_mixed Z) (hr.mono (by decide)) (by rfl) Z.D__law_mixed.m Z.D__law_mixed.F.kp Z.D__law_mixed.b .nil pass0 (pa_cons (pv 1) (pa_cons (pe_ix (ixT (K := K)) (pv 3) pe_int (fun _ _ => rfl)) pa_nil))) pa_nil)) pa_nil))))
    (pss_cons (ps_par (i := 5) (j := 6) rfl sc_law.nd rfl rfl (by decide) rfl rfl (pa_cons (pe_call (ok__law_draw Z) (hr.mono (by decide)) (by rfl) Z.D__law_draw.m Z.D__law_draw.F.kp Z.D__law_draw.b .nil pass0 (pa_cons (pv 1) (pa_cons pe_int pa_nil))) (pa_cons (pe_call (ok__law_draw Z) (hr.mono (by decide)) (by rfl) Z.D__law_draw.m Z.D__law_draw.F.kp Z.D__law_draw.b .nil pass0 (pa_cons (pv 1) (pa_cons pe_int pa_nil))) pa_nil)) rfl)
    (C8.pss_cut (ps_if (PW.pt (pw_and (pt_cmpR op_eq (pv 5) pe_int (nomark _)) (pw_and1 (pt_cmpR (neDK (K := K) hr.units) (pe_ix (ixL (K := K)) (pv 4) (pv 6) (fun _ _ => rfl)) (pe_tup pa_nil) (nomark _))))) (pss_cons (ps_asg (pe_ix (ixT (K := K)) (pe_ix (ixL (K := K)) (pv 4) (pv 6) (fun _ _ => rfl)) pe_int (fun _ _ => rfl)) (pg_tup rfl (pgs_cons (pg_name (i := 7) sc_law.nd rfl (.inl rfl)) (pgs_cons (pg_name (i := 8) sc_law.nd rfl (.inl rfl)) pgs_nil))))
    (pss_cons (ps_set (i := 9) sc_law.nd rfl (.inl rfl) (pe_ix (ixL (K := K)) (pe_lst (pa_cons (pv 8) (pa_cons pe_int (pa_cons pe_str (pa_cons (pe_tup (pa_cons pe_str (pa_cons (pe_tup pa_nil) pa_nil))) (pa_cons (pe_tup (pa_cons (pe_tup pa_nil) (pa_cons (pe_tup pa_nil) pa_nil))) (pa_cons (pe_tup (pa_cons (pe_tup (pa_cons (pe_tup (pa_cons pe_str (pa_cons pe_int pa_nil))) pa_nil)) (pa_cons (pe_tup pa_nil) pa_nil))) pa_nil))))))) (pe_call (ok__law_draw Z) (hr.mono (by decide)) (by rfl) Z.D__law_draw.m Z.D__law_draw.F.kp Z.D__law_draw.b .nil pass0 (pa_cons (pv 1) (pa_cons pe_int pa_nil))) (fun _ _ => rfl)))
    (pss_one (ps_asg (pe_op (caA (K := K)) (pe_ix (ixL (K := K)) (pv 4) (pv 6) (fun _ _ => rfl)) (pe_tup (pa_cons (pe_tup (pa_cons (pv 7) (pa_cons (pv 9) pa_nil))) pa_nil))) (pg_sub (pv 4) (pv 6) set_list))))) pss_nil)
    (C8.pss_cut (ps_if (pt_cmpR op_in_seq (pv 5) (pe_tup (pa_cons pe_int (pa_cons pe_int pa_nil))) rfl) (pss_one (ps_asg (pe_call (ok__law_bent_pairs Z) (hr.mono (by decide)) (by rfl) Z.D__law_bent_pairs.m Z.D__law_bent_pairs.F.kp Z.D__law_bent_pairs.b .nil pass0 (pa_cons (pv 1) (pa_cons (pe_ix (ixL (K := K)) (pv 4) (pv 6) (fun _ _ => rfl)) pa_nil))) (pg_sub (pv 4) (pv 6) set_list))) pss_nil)
    (C8.pss_cut (ps_if (pt_cmpR op_eq (pv 5) pe_int (nomark _)) (pss_one (ps_asg (pe_call (ok__law_thing2L Z) (hr.mono (by decide)) (by rfl) Z.D__law_thing.m Z.D__law_thing.F.kp Z.D__law_thing.b .nil pass0 (pa_cons (pv 1) (pa_cons pe_int pa_nil))) (pg_sub (pv 4) (pv 6) set_list))) pss_nil)
    (C8.pss_cut (ps_if (PW.pt (pw_and (pt_cmpR op_eq (pv 5) pe_int (nomark _)) (pw_and1 (pt_cmpR (neDK (K := K) hr.units) (pe_ix (ixT (K := K)) (pv 3) pe_int (fun _ _ => rfl)) (pe_tup pa_nil) (nomark _))))) (pss_cons (ps_asg (pe_ix (ixT (K := K)) (pe_ix (ixL (K := K)) (pv 4) pe_int (fun _ _ => rfl)) pe_int (fun _ _ => rfl)) (pg_tup rfl (pgs_cons (pg_name (i := 7) sc_law.nd rfl (.inl rfl)) (pgs_cons (pg_name (i := 10) sc_law.nd rfl (.inl rfl)) pgs_nil))))
    (pss_one (ps_asg (pe_op (caA (K := K)) (pe_tup (pa_cons (pe_tup (pa_cons (pv 7) (pa_cons (pe_call (ok__law_bent_tree Z 10) (hr.mono (by decide)) (by rfl) Z.D__law_bent_tree.m Z.D__law_bent_tree.F.kp Z.D__law_bent_tree.b .nil pass0 (pa_cons (pv 1) (pa_cons (pv 10) pa_nil))) pa_nil))) pa_nil)) (pe_slice (slA (K := K)) (pe_ix (ixL (K := K)) (pv 4) pe_int (fun _ _ => rfl)) (po_some pe_int) po_none)) (pg_sub (pv 4) pe_int set_list)))) pss_nil)
    (pss_cons (ps_setLc (i := 11) (own := [("_law_some", 12)]) (g := gName 12) (tt := tYes) rfl sc_law.nd rfl rfl (sw_true rfl rfl rfl (by decide +kernel)) (pi_list (pv 4)) (blkOk_by (own := [("_law_some", 12)]) (N := ["_law_script", "_law_stream", "_law_turn", "_law_part", "_law_pairs", "_law_way", "_law_at", "_law_name", "_law_value_here", "_law_more", "_law_child", "_law_handed", "_law_some", "_law_kept", "_law_due", "_law_found"]) (sc := defScope s_law) (by decide +kernel)) (fun _ _ _ _ _ => (pg_name (i := 12) sc_law.nd rfl (.inl rfl))) (fun _ _ _ _ _ => pts_nil) (fun _ _ _ _ _ => (pe_call (ok__law_listed Z 46) (hr.mono (by decide)) (by rfl) Z.D__law_listed.m Z.D__law_listed.F.kp Z.D__law_listed.b .nil pass0 (pa_cons (pv 1) (pa_cons (pv 12) pa_nil)))))
    (pss_cons (ps_par (i := 13) (j := 14) rfl sc_law.nd rfl rfl (by decide) rfl rfl (pa_cons (pe_callB (reprK (K := K) hG hr.units) (by rfl) Z.T.repr (by decide +kernel) (pa_cons (pv 11) pa_nil)) (pa_cons (pe_callG (ok__law_due_tree Z) hG (hr.mono (by decide)) (by rfl) Z.D__law_due_tree.m Z.D__law_due_tree.F.kp Z.D__law_due_tree.b .nil pass0 (pa_cons (pe_ix (ixL (K := K)) (pv 4) pe_int (fun _ _ => rfl)) (pa_cons (pe_ix (ixL (K := K)) (pv 4) pe_int (fun _ _ => rfl)) pa_nil))) pa_nil)) rfl)
    (pss_cons (ps_set (i := 15) sc_law.nd rfl (.inl rfl) (pe_call (ok__law_tree_made Z TB) (hr.mono (by decide)) (by rfl) Z.D__law_tree_made.m Z.D__law_tree_made.F.kp Z.D__law_tree_made.b .nil pass0 (pa_cons (pe_ix (ixL (K := K)) (pv 11) pe_int (fun _ _ => rfl)) (pa_cons (pe_ix (ixL (K := K)) (pv 11) pe_int (fun _ _ => rfl)) pa_nil))))
    (pss_cons (ps_if (PW.pt (pw_or (pt_not (pt_val (pe_callG (ok__law_same Z) hG (hr.mono (by decide)) (by rfl) Z.D__law_same.m Z.D__law_same.F.kp Z.D__law_same.b .nil pass0 (pa_cons (pv 15) (pa_cons (pe_ifExp (pt_cmpR op_isN (pv 14) pe_non (nomark _)) pe_str (pv 14)) pa_nil))))) (pw_or1 (pt_cmpR op_ne (pe_callB (reprK (K := K) hG hr.units) (by rfl) Z.T.repr (by decide +kernel) (pa_cons (pv 11) pa_nil)) (pv 13) (nomark _))))) (pss_one (ps_ret pe_bl)) pss_nil)
    (pss_cons (ps_for PassesOwn.never rfl (pi_list (pv 11)) (pg_name (i := 12) sc_law.nd rfl (.inl rfl)) (pss_one (ps_if (pt_val (pe_callB (isiK (K := K)) (by rfl) Z.T.isinstance (by decide +kernel) (pa_cons (pv 12) (pa_cons (pe_bltn (v := .ty "list") (u := .type "list") (by rfl) Z.T.list (by decide +kernel) rfl) pa_nil)))) (pss_one (ps_expr (pe_bm PySem.F.plainAttrs_list PySem.F.slot_list_append PySem.F.type_list_append mt_append (pv 12) (pa_cons (pe_tup (pa_cons pe_str (pa_cons pe_int pa_nil))) pa_nil)))) pss_nil)))
    (pss_one (ps_if (pt_not (pt_val (pe_callG (ok__law_same Z) hG (hr.mono (by decide)) (by rfl) Z.D__law_same.m Z.D__law_same.F.kp Z.D__law_same.b .nil pass0 (pa_cons (pv 15) (pa_cons (pe_ifExp (pt_cmpR op_isN (pv 14) pe_non (nomark _)) pe_str (pv 14)) pa_nil))))) (pss_one (ps_ret pe_bl)) pss_nil))))))))))))))))
    (pss_cons (ps_set (i := 12) sc_law.nd rfl (.inl rfl) (pe_lst (pa_cons (pe_call0 (ok_make_tree Z TB) (hr.mono (by decide)) (by rfl) Z.D_make_tree.m Z.D_make_tree.F.kp bb0 vv0 passF) (pa_cons (pe_call (ok_make_tree Z TB) (hr.mono (by decide)) (by rfl) Z.D_make_tree.m Z.D_make_tree.F.kp bb1 vv1 passF (pa_cons (pe_lst (pa_cons (pe_tup (pa_cons pe_str (pa_cons pe_int pa_nil))) (pa_cons (pe_tup (pa_cons pe_str (pa_cons pe_int pa_nil))) pa_nil))) pa_nil)) (pa_cons (pe_call (ok_make_tree Z TB) (hr.mono (by decide)) (by rfl) Z.D_make_tree.m Z.D_make_tree.F.kp Z.D_make_tree.b2 .nil passF (pa_cons (pe_tup pa_nil) (pa_cons (pe_lst (pa_cons (pe_tup (pa_cons pe_str (pa_cons (pe_lst (pa_cons (pe_lst pa_nil) (pa_cons (pe_tup pa_nil) pa_nil))) pa_nil))) pa_nil)) pa_nil))) pa_nil)))))
    (pss_one (ps_ret (pe_callG (ok__law_same Z) hG (hr.mono (by decide)) (by rfl) Z.D__law_same.m Z.D__law_same.F.kp Z.D__law_same.b .nil pass0 (pa_cons (pv 12) (pa_cons (pe_lst (pa_cons (pe_tup (pa_cons (pe_tup pa_nil) (pa_cons (pe_tup pa_nil) pa_nil))) (pa_cons (pe_tup (pa_cons (pe_tup (pa_cons (pe_tup (pa_cons pe_str (pa_cons pe_int pa_nil))) (pa_cons (pe_tup (pa_cons pe_str (pa_cons pe_int pa_nil))) pa_nil))) (pa_cons (pe_tup pa_nil) pa_nil))) (pa_cons (pe_tup (pa_cons (pe_tup pa_nil) (pa_cons (pe_tup (pa_cons (pe_tup (pa_cons pe_str (pa_cons (pe_tup (pa_cons (pe_tup pa_nil) (pa_cons (pe_tup pa_nil) pa_nil))) pa_nil))) pa_nil)) pa_nil))) pa_nil)))) pa_nil)))))))), ?_⟩
  have t0 : LamX.TabS H Z.PB qL := LamX.TabS.nil hT
  clear hT
  refine ⟨_, rfl, a, _, rfl, .inl hS, fun C nC => ⟨(by show 4 ≤ sizeLine; decide), fun S nS => ?_⟩⟩
  have nSC : S ≠ C := fun e => by
    rw [e, upd_same] at nS
    cases nS
  have st : Strm S C 0 (upd (upd H C (.lst (ns.map V.int))) S (.lst [V.ref C, V.int 0, V.int 0, V.int 0])) :=
    ⟨nSC, ns, 0, 0, 0, upd_same, (upd_ne nSC.symm).trans upd_same, hl, by omega, by omega, by omega, by omega, by omega⟩
  have t1 := t0.ext ((same_new nC (.lst (ns.map V.int))).trans (same_new nS (.lst [V.ref C, V.int 0, V.int 0, V.int 0])))
  generalize (upd (upd H C (.lst (ns.map V.int))) S (.lst [V.ref C, V.int 0, V.int 0, V.int 0])) = H0 at st t1 ⊢
  refine ⟨8, rfl, by decide, by decide, for_range (lo := 0) (n := 8) (fun i σ H' => (∃ x2 x3 x4 x5 x6 x7 x8 x9 x10 x11 x12 x13 x14 x15, σ = [some (.ref a), some (.ref S), x2, x3, x4, x5, x6, x7, x8, x9, x10, x11, x12, x13, x14, x15]) ∧ Strm S C (i * 2000000) H' ∧ LamX.TabS H' Z.PB qL) ⟨⟨none, none, none, none, none, none, none, none, none, none, none, none, none, none, rfl⟩, st, t1⟩ ?_ ?_⟩
  · rintro i σ H1 hi ⟨⟨x2, x3, x4, x5, x6, x7, x8, x9, x10, x11, x12, x13, x14, x15, rfl⟩, s1, t1⟩
    obtain ⟨N, hN, hi', s1⟩ : ∃ N, N = i * 2000000 ∧ N ≤ 14000000 ∧ Strm S C N H1 := ⟨_, rfl, (by have := Nat.mul_le_mul_right 2000000 (show i ≤ 7 by omega); omega), s1⟩
    have hT1 := TabS.some t1
    refine ⟨_, rfl, S, C, _, [], rfl, rfl, s1, by omega, fun v d H2 h1 ⟨nd, sd⟩ s2 f2 => ?_⟩
    refine ⟨fun σ H' => (∃ v d, σ = [some (.ref a), some (.ref S), some (.int (0 + (i : Int))), some v, x4, x5, x6, x7, x8, x9, x10, x11, x12, x13, x14, x15] ∧ Dp K (newp H1 H') v d ∧ Nice 38 839900 d ∧ shD 12 d = true) ∧ Strm S C (N + 10700) H' ∧ Fr S C H1 H', ?_, ?_⟩
    · refine ⟨_, rfl, S, C, _, 6, rfl, s2, by omega, by decide, by decide, fun r H3 r0 r1 s3 f3 => ⟨rfl, _, rfl, ite2 (fun c => ?_) (fun c => ?_)⟩⟩
      · refine ⟨_, rfl, _, rfl, _, rfl, S, C, _, 3, rfl, s3, by omega, by decide, by decide, fun r2 H4 r0 r1 s4 f4 => ?_⟩
        have er : [V.ref S, v, V.int (1 + r2)] = [V.ref S, v, V.int (((1 + r2).toNat : Nat) : Int)] := by rw [show (((1 + r2).toNat : Nat) : Int) = 1 + r2 by omega]
        have hr8 : (1 + r2).toNat ≤ 3 := by omega
        have f24 := f2.trans (f3.trans f4)
        refine ⟨_, _, rfl, rfl, S, C, _, (1 + r2).toNat, _, _, _, H1, v, d, er, by omega, s4, by omega, s1, Fr.ext s4 f24, Dp_mono (newp_fr s1 (f3.trans f4)) h1, nd, by decide, fun v' d' H5 hv' nv' _ tv' s5 f5 => ?_⟩
        refine ⟨⟨v', d', rfl, hv', nv'.mono (by omega) (by omega), ?_⟩, s5.mono (by omega), f24.trans f5⟩
        have e1 : shD (9 + (1 + r2).toNat) d' = true := (tv' 9).trans sd
        have e2 := sh_more (3 - (1 + r2).toNat) e1
        rwa [show 9 + (1 + r2).toNat + (3 - (1 + r2).toNat) = 12 by omega] at e2
      · exact ⟨⟨v, d, rfl, Dp_mono (newp_fr s1 f3) h1, nd.mono (by decide) (by decide), sh_more 3 sd⟩, s3.mono (by omega), f2.trans f3⟩
    · rintro σ H3 ⟨⟨vP, dP, rfl, hP, nP, sP⟩, s3, f3⟩
      obtain ⟨ps, cs, rfl, pp, pc, hcs⟩ := sh_is sP
      obtain ⟨aP, vp, vc, rfl, sa, hp, hc⟩ : ∃ a vp vc, vP = .ref a ∧ SqT K (newp H1 H3) a [vp, vc] ∧ Dp K (newp H1 H3) vp (.tuple ps) ∧ Dp K (newp H1 H3) vc (.tuple cs) := by
        cases hP with
        | @tup _ ys _ sy hy =>
          cases hy with
          | cons h1 hr =>
            cases hr with
            | cons h2 hr2 =>
              cases hr2
              exact ⟨_, _, _, rfl, sy, h1, h2⟩
      have nps : Nices 36 839900 ps ∧ Nices 36 839900 cs := by
        have f := nP.fine
        have g := nP.depth
        have b := nP.big
        simp only [Vn.fine, Vn.fines, Bool.and_true, Bool.and_eq_true] at f
        simp only [PyData.depth, PyData.depthAll] at g
        simp only [Vn.big, Vn.bigs] at b
        exact ⟨⟨f.1, by omega, by omega⟩, ⟨f.2, by omega, by omega⟩⟩
      have lps := pairs_len ps pp
      have lcs := pairs_len cs pc
      have bps := nps.1.big
      have bcs := nps.2.big
      have x3' : Ext H1 H3 := Fr.ext s3 f3
      refine ⟨_, rfl, _, rfl, aP, [vp, vc], 0, vp, rfl, rfl, Same.seqT newp_same sa, rfl, S, C, _, _, H1, vp, ps, rfl, s3, by omega, s1, x3', hp, by omega, fun p0 vs0 es0 H4 np0 ep0 dp0 pm0 s4 f4 => ?_⟩
      have f34 := f3.trans f4
      have x4' : Ext H1 H4 := Fr.ext s4 f34
      refine ⟨p0, vs0, rfl, .inl ⟨SqL.of ep0, fun l0 nl0 => ?_⟩⟩
      have g0 := lay_tup x4' nl0 dp0
      have w5 := same_new nl0 (.tup vs0)
      have s5 := s4.lay nl0 (.tup vs0)
      generalize (upd H4 l0 (.tup vs0)) = H5 at g0 w5 s5 ⊢
      have f5 := f34.trans (Fr.of_same w5)
      have x5' : Ext H1 H5 := x4'.trans (.of_same w5)
      have m35 : Same (newp H1 H3) (newp H1 H5) := (newp_fr s1 f4).trans (newp_right w5)
      refine ⟨_, rfl, _, rfl, aP, [vp, vc], 1, vc, rfl, rfl, Same.seqT newp_same (Same.seqT m35 sa), rfl, S, C, _, _, H1, vc, cs, rfl, s5, by omega, s1, x5', Dp_mono m35 hc, by omega, fun p1 vs1 es1 H6 np1 ep1 dp1 pm1 s6 f6 => ?_⟩
      have f56 := f5.trans f6
      have x6' : Ext H1 H6 := Fr.ext s6 f56
      refine ⟨p1, vs1, rfl, .inl ⟨SqL.of ep1, fun l1 nl1 => ?_⟩⟩
      have g1 := lay_tup x6' nl1 dp1
      have w7 := same_new nl1 (.tup vs1)
      have s7 := s6.lay nl1 (.tup vs1)
      generalize (upd H6 l1 (.tup vs1)) = H7 at g1 w7 s7 ⊢
      have f7 := f56.trans (Fr.of_same w7)
      have x7' : Ext H1 H7 := x6'.trans (.of_same w7)
      have m57 : Same (newp H1 H5) (newp H1 H7) := (newp_fr s1 f6).trans (newp_right w7)
      refine ⟨(by show 2 ≤ sizeLine; decide), fun PL nPL => ?_⟩
      obtain ⟨G, b1, b2, b3, b4, b5⟩ := side_ext s1 x7' nPL (.lst [.ref l0, .ref l1])
      have PS := s7.neS nPL
      have PC := s7.neC nPL
      have w8 := same_new nPL (.lst [V.ref l0, V.ref l1])
      have e8 : (upd H7 PL (.lst [V.ref l0, V.ref l1])) PL = some (.lst [V.ref l0, V.ref l1]) := upd_same
      have s8 := s7.lay nPL (.lst [V.ref l0, V.ref l1])
      have m78 := b4.trans (newp_right (H := G) w8)
      have k0 := Dp_mono m78 (Dp_mono m57 g0)
      have k1 := Dp_mono m78 g1
      have sa8 := Same.seqT m78 (Same.seqT m57 (Same.seqT m35 sa))
      have hc8 := Dp_mono m78 (Dp_mono m57 (Dp_mono m35 hc))
      have f8 := f7.trans (Fr.of_same w8)
      generalize (upd H7 PL (.lst [V.ref l0, V.ref l1])) = H8 at b5 e8 s8 k0 k1 sa8 hc8 f8 ⊢
      have A8 : stA cs.length (.tuple es0) (.tuple es1) := ⟨es0, es1, rfl, rfl, perm_nices pm0 nps.1, perm_nices pm1 nps.2, perm_all pm0 pp, perm_all pm1 pc, fun e he => hcs e (pm1.mem_iff.mp he), pm1.length_eq⟩
      have okcs : SeqAt.shaped (.tuple cs) = true := (nps.2.tup.ok).shaped
      have s8' : Strm S C (N + 200000) H8 := s8.mono (by omega)
      clear g0 g1 nps lps lcs bps bcs ep0 ep1 dp0 dp1 pm0 pm1 hP hp hc sa m35 m57 m78 s4 s5 s6 s7 f4 f34 f5 f6 f56 f7 x3' x4' x5' x6' w5 w7 w8 pp pc hcs sP nP
      -- way, at
      refine ⟨_, rfl, S, C, _, 10, rfl, s8', by omega, by decide, by decide, fun way H9 wy0 wy1 s9 f9 => ?_⟩
      refine ⟨_, rfl, S, C, _, 2, rfl, s9, by omega, by decide, by decide, fun at_ HA at0 at1 sA fA => ⟨_, _, rfl, ?_⟩⟩
      have PP : PlP S C PL G H1 := ⟨b2, PS, PC, x7' PL nPL, ⟨_, b3⟩⟩
      have M0 : MidP K S C PL aP G H1 vp vc cs way (-1) (N + 200000) H8 := ⟨⟨_, _, _, _, e8, k0, k1, .inl A8, .not rfl, .not rfl⟩, sa8, hc8, s8', f8, b5⟩
      have MA := M0.to PP (Int.le_refl _) (f9.trans fA) (m := N + 200002) (sA.mono (by omega))
      clear M0 e8 k0 k1 A8 sa8 hc8 s8' f8 b5 s8 s9 f9 sA fA
      have ok0 : SeqAt.shaped (.tuple []) = true := by decide
      -- way 0: a pair twice
      refine ⟨fun σ H' => (∃ x7 x8 x9 x10 x11 x12 x13 x14 x15, σ = [some (.ref a), some (.ref S), some (.int (0 + (i : Int))), some (.ref aP), some (.ref PL), some (.int way), some (.int at_), x7, x8, x9, x10, x11, x12, x13, x14, x15]) ∧ MidP K S C PL aP G H1 vp vc cs way 0 (N + 200010) H', ?_, ?_⟩
      · refine ⟨_, rfl, rfl, _, rfl, ite2 (fun c => ?_) (fun c => ?_)⟩
        · obtain rfl : way = 0 := by
            rw [int_dec] at c
            exact of_decide_eq_true c
          obtain ⟨v0, v1, va, es, ePL, hat, hva, nes, pes⟩ := MA.look (by omega) at0 at1
          have hva1 := Dp_mono newp_same hva
          have ses : SeqAt.shaped (.tuple es) = true := (nes.tup.ok).shaped
          refine ⟨_, rfl, _, rfl, PL, _, at_, va, rfl, rfl, SqL.of ePL, hat, (by show 0 ≤ sizeLine; decide), fun pE npE => ?_⟩
          have wE := same_new npE (.tup [])
          have aE : (upd HA pE (.tup [])) pE = _ := upd_same
          have ME := MA.to PP (Int.le_refl _) (Fr.of_same wE) (m := N + 200002) (MA.st.lay npE _)
          have hvE := Dp_mono (newp_right (H := G) wE) hva
          have ePE := wE _ _ ePL
          generalize (upd HA pE (.tup [])) = HE at wE aE ME hvE ePE ⊢
          refine ⟨_, _, Dp_mono newp_same hvE, .tup (SqT.of aE) .nil, ses, ok0, _, rfl, ite2 (fun c1 => ?_) (fun c1 => ?_)⟩
          · -- taken
            obtain ⟨e, es', rfl⟩ : ∃ e es', es = e :: es' := by
              cases es with
              | nil => exact absurd c1 (by decide)
              | cons x y => exact ⟨_, _, rfl⟩
            obtain ⟨dn, dv, rfl⟩ := pair_is (List.all_eq_true.mp pes e List.mem_cons_self)
            obtain ⟨a2, xs2, b2', x, y, rfl, sa2, sb2, hx2, hy2⟩ : ∃ a2 xs2 b2 x y, va = .ref a2 ∧ SqT K (newp G HE) a2 (.ref b2 :: xs2) ∧ SqT K (newp G HE) b2 [x, y] ∧ Dp K (newp G HE) x dn ∧ Dp K (newp G HE) y dv := by
              cases hvE with
              | @tup _ ys _ sy hy =>
                cases hy with
                | cons h1 hr =>
                  cases h1 with
                  | @tup _ zs _ sz hz =>
                    cases hz with
                    | cons g1 gr =>
                      cases gr with
                      | cons g2 gr2 =>
                        cases gr2
                        exact ⟨_, _, _, _, _, rfl, sy, sz, g1, g2⟩
            refine ⟨_, rfl, _, rfl, PL, _, at_, _, rfl, rfl, SqL.of ePE, hat, a2, _, 0, _, rfl, rfl, Same.seqT newp_same sa2, atI0 _ _, b2', [x, y], rfl, Same.seqT newp_same sb2, rfl, _, _, rfl, _, _, rfl, rfl, ?_⟩
            refine ⟨_, rfl, (by show 0 ≤ sizeLine; decide), fun q1 n1 => ⟨(by show 2 ≤ sizeLine; decide), fun q2 n2 => ⟨(by show 0 ≤ sizeLine; decide), fun q3 n3 => ⟨(by show 0 ≤ sizeLine; decide), fun q4 n4 => ⟨(by show 2 ≤ sizeLine; decide), fun q5 n5 => ⟨(by show 2 ≤ sizeLine; decide), fun q6 n6 => ⟨(by show 1 ≤ sizeLine; decide), fun q7 n7 => ⟨(by show 0 ≤ sizeLine; decide), fun q8 n8 => ⟨(by show 2 ≤ sizeLine; decide), fun q9 n9 => ?_⟩⟩⟩⟩⟩⟩⟩⟩⟩
            have u1 := same_new n1 (.tup [])
            have t1 := lay_tup (K := K) (B := G) ME.ex n1 .nil
            generalize (upd HE q1 (.tup [])) = F1 at u1 t1  n2 n3 n4 n5 n6 n7 n8 n9 ⊢
            have y1 : Ext G F1 := (ME.ex).trans (.of_same u1)
            have u2 := same_new n2 (.tup [V.str "link", V.ref q1])
            have t2 := lay_tup (K := K) (B := G) y1 n2 (.cons (.str (Str.ofString "link")) (.cons t1 .nil))
            have t1 := Dp_mono (newp_right (H := G) u2) t1
            generalize (upd F1 q2 (.tup [V.str "link", V.ref q1])) = F2 at u2 t2 t1 n3 n4 n5 n6 n7 n8 n9 ⊢
            have y2 : Ext G F2 := (y1).trans (.of_same u2)
            have u3 := same_new n3 (.tup [])
            have t3 := lay_tup (K := K) (B := G) y2 n3 .nil
            have t2 := Dp_mono (newp_right (H := G) u3) t2
            generalize (upd F2 q3 (.tup [])) = F3 at u3 t3 t2 n4 n5 n6 n7 n8 n9 ⊢
            have y3 : Ext G F3 := (y2).trans (.of_same u3)
            have u4 := same_new n4 (.tup [])
            have t4 := lay_tup (K := K) (B := G) y3 n4 .nil
            have t2 := Dp_mono (newp_right (H := G) u4) t2
            have t3 := Dp_mono (newp_right (H := G) u4) t3
            generalize (upd F3 q4 (.tup [])) = F4 at u4 t4 t2 t3 n5 n6 n7 n8 n9 ⊢
            have y4 : Ext G F4 := (y3).trans (.of_same u4)
            have u5 := same_new n5 (.tup [V.ref q3, V.ref q4])
            have t5 := lay_tup (K := K) (B := G) y4 n5 (.cons t3 (.cons t4 .nil))
            have t2 := Dp_mono (newp_right (H := G) u5) t2
            have t3 := Dp_mono (newp_right (H := G) u5) t3
            have t4 := Dp_mono (newp_right (H := G) u5) t4
            generalize (upd F4 q5 (.tup [V.ref q3, V.ref q4])) = F5 at u5 t5 t2 t3 t4 n6 n7 n8 n9 ⊢
            have y5 : Ext G F5 := (y4).trans (.of_same u5)
            have u6 := same_new n6 (.tup [V.str "x", V.int 1])
            have t6 := lay_tup (K := K) (B := G) y5 n6 (.cons (.str (Str.ofString "x")) (.cons (.int 1) .nil))
            have t2 := Dp_mono (newp_right (H := G) u6) t2
            have t5 := Dp_mono (newp_right (H := G) u6) t5
            generalize (upd F5 q6 (.tup [V.str "x", V.int 1])) = F6 at u6 t6 t2 t5 n7 n8 n9 ⊢
            have y6 : Ext G F6 := (y5).trans (.of_same u6)
            have u7 := same_new n7 (.tup [V.ref q6])
            have t7 := lay_tup (K := K) (B := G) y6 n7 (.cons t6 .nil)
            have t2 := Dp_mono (newp_right (H := G) u7) t2
            have t5 := Dp_mono (newp_right (H := G) u7) t5
            have t6 := Dp_mono (newp_right (H := G) u7) t6
            generalize (upd F6 q7 (.tup [V.ref q6])) = F7 at u7 t7 t2 t5 t6 n8 n9 ⊢
            have y7 : Ext G F7 := (y6).trans (.of_same u7)
            have u8 := same_new n8 (.tup [])
            have t8 := lay_tup (K := K) (B := G) y7 n8 .nil
            have t2 := Dp_mono (newp_right (H := G) u8) t2
            have t5 := Dp_mono (newp_right (H := G) u8) t5
            have t7 := Dp_mono (newp_right (H := G) u8) t7
            generalize (upd F7 q8 (.tup [])) = F8 at u8 t8 t2 t5 t7 n9 ⊢
            have y8 : Ext G F8 := (y7).trans (.of_same u8)
            have u9 := same_new n9 (.tup [V.ref q7, V.ref q8])
            have t9 := lay_tup (K := K) (B := G) y8 n9 (.cons t7 (.cons t8 .nil))
            have t2 := Dp_mono (newp_right (H := G) u9) t2
            have t5 := Dp_mono (newp_right (H := G) u9) t5
            have t7 := Dp_mono (newp_right (H := G) u9) t7
            have t8 := Dp_mono (newp_right (H := G) u9) t8
            generalize (upd F8 q9 (.tup [V.ref q7, V.ref q8])) = F9 at u9 t9 t2 t5 t7 t8  ⊢
            have y9 : Ext G F9 := (y8).trans (.of_same u9)
            have u19 := (((((((u1.trans u2).trans u3).trans u4).trans u5).trans u6).trans u7).trans u8).trans u9
            have mE9 := newp_right (H := G) u19
            have M9 := ME.to PP (Int.le_refl _) (Fr.of_same u19) (ME.st.same u19)
            have hy9 := Dp_mono mE9 hy2
            have hx9 := Dp_mono mE9 hx2
            have six : DpAll K (newp G F9) [y, .int 0, .str "on", .ref q2, .ref q5, .ref q9] [dv, .int 0, .str "on", .tuple [.str "link", .tuple []], .tuple [.tuple [], .tuple []], .tuple [.tuple [.tuple [.str "x", .int 1]], .tuple []]] :=
              .cons hy9 (.cons (.int 0) (.cons (.str _) (.cons t2 (.cons t5 (.cons t9 .nil)))))
            refine ⟨(by show 6 ≤ sizeLine; decide), fun pl npl => ?_⟩
            have upl := same_new npl (.lst [y, V.int 0, V.str "on", V.ref q2, V.ref q5, V.ref q9])
            have epl : (upd F9 pl (.lst [y, V.int 0, V.str "on", V.ref q2, V.ref q5, V.ref q9])) pl = _ := upd_same
            have six2 := DpAll_mono (newp_right (H := G) upl) six
            have plS := M9.st.neS npl
            have plC := M9.st.neC npl
            have M10 := M9.to PP (Int.le_refl _) (Fr.of_same upl) (M9.st.same upl)
            have hx10 := Dp_mono (newp_right (H := G) upl) hx9
            generalize (upd F9 pl (.lst [y, V.int 0, V.str "on", V.ref q2, V.ref q5, V.ref q9])) = F10 at upl epl six2 M10 hx10 ⊢
            refine ⟨_, rfl, S, C, _, 6, rfl, M10.st, by omega, by decide, by decide, fun r F11 r0 r1 s11 f11 => ?_⟩
            obtain ⟨um, z1, z2⟩ := at_int (vs := [y, V.int 0, V.str "on", V.ref q2, V.ref q5, V.ref q9]) r0 r1
            obtain ⟨dm, g1, g2⟩ := DpAll_get _ six2 z2
            have M11 := M10.to PP (Int.le_refl _) f11 s11
            have m11 := newp_fr b3 f11
            have hm11 := Dp_mono m11 g2
            have hx11 := Dp_mono m11 hx10
            have nice6 : Nice 37 839900 dm := by
              have hmem := List.mem_of_getElem? g1
              have npair := nes.mem List.mem_cons_self
              have nv : Nice 37 839900 dv := by
                have f := npair.fine
                have g := npair.depth
                have b := npair.big
                simp only [Vn.fine, Vn.fines, Bool.and_true, Bool.and_eq_true] at f
                simp only [PyData.depth, PyData.depthAll] at g
                simp only [Vn.big, Vn.bigs] at b
                exact ⟨f.2, by omega, by omega⟩
              simp only [List.mem_cons, List.not_mem_nil, or_false] at hmem
              rcases hmem with rfl | rfl | rfl | rfl | rfl | rfl
              · exact nv
              · exact ⟨by decide +kernel, by decide +kernel, by decide +kernel⟩
              · exact ⟨by decide +kernel, by decide +kernel, by decide +kernel⟩
              · exact ⟨by decide +kernel, by decide +kernel, by decide +kernel⟩
              · exact ⟨by decide +kernel, by decide +kernel, by decide +kernel⟩
              · exact ⟨by decide +kernel, by decide +kernel, by decide +kernel⟩
            refine ⟨pl, _, r, um, rfl, rfl, SqL.of (cut_keep f11 plS plC epl), z1, ?_⟩
            have ePL11 : F11 PL = some (.lst [v0, v1]) := cut_keep f11 PS PC (upl _ _ (u19 _ _ ePE))
            have hv11 := Dp_mono ((mE9.trans (newp_right (H := G) upl)).trans m11) hvE
            have x11' : Ext G F11 := M11.ex
            refine ⟨_, rfl, _, rfl, PL, _, at_, _, rfl, rfl, SqL.of ePL11, hat, _, rfl, _, rfl, (by show 2 ≤ sizeLine; decide), fun T1 nT1 => ⟨(by show 1 ≤ sizeLine; decide), fun T2 nT2 => ?_⟩⟩
            have v1w := same_new nT1 (.tup [x, um])
            have c1t := lay_tup (K := K) (B := G) x11' nT1 (.cons hx11 (.cons hm11 .nil))
            generalize (upd F11 T1 (.tup [x, um])) = F12 at v1w c1t nT2 ⊢
            have x12' : Ext G F12 := x11'.trans (.of_same v1w)
            have v2w := same_new nT2 (.tup [V.ref T1])
            have c2t := lay_tup (K := K) (B := G) x12' nT2 (.cons c1t .nil)
            generalize (upd F12 T2 (.tup [V.ref T1])) = F13 at v2w c2t ⊢
            have x13' : Ext G F13 := x12'.trans (.of_same v2w)
            have hv13 := Dp_mono (newp_right (H := G) (v1w.trans v2w)) hv11
            have nE := nes
            have bE := nE.big
            have lE := bigs_len (.tuple [dn, dv] :: es')
            refine cat_by x13' hv13 c2t (by show (PyData.tuple [dn, dv] :: es').length + 1 ≤ sizeLine; rw [sizeLine_eq]; omega) fun v2 F14 h14 w14 => ?_
            have w1114 := (v1w.trans v2w).trans w14
            have ndn : Nice 37 839900 dn := by
              have npair := nes.mem List.mem_cons_self
              have f := npair.fine
              have g := npair.depth
              have b := npair.big
              simp only [Vn.fine, Vn.fines, Bool.and_true, Bool.and_eq_true] at f
              simp only [PyData.depth, PyData.depthAll] at g
              simp only [Vn.big, Vn.bigs] at b
              exact ⟨f.1, by omega, by omega⟩
            have npp := ((Nices.one ndn).append (.one nice6)).tup
            have nall := ((nes.mono (show 36 ≤ 38 by decide) (Nat.le_refl _)).append (.one npp)).tup
            obtain ⟨ws, e1, e2, M15⟩ := M11.put PP (c' := 0) (by omega) (by omega) at0 at1 (Fr.of_same w1114) (s11.same w1114) h14 (.not rfl) nall.fine (Nat.le_trans nall.depth (by decide)) (Nat.le_trans nall.big (by decide))
            refine ⟨_, rfl, _, rfl, PL, ws, at_, _, rfl, rfl, e1, e2, ⟨_, _, _, _, _, _, _, _, _, rfl⟩, ?_⟩
            exact M15.to PP (Int.le_refl _) (Fr.of_same (Same.refl _)) (M15.st.mono (by omega))
          · exact ⟨⟨_, _, _, _, _, _, _, _, _, rfl⟩, ME.to PP (by omega) (Fr.of_same (Same.refl _)) (ME.st.mono (by omega))⟩
        · refine ⟨⟨_, _, _, _, _, _, _, _, _, rfl⟩, ?_⟩
          have M2 := MA.to PP (show (-1 : Int) ≤ 0 by omega) (Fr.of_same (Same.refl _)) (m := N + 200010) (MA.st.mono (by omega))
          exact M2
      · rintro σ HB ⟨⟨x7, x8, x9, x10, x11, x12, x13, x14, x15, rfl⟩, MB⟩
        clear MA
        -- ways 1 and 2: bent pairs
        refine ⟨fun σ H' => (∃ x7 x8 x9 x10 x11 x12 x13 x14 x15, σ = [some (.ref a), some (.ref S), some (.int (0 + (i : Int))), some (.ref aP), some (.ref PL), some (.int way), some (.int at_), x7, x8, x9, x10, x11, x12, x13, x14, x15]) ∧ MidP K S C PL aP G H1 vp vc cs way 2 (N + 201000) H', ?_, ?_⟩
        · refine ⟨_, rfl, (by show 2 ≤ sizeLine; decide), fun pT npT => ?_⟩
          have wT := same_new npT (.tup [V.int 1, V.int 2])
          have aT : (upd HB pT (.tup [V.int 1, V.int 2])) pT = _ := upd_same
          have MC := MB.to PP (Int.le_refl _) (Fr.of_same wT) (MB.st.same wT)
          generalize (upd HB pT (.tup [V.int 1, V.int 2])) = HC at wT aT MC ⊢
          refine ⟨pT, _, rfl, .inr (SqT.of aT), rfl, rfl, _, rfl, ite2 (fun c => ?_) (fun c => ?_)⟩
          · have hway : way = 1 ∨ way = 2 := by
              have c' : inV (V.int way) [V.int 1, V.int 2] = true := c
              simp [inV, eqV] at c'
              omega
            obtain ⟨v0, v1, va, es, ePL, hat, hva, nes, pes⟩ := MC.look (by omega) at0 at1
            have bE := nes.big
            have lE := bigs_len es
            have dE := nes.depth
            refine ⟨_, rfl, _, rfl, _, rfl, PL, _, at_, va, rfl, rfl, SqL.of ePL, hat, S, C, _, _, G, va, es, rfl, MC.st, by omega, b3, MC.ex, hva, nes.tup.ok, pes, by omega, fun v' d' HD hv' fd' zd' _ bd' lv' sD fD => ?_⟩
            obtain ⟨ws, e1, e2, ME⟩ := MC.put PP (c' := 2) (by omega) (by omega) at0 at1 fD sD hv' lv' fd' (by omega) (by omega)
            refine ⟨_, rfl, _, rfl, PL, ws, at_, _, rfl, rfl, e1, e2, ⟨⟨_, _, _, _, _, _, _, _, _, rfl⟩, ?_⟩⟩
            exact ME.to PP (Int.le_refl _) (Fr.of_same (Same.refl _)) (ME.st.mono (by omega))
          · exact ⟨⟨_, _, _, _, _, _, _, _, _, rfl⟩, MC.to PP (by omega) (Fr.of_same (Same.refl _)) (MC.st.mono (by omega))⟩
        · rintro σ HC ⟨⟨x7, x8, x9, x10, x11, x12, x13, x14, x15, rfl⟩, MC⟩
          clear MB
          -- way 3: any thing
          refine ⟨fun σ H' => (∃ x7 x8 x9 x10 x11 x12 x13 x14 x15, σ = [some (.ref a), some (.ref S), some (.int (0 + (i : Int))), some (.ref aP), some (.ref PL), some (.int way), some (.int at_), x7, x8, x9, x10, x11, x12, x13, x14, x15]) ∧ MidP K S C PL aP G H1 vp vc cs way 3 (N + 201100) H', ?_, ?_⟩
          · refine ⟨_, rfl, rfl, _, rfl, ite2 (fun c => ?_) (fun c => ?_)⟩
            · have hway : way = 3 := by
                rw [int_dec] at c
                exact of_decide_eq_true c
              have kt : kT 2 = 47 := by decide
              have bt : bT 2 = 18936 := by decide
              refine ⟨_, rfl, S, C, _, [.int 2], rfl, rfl, MC.st, by omega, fun v' d' HD hv' nv' lv' sD fD => ?_⟩
              have hv2 : Dp K (newp G HD) v' d' := Dp_mono (newp_left MC.ex) hv'
              obtain ⟨ws, e1, e2, ME⟩ := MC.put PP (c' := 3) (by omega) (by omega) at0 at1 fD sD hv2 (lv'.mono (newp_left MC.ex)) nv'.fine (Nat.le_trans nv'.depth (by omega)) (Nat.le_trans nv'.big (by omega))
              refine ⟨_, rfl, _, rfl, PL, ws, at_, _, rfl, rfl, e1, e2, ⟨⟨_, _, _, _, _, _, _, _, _, rfl⟩, ?_⟩⟩
              exact ME.to PP (Int.le_refl _) (Fr.of_same (Same.refl _)) (ME.st.mono (by omega))
            · exact ⟨⟨_, _, _, _, _, _, _, _, _, rfl⟩, MC.to PP (by omega) (Fr.of_same (Same.refl _)) (MC.st.mono (by omega))⟩
          · rintro σ HD ⟨⟨x7, x8, x9, x10, x11, x12, x13, x14, x15, rfl⟩, MD⟩
            clear MC
            -- way 4: a child bent
            refine ⟨fun σ H' => (∃ x7 x8 x9 x10 x11 x12 x13 x14 x15, σ = [some (.ref a), some (.ref S), some (.int (0 + (i : Int))), some (.ref aP), some (.ref PL), some (.int way), some (.int at_), x7, x8, x9, x10, x11, x12, x13, x14, x15]) ∧ MidP K S C PL aP G H1 vp vc cs way 4 (N + 202000) H', ?_, ?_⟩
            · refine ⟨_, rfl, rfl, _, rfl, ite2 (fun c => ?_) (fun c => ?_)⟩
              · have hway : way = 4 := by
                  rw [int_dec] at c
                  exact of_decide_eq_true c
                refine ⟨_, rfl, aP, [vp, vc], 1, vc, rfl, rfl, Same.seqT newp_same MD.sq, rfl, (by show 0 ≤ sizeLine; decide), fun pE npE => ?_⟩
                have wE := same_new npE (.tup [])
                have aE : (upd HD pE (.tup [])) pE = _ := upd_same
                have ME := MD.to PP (Int.le_refl _) (Fr.of_same wE) (MD.st.same wE)
                generalize (upd HD pE (.tup [])) = HE at wE aE ME ⊢
                refine ⟨_, _, Dp_mono newp_same ME.dc, .tup (SqT.of aE) .nil, okcs, ok0, _, rfl, ite2 (fun c1 => ?_) (fun c1 => ?_)⟩
                · have hcs0 : 0 < cs.length := by
                    cases cs with
                    | nil => exact absurd c1 (by decide)
                    | cons x y => exact Nat.succ_pos _
                  obtain ⟨v0, v1, es, ePL, hv1, nes, pes, ses, les⟩ := ME.look1 (by omega)
                  obtain ⟨e, es', rfl⟩ : ∃ e es', es = e :: es' := by
                    cases es with
                    | nil =>
                      rw [← les] at hcs0
                      exact absurd hcs0 (by decide)
                    | cons x y => exact ⟨_, _, rfl⟩
                  obtain ⟨dn, dv, rfl⟩ := pair_is (List.all_eq_true.mp pes e List.mem_cons_self)
                  obtain ⟨a2, xs2, b2', x, y, rfl, sa2, sb2, hx2, hy2⟩ : ∃ a2 xs2 b2 x y, v1 = .ref a2 ∧ SqT K (newp G HE) a2 (.ref b2 :: xs2) ∧ SqT K (newp G HE) b2 [x, y] ∧ Dp K (newp G HE) x dn ∧ Dp K (newp G HE) y dv := by
                    cases hv1 with
                    | @tup _ ys _ sy hy =>
                      cases hy with
                      | cons h1 hr =>
                        cases h1 with
                        | @tup _ zs _ sz hz =>
                          cases hz with
                          | cons g1 gr =>
                            cases gr with
                            | cons g2 gr2 =>
                              cases gr2
                              exact ⟨_, _, _, _, _, rfl, sy, sz, g1, g2⟩
                  have hat1 : atI [v0, V.ref a2] 1 = some (.ref a2) := rfl
                  refine ⟨_, rfl, PL, _, 1, _, rfl, rfl, SqL.of ePL, hat1, a2, _, 0, _, rfl, rfl, Same.seqT newp_same sa2, atI0 _ _, b2', [x, y], rfl, Same.seqT newp_same sb2, rfl, _, _, rfl, _, _, rfl, rfl, ?_⟩
                  have npair := nes.mem List.mem_cons_self
                  have ff := npair.fine
                  have gg := npair.depth
                  have bb := npair.big
                  simp only [Vn.fine, Vn.fines, Bool.and_true, Bool.and_eq_true] at ff
                  simp only [PyData.depth, PyData.depthAll] at gg
                  simp only [Vn.big, Vn.bigs] at bb
                  have sdv : shD 11 dv = true := ses (.tuple [dn, dv]) List.mem_cons_self
                  refine ⟨_, rfl, _, rfl, _, rfl, S, C, _, _, 11, G, y, dv, rfl, ME.st, by omega, b3, ME.ex, hy2, ff.2, by omega, by decide, by omega, sdv, fun v' d' HF hv' fd' zd' bd' sF fF => ⟨(by show 2 ≤ sizeLine; decide), fun T1 nT1 => ⟨(by show 1 ≤ sizeLine; decide), fun T2 nT2 => ?_⟩⟩⟩
                  have MF := ME.to PP (Int.le_refl _) fF sF
                  have mEF := newp_fr b3 fF
                  have hxF := Dp_mono mEF hx2
                  have hvF := Dp_mono mEF hv1
                  have ePLF := cut_keep fF PS PC ePL
                  have v1w := same_new nT1 (.tup [x, v'])
                  have c1t := lay_tup (K := K) (B := G) MF.ex nT1 (.cons hxF (.cons hv' .nil))
                  generalize (upd HF T1 (.tup [x, v'])) = F12 at v1w c1t nT2 ⊢
                  have x12' : Ext G F12 := MF.ex.trans (.of_same v1w)
                  have v2w := same_new nT2 (.tup [V.ref T1])
                  have c2t := lay_tup (K := K) (B := G) x12' nT2 (.cons c1t .nil)
                  generalize (upd F12 T2 (.tup [V.ref T1])) = F13 at v2w c2t ⊢
                  have x13' : Ext G F13 := x12'.trans (.of_same v2w)
                  have w13 := v1w.trans v2w
                  have hv13 := Dp_mono (newp_right (H := G) w13) hvF
                  have bE := nes.big
                  have lE := bigs_len (.tuple [dn, dv] :: es')
                  refine ⟨_, rfl, PL, _, 1, _, rfl, rfl, SqL.of (w13 _ _ ePLF), hat1, (1 : Int), rfl, drop_no (i := 1) x13' hv13 (by show 1 ≤ es'.length + 1; omega) fun v3 F14 h14 w14 => ?_⟩
                  have x14' : Ext G F14 := x13'.trans (.of_same w14)
                  refine cat_by x14' (Dp_mono (newp_right w14) c2t) h14 (by show 1 + es'.length ≤ sizeLine; rw [List.length_cons] at lE; rw [sizeLine_eq]; omega) fun v4 F15 h15 w15 => ?_
                  have wF15 := (w13.trans w14).trans w15
                  have ndn : Nice 37 839900 dn := ⟨ff.1, by omega, by omega⟩
                  have nd' : Nice 37 3419600 d' := ⟨fd', by omega, by omega⟩
                  have npp := ((Nices.one (ndn.mono (show 37 ≤ 37 by decide) (show 839900 ≤ 839900 by decide))).append (.one nd')).tup
                  have nall := ((Nices.one npp).append ((nes.drop 1).mono (show 36 ≤ 38 by decide) (Nat.le_refl _))).tup
                  have bd1 : bigs (List.drop 1 (.tuple [dn, dv] :: es')) + big dv + 9 ≤ 839900 := by
                    simp only [List.drop_one, List.tail_cons]
                    simp only [Vn.bigs, Vn.big] at bE
                    omega
                  have hbig : big (.tuple ([.tuple ([dn] ++ [d'])] ++ List.drop 1 (.tuple [dn, dv] :: es'))) ≤ 4300000 := by
                    have bE2 := bE
                    simp only [Vn.bigs, Vn.big] at bE2
                    simp only [Vn.big, Vn.bigs, List.cons_append, List.nil_append, List.drop_one, List.tail_cons]
                    omega
                  obtain ⟨ws, e1, e2, MG⟩ := MF.put PP (at_ := 1) (c' := 4) (by omega) (by omega) (by decide) (by decide) (Fr.of_same wF15) (sF.same wF15) h15 (.not rfl) nall.fine (Nat.le_trans nall.depth (by decide)) hbig
                  refine ⟨_, rfl, PL, ws, 1, _, rfl, rfl, e1, e2, ⟨⟨_, _, _, _, _, _, _, _, _, rfl⟩, ?_⟩⟩
                  exact MG.to PP (Int.le_refl _) (Fr.of_same (Same.refl _)) (MG.st.mono (by omega))
                · exact ⟨⟨_, _, _, _, _, _, _, _, _, rfl⟩, ME.to PP (by omega) (Fr.of_same (Same.refl _)) (ME.st.mono (by omega))⟩
              · exact ⟨⟨_, _, _, _, _, _, _, _, _, rfl⟩, MD.to PP (by omega) (Fr.of_same (Same.refl _)) (MD.st.mono (by omega))⟩
            · rintro σ HE ⟨⟨x7, x8, x9, x10, x11, x12, x13, x14, x15, rfl⟩, ME⟩
              clear MD
              have tE : LamX.TabS HE Z.PB qL := TabS.fr t1 s1 ME.fr
              obtain ⟨v0, v1, d0, d1, ePL, k0, k1, kz, l0, l1⟩ := ME.pr
              have B2 : stB d0 d1 := kz.elim (fun z => stA_B z) (fun z => z.1)
              have sE := ME.st
              have xE := ME.ex
              have fE := ME.fr
              clear ME kz PP
              obtain ⟨b21, b22, b23, b24, b25⟩ := B2
              have okd : Ok d0 ∧ Ok d1 := ⟨⟨b21, Nat.le_trans (show big d0 ≤ 5200000 by omega) (by rw [sizeLine_eq]; omega), by omega⟩, ⟨b22, Nat.le_trans (show big d1 ≤ 5200000 by omega) (by rw [sizeLine_eq]; omega), by omega⟩⟩
              have nt0 := nt_big d0
              have nt1 := nt_big d1
              -- handed
              refine ⟨_, rfl, PL, rfl, ⟨_, SqL.of ePL⟩, fun D nD => ?_⟩
              obtain ⟨G2, xG, gD, sG, sm, xG2⟩ := side_ext b3 xE nD (.lst [])
              have DS := sE.neS nD
              have DC := sE.neC nD
              have PLD : PL ≠ D := ne_of_none ePL nD
              have k0' := Dp_mono sm k0
              have k1' := Dp_mono sm k1
              have l0' := l0.mono sm
              have l1' := l1.mono sm
              refine lc_list (xs := [v0, v1]) (fun i H' => ∃ vs es, H' D = some (.lst vs) ∧ H' PL = some (.lst [v0, v1]) ∧ DpAll K (newp G2 H') vs es ∧ LivA (newp G2 H') vs es ∧ es.map tupD = ([d0, d1].take i).map tupD ∧ Strm S C (N + 202000 + nts ([d0, d1].take i)) H' ∧ Fr S C HE H' ∧ Ext G2 H')
                ⟨[], [], upd_same, (upd_ne PLD).trans ePL, .nil, .nil, rfl, (sE.lay nD _).mono (Nat.le_refl _), Fr.lay nD _, xG2⟩ (fun i H' _ p => by
                  obtain ⟨_, _, _, e, _⟩ := p
                  exact SqL.of e) ?_ ?_
              · rintro i u H3 hu ⟨vs, es, eD, eP, dv, lv, et, s3, f3, x3⟩
                refine ⟨rfl, ?_⟩
                unfold tYes
                refine iteT ?_
                have m3 := newp_fr sG f3
                obtain ⟨x, hx, dx, lx, okx, zx, nx⟩ : ∃ x, [d0, d1][i]? = some x ∧ Dp K (newp G2 HE) u x ∧ LivL (newp G2 HE) u x ∧ Ok x ∧ x.depth ≤ 46 ∧ nts ([d0, d1].take i) + nt x ≤ 1733400 := by
                  match i, hu with
                  | 0, hu => cases hu; exact ⟨_, rfl, k0', l0', okd.1, by omega, by show 0 + nt d0 ≤ _; omega⟩
                  | 1, hu => cases hu; exact ⟨_, rfl, k1', l1', okd.2, by omega, by show nt d0 + 0 + nt d1 ≤ _; omega⟩
                  | i + 2, hu => simp at hu
                have tk := nts_take hx
                refine ⟨_, rfl, _, rfl, S, C, _, _, G2, u, x, rfl, s3, by omega, sG, x3, Dp_mono m3 dx, zx, okx, fun v' d' H4 dv' et' lv' s4 f4 => ?_⟩
                have eD4 := cut_keep f4 DS DC eD
                have m4 := (newp_fr sG f4).trans (newp_upd (o := .lst (vs ++ [v'])) gD)
                refine ⟨vs, eD4, ?_, vs ++ [v'], es ++ [d'], upd_same, (upd_ne PLD).trans (cut_keep f4 PS PC eP), DpAll_snoc (DpAll_mono m4 dv) (Dp_mono (newp_upd gD) dv'), (lv.mono m4).append (.cons ((lv' (lx.mono m3)).mono (newp_upd gD)) .nil), ?_, ?_, Fr.upd (f3.trans f4) nD, (x3.trans (Fr.ext s4 f4)).trans Ext.upd⟩
                · have h1 := DpAll_len dv
                  have h2 := congrArg List.length et
                  rw [List.length_map, List.length_map, List.length_take] at h2
                  have h3 : min i [d0, d1].length ≤ 2 := Nat.min_le_right _ _
                  rw [sizeLine_eq]
                  omega
                · rw [List.map_append, et, take_snoc hx, List.map_append]
                  show _ ++ [tupD d'] = _ ++ [tupD x]
                  rw [et']
                · exact (s4.upd DS DC (.lst (vs ++ [v']))).mono (by omega)
              · rintro HF ⟨vs, es, eD, eP, dv, lv, et, sF, fF, xF⟩
                have et2 : es.map tupD = [tupD d0, tupD d1] := et
                have sF2 : Strm S C (N + 1940000) HF := sF.mono (by show N + 202000 + (nt d0 + (nt d1 + 0)) ≤ _; omega)
                clear et sF
                obtain ⟨e0, e1, rfl, q0, q1⟩ : ∃ e0 e1, es = [e0, e1] ∧ tupD e0 = tupD d0 ∧ tupD e1 = tupD d1 := by
                  rcases es with _ | ⟨a, _ | ⟨b, _ | ⟨c, r⟩⟩⟩ <;> simp at et2
                  exact ⟨a, b, rfl, et2.1, et2.2⟩
                obtain ⟨w0, w1, rfl, g0, g1, j0, j1⟩ : ∃ w0 w1, vs = [w0, w1] ∧ Dp K (newp G2 HF) w0 e0 ∧ Dp K (newp G2 HF) w1 e1 ∧ LivL (newp G2 HF) w0 e0 ∧ LivL (newp G2 HF) w1 e1 := by
                  cases dv with
                  | cons h0 r =>
                    cases r with
                    | cons h1 r2 =>
                      cases r2
                      cases lv with
                      | cons i0 r3 =>
                        cases r3 with
                        | cons i1 r4 => exact ⟨_, _, rfl, h0, h1, i0, i1⟩
                obtain ⟨stE, mkE⟩ := stB_tup ⟨b21, b22, b23, b24, b25⟩ q0 q1
                have hw0 := Dp_mono newp_same g0
                have hw1 := Dp_mono newp_same g1
                have okL := stB_okL stE
                have hD : Dp K HF (.ref D) (.list [e0, e1]) := .lst (SqL.of eD) (.cons hw0 (.cons hw1 .nil))
                obtain ⟨sh1, sh2, sh3⟩ := shown_big (.list [e0, e1]) okL.fine
                have sh4 := Nat.le_trans sh3 okL.big
                have mF := newp_fr sG fF
                have tF : LamX.TabS HF Z.PB qL := TabS.fr tE sE fF
                have c0 := Dp_mono newp_same (Dp_mono mF k0')
                have c1 := Dp_mono newp_same (Dp_mono mF k1')
                have S0 : ShV K S C D HF 5200000 HF w0 := ShV.of g0 j0 sG gD (by have := stE.2.2.2.2; omega)
                have S1 : ShV K S C D HF 5200000 HF w1 := ShV.of g1 j1 sG gD (by have := stE.2.2.2.2; omega)
                have okm := mk_ok (stB_ok ⟨b21, b22, b23, b24, b25⟩)
                refine ⟨_, rfl, .ref D, .list [e0, e1], rfl, hD, sh1, sh2, okL.depth, sh4, _, rfl, PL, _, 0, v0, rfl, rfl, SqL.of eP, rfl, _, rfl, PL, _, 1, v1, rfl, rfl, SqL.of eP, rfl, due_of (E := E0) c0 c1 (stB_ok ⟨b21, b22, b23, b24, b25⟩) fun vd HG w2 dd => ⟨_, _, rfl, ?_⟩⟩
                have tG := tF.ext w2
                have eDG := w2 _ _ eD
                refine ⟨_, rfl, D, _, 0, w0, rfl, rfl, SqL.of eDG, rfl, _, rfl, D, _, 1, w1, rfl, rfl, SqL.of eDG, rfl, made_of (E := E0) (Dp_mono w2 hw0) (Dp_mono w2 hw1) (stB_ok stE) tG fun vf HH x2' tH ff => ?_⟩
                rw [mkE] at ff
                have xHH : Ext HG HH := x2'.ext
                have nPB := TabS.some tF
                have dH : DueV K (newp HF HH) vd (mkD d0 d1) := dd.mono (newp_extT nPB x2')
                have fH : FndV K (newp HF HH) vf (mkD d0 d1) := ff.mono (newp_left (Ext.of_same w2))
                have eDH : HH D = some (.lst [w0, w1]) := x2'.keep _ _ (TabS.ne tG eDG fun _ z => nomatch z) eDG
                have hDH : Dp K HH (.ref D) (.list [e0, e1]) := Dp_extT tG x2' (Dp_mono w2 hD)
                have sH : Strm S C (N + 1940000) HH := Strm.extT (sF2.same w2) tG x2'
                have S0' := (S0.same w2).extT tG x2'
                have S1' := (S1.same w2).extT tG x2'
                have hDF : HF D ≠ none := by
                  rw [eD]
                  exact Option.some_ne_none _
                refine same_due rfl rfl (dH.mono newp_same) (fH.mono newp_same) okm ⟨true, rfl, iteF ?_⟩
                refine ⟨_, rfl, .ref D, .list [e0, e1], rfl, hDH, sh1, sh2, okL.depth, sh4, _, rfl, rfl, _, rfl, iteNS rfl ?_⟩
                refine ⟨_, rfl, D, rfl, ⟨_, SqL.of eDH⟩, for_list (xs := [w0, w1]) (fun j σ H' => (∃ x12 x13, σ = [some (.ref a), some (.ref S), some (.int (0 + (i : Int))), some (.ref aP), some (.ref PL), some (.int way), some (.int at_), x7, x8, x9, x10, some (.ref D), x12, x13, some vd, some vf]) ∧ Strm S C (N + 1940000) H' ∧ LamX.TabS H' Z.PB qL ∧ H' D = some (.lst [w0, w1]) ∧ ShV K S C D HF (5200000 + j) H' w0 ∧ ShV K S C D HF (5200000 + j) H' w1 ∧ DueV K (newp HF H') vd (mkD d0 d1) ∧ FndV K (newp HF H') vf (mkD d0 d1))
                  ⟨⟨_, _, rfl⟩, sH, tH, eDH, S0', S1', dH, fH⟩ (fun j σ H' _ p => SqL.of p.2.2.2.1) ?_ ?_⟩
                · rintro j u σ H' hu ⟨⟨x12, x13, rfl⟩, s, t, eD', z0, z1, dd', ff'⟩
                  have zu : ShV K S C D HF (5200000 + j) H' u ∧ j ≤ 1 := by
                    match j, hu with
                    | 0, hu => cases hu; exact ⟨z0, by omega⟩
                    | 1, hu => cases hu; exact ⟨z1, by omega⟩
                    | j + 2, hu => simp at hu
                  refine ShV.test rfl zu.1 (fun l xs r h1 h2 h3 h4 h5 h6 => iteT ?_) (iteF ?_)
                  · subst r
                    refine ⟨_, rfl, .inl ⟨rfl, _, SqL.of h5⟩, (by show 2 ≤ sizeLine; decide), fun T nT => ?_⟩
                    have wT := same_new nT (.tup [V.str "zz", V.int 1])
                    have h5' := wT _ _ h5
                    have eD2 := wT _ _ eD'
                    have s' := s.same wT
                    have t' := t.ext wT
                    have z0' := z0.same wT
                    have z1' := z1.same wT
                    have dd2 := dd'.mono (newp_right (H := HF) wT)
                    have ff2 := ff'.mono (newp_right (H := HF) wT)
                    generalize (upd H' T (.tup [V.str "zz", V.int 1])) = H2 at h5' eD2 s' t' z0' z1' dd2 ff2 ⊢
                    refine ⟨l, xs, _, rfl, rfl, h5', by rw [sizeLine_eq]; omega, ⟨_, _, rfl⟩, s'.upd h1 h2 _, TabS.up t' h5', (upd_ne h3.symm).trans eD2, z0'.up h5' h6, z1'.up h5' h6, dd2.mono (newp_upd h4), ff2.mono (newp_upd h4)⟩
                  · have up : ∀ {v : V}, ShV K S C D HF (5200000 + j) H' v → ShV K S C D HF (5200000 + (j + 1)) H' v := fun {v} h => by
                      rcases h with ⟨a, xs, r, h1, h2, h3, h4, h5, h6⟩ | h
                      · exact .inl ⟨a, xs, r, h1, h2, h3, h4, h5, by omega⟩
                      · exact .inr h
                    exact ⟨⟨_, _, rfl⟩, s, t, eD', up z0, up z1, dd', ff'⟩
                · rintro σ H' ⟨⟨x12, x13, rfl⟩, s, t, eD', z0, z1, dd', ff'⟩
                  refine same_due rfl rfl (dd'.mono newp_same) (ff'.mono newp_same) okm ⟨true, rfl, iteF ?_⟩
                  exact ⟨⟨_, _, _, _, _, _, _, _, _, _, _, _, _, _, rfl⟩, s.mono (by rw [Nat.succ_mul]; omega), t⟩
  · rintro σ H1 ⟨⟨x2, x3, x4, x5, x6, x7, x8, x9, x10, x11, x12, x13, x14, x15, rfl⟩, _, t1⟩
    have n0 : ∀ Hx, Dp K Hx (.ref Z.e0_make_tree) (.tuple []) := fun Hx => .tup (Z.D_make_tree.n0.sq Hx) .nil
    have n1 : ∀ Hx, Dp K Hx (.ref Z.e1_make_tree) (.tuple []) := fun Hx => .tup (Z.D_make_tree.n1.sq Hx) .nil
    have okA : Ok (.tuple [.tuple [], .tuple []]) := ⟨by decide +kernel, by decide +kernel, by decide +kernel⟩
    refine ⟨_, _, .tuple [], .tuple [], rfl, n0 _, n1 _, okA, t1, fun _ r1 H2 e1 t2 m1 => ?_, fun z => by rw [mkA, trA] at z; cases z⟩
    rw [mkA] at m1
    have m1 := Dp_mono newp_same m1
    clear e1 t1
    refine ⟨(by show 2 ≤ sizeLine; decide), fun y1 ny1 => ⟨(by show 2 ≤ sizeLine; decide), fun y2 ny2 => ⟨(by show 2 ≤ sizeLine; decide), fun y3 ny3 => ?_⟩⟩⟩
    have uy1 := same_new ny1 (.tup [V.str "b", V.int 2])
    have ty1 := lay_t (K := K) ny1 (.cons (.str (Str.ofString "b")) (.cons (.int 2) .nil))
    have m1 := Dp_mono uy1 m1
    have t2 := t2.ext uy1
    clear uy1
    generalize (upd H2 y1 (.tup [V.str "b", V.int 2])) = Jy1 at ty1 m1 t2 ny2 ny3 ⊢
    have uy2 := same_new ny2 (.tup [V.str "a", V.int 1])
    have ty2 := lay_t (K := K) ny2 (.cons (.str (Str.ofString "a")) (.cons (.int 1) .nil))
    have m1 := Dp_mono uy2 m1
    have ty1 := Dp_mono uy2 ty1
    have t2 := t2.ext uy2
    clear uy2
    generalize (upd Jy1 y2 (.tup [V.str "a", V.int 1])) = Jy2 at ty2 m1 ty1 t2 ny3 ⊢
    have uy3 := same_new ny3 (.lst [V.ref y1, V.ref y2])
    have ty3 := lay_l (K := K) ny3 (.cons ty1 (.cons ty2 .nil))
    have m1 := Dp_mono uy3 m1
    have ty1 := Dp_mono uy3 ty1
    have ty2 := Dp_mono uy3 ty2
    have t2 := t2.ext uy3
    clear uy3
    generalize (upd Jy2 y3 (.lst [V.ref y1, V.ref y2])) = Jy3 at ty3 m1 ty1 ty2 t2  ⊢
    refine ⟨_, _, .list [.tuple [.str (Str.ofString "b"), .int 2], .tuple [.str (Str.ofString "a"), .int 1]], .tuple [], rfl, ty3, n1 _, ⟨by decide +kernel, by decide +kernel, by decide +kernel⟩, t2, fun _ r2 H3 e2 t3 m2 => ?_, fun z => by rw [mkB, trB] at z; cases z⟩
    rw [mkB] at m2
    have m2 := Dp_mono newp_same m2
    have m1 := Dp_extT t2 e2 m1
    clear e2 t2
    refine ⟨(by show 0 ≤ sizeLine; decide), fun y4 ny4 => ⟨(by show 0 ≤ sizeLine; decide), fun y5 ny5 => ⟨(by show 0 ≤ sizeLine; decide), fun y6 ny6 => ⟨(by show 2 ≤ sizeLine; decide), fun y7 ny7 => ⟨(by show 2 ≤ sizeLine; decide), fun y8 ny8 => ⟨(by show 1 ≤ sizeLine; decide), fun y9 ny9 => ?_⟩⟩⟩⟩⟩⟩
    have uy4 := same_new ny4 (.tup [])
    have ty4 := lay_t (K := K) ny4 .nil
    have m1 := Dp_mono uy4 m1
    have m2 := Dp_mono uy4 m2
    have t3 := t3.ext uy4
    clear uy4
    generalize (upd H3 y4 (.tup [])) = Jy4 at ty4 m1 m2 t3 ny5 ny6 ny7 ny8 ny9 ⊢
    have uy5 := same_new ny5 (.lst [])
    have ty5 := lay_l (K := K) ny5 .nil
    have m1 := Dp_mono uy5 m1
    have m2 := Dp_mono uy5 m2
    have ty4 := Dp_mono uy5 ty4
    have t3 := t3.ext uy5
    clear uy5
    generalize (upd Jy4 y5 (.lst [])) = Jy5 at ty5 m1 m2 ty4 t3 ny6 ny7 ny8 ny9 ⊢
    have uy6 := same_new ny6 (.tup [])
    have ty6 := lay_t (K := K) ny6 .nil
    have m1 := Dp_mono uy6 m1
    have m2 := Dp_mono uy6 m2
    have ty4 := Dp_mono uy6 ty4
    have ty5 := Dp_mono uy6 ty5
    have t3 := t3.ext uy6
    clear uy6
    generalize (upd Jy5 y6 (.tup [])) = Jy6 at ty6 m1 m2 ty4 ty5 t3 ny7 ny8 ny9 ⊢
    have uy7 := same_new ny7 (.lst [V.ref y5, V.ref y6])
    have ty7 := lay_l (K := K) ny7 (.cons ty5 (.cons ty6 .nil))
    have m1 := Dp_mono uy7 m1
    have m2 := Dp_mono uy7 m2
    have ty4 := Dp_mono uy7 ty4
    have ty5 := Dp_mono uy7 ty5
    have ty6 := Dp_mono uy7 ty6
    have t3 := t3.ext uy7
    clear uy7
    generalize (upd Jy6 y7 (.lst [V.ref y5, V.ref y6])) = Jy7 at ty7 m1 m2 ty4 ty5 ty6 t3 ny8 ny9 ⊢
    have uy8 := same_new ny8 (.tup [V.str "k", V.ref y7])
    have ty8 := lay_t (K := K) ny8 (.cons (.str (Str.ofString "k")) (.cons ty7 .nil))
    have m1 := Dp_mono uy8 m1
    have m2 := Dp_mono uy8 m2
    have ty4 := Dp_mono uy8 ty4
    have ty5 := Dp_mono uy8 ty5
    have ty6 := Dp_mono uy8 ty6
    have ty7 := Dp_mono uy8 ty7
    have t3 := t3.ext uy8
    clear uy8
    generalize (upd Jy7 y8 (.tup [V.str "k", V.ref y7])) = Jy8 at ty8 m1 m2 ty4 ty5 ty6 ty7 t3 ny9 ⊢
    have uy9 := same_new ny9 (.lst [V.ref y8])
    have ty9 := lay_l (K := K) ny9 (.cons ty8 .nil)
    have m1 := Dp_mono uy9 m1
    have m2 := Dp_mono uy9 m2
    have ty4 := Dp_mono uy9 ty4
    have ty5 := Dp_mono uy9 ty5
    have ty6 := Dp_mono uy9 ty6
    have ty7 := Dp_mono uy9 ty7
    have ty8 := Dp_mono uy9 ty8
    have t3 := t3.ext uy9
    clear uy9
    generalize (upd Jy8 y9 (.lst [V.ref y8])) = Jy9 at ty9 m1 m2 ty4 ty5 ty6 ty7 ty8 t3  ⊢
    refine ⟨_, _, .tuple [], .list [.tuple [.str (Str.ofString "k"), .list [.list [], .tuple []]]], rfl, ty4, ty9, ⟨by decide +kernel, by decide +kernel, by decide +kernel⟩, t3, fun _ r3 H4 e3 t4 m3 => ?_, fun z => by rw [mkC, trC] at z; cases z⟩
    rw [mkC] at m3
    have m3 := Dp_mono newp_same m3
    have m1 := Dp_extT t3 e3 m1
    have m2 := Dp_extT t3 e3 m2
    clear e3 t3
    refine ⟨(by show 3 ≤ sizeLine; decide), fun y10 ny10 => ?_⟩
    have uy10 := same_new ny10 (.lst [r1, r2, r3])
    have ty10 := lay_l (K := K) ny10 (.cons m1 (.cons m2 (.cons m3 .nil)))
    have m1 := Dp_mono uy10 m1
    have m2 := Dp_mono uy10 m2
    have m3 := Dp_mono uy10 m3
    have t4 := t4.ext uy10
    clear uy10
    generalize (upd H4 y10 (.lst [r1, r2, r3])) = Jy10 at ty10 m1 m2 m3 t4  ⊢
    clear m1 m2 m3 t4
    refine ⟨_, rfl, ?_⟩
    refine ⟨(by show 0 ≤ sizeLine; decide), fun y11 ny11 => ⟨(by show 0 ≤ sizeLine; decide), fun y12 ny12 => ⟨(by show 2 ≤ sizeLine; decide), fun y13 ny13 => ⟨(by show 2 ≤ sizeLine; decide), fun y14 ny14 => ⟨(by show 2 ≤ sizeLine; decide), fun y15 ny15 => ⟨(by show 2 ≤ sizeLine; decide), fun y16 ny16 => ⟨(by show 0 ≤ sizeLine; decide), fun y17 ny17 => ⟨(by show 2 ≤ sizeLine; decide), fun y18 ny18 => ⟨(by show 0 ≤ sizeLine; decide), fun y19 ny19 => ⟨(by show 0 ≤ sizeLine; decide), fun y20 ny20 => ⟨(by show 0 ≤ sizeLine; decide), fun y21 ny21 => ⟨(by show 2 ≤ sizeLine; decide), fun y22 ny22 => ⟨(by show 2 ≤ sizeLine; decide), fun y23 ny23 => ⟨(by show 1 ≤ sizeLine; decide), fun y24 ny24 => ⟨(by show 2 ≤ sizeLine; decide), fun y25 ny25 => ⟨(by show 3 ≤ sizeLine; decide), fun y26 ny26 => ?_⟩⟩⟩⟩⟩⟩⟩⟩⟩⟩⟩⟩⟩⟩⟩⟩
    have uy11 := same_new ny11 (.tup [])
    have ty11 := lay_t (K := K) ny11 .nil
    have ty10 := Dp_mono uy11 ty10
    clear uy11
    generalize (upd Jy10 y11 (.tup [])) = Jy11 at ty11 ty10  ny12 ny13 ny14 ny15 ny16 ny17 ny18 ny19 ny20 ny21 ny22 ny23 ny24 ny25 ny26 ⊢
    have uy12 := same_new ny12 (.tup [])
    have ty12 := lay_t (K := K) ny12 .nil
    have ty10 := Dp_mono uy12 ty10
    have ty11 := Dp_mono uy12 ty11
    clear uy12
    generalize (upd Jy11 y12 (.tup [])) = Jy12 at ty12 ty10 ty11  ny13 ny14 ny15 ny16 ny17 ny18 ny19 ny20 ny21 ny22 ny23 ny24 ny25 ny26 ⊢
    have uy13 := same_new ny13 (.tup [V.ref y11, V.ref y12])
    have ty13 := lay_t (K := K) ny13 (.cons ty11 (.cons ty12 .nil))
    have ty10 := Dp_mono uy13 ty10
    have ty11 := Dp_mono uy13 ty11
    have ty12 := Dp_mono uy13 ty12
    clear uy13
    generalize (upd Jy12 y13 (.tup [V.ref y11, V.ref y12])) = Jy13 at ty13 ty10 ty11 ty12  ny14 ny15 ny16 ny17 ny18 ny19 ny20 ny21 ny22 ny23 ny24 ny25 ny26 ⊢
    have uy14 := same_new ny14 (.tup [V.str "a", V.int 1])
    have ty14 := lay_t (K := K) ny14 (.cons (.str (Str.ofString "a")) (.cons (.int 1) .nil))
    have ty10 := Dp_mono uy14 ty10
    have ty11 := Dp_mono uy14 ty11
    have ty12 := Dp_mono uy14 ty12
    have ty13 := Dp_mono uy14 ty13
    clear uy14
    generalize (upd Jy13 y14 (.tup [V.str "a", V.int 1])) = Jy14 at ty14 ty10 ty11 ty12 ty13  ny15 ny16 ny17 ny18 ny19 ny20 ny21 ny22 ny23 ny24 ny25 ny26 ⊢
    have uy15 := same_new ny15 (.tup [V.str "b", V.int 2])
    have ty15 := lay_t (K := K) ny15 (.cons (.str (Str.ofString "b")) (.cons (.int 2) .nil))
    have ty10 := Dp_mono uy15 ty10
    have ty11 := Dp_mono uy15 ty11
    have ty12 := Dp_mono uy15 ty12
    have ty13 := Dp_mono uy15 ty13
    have ty14 := Dp_mono uy15 ty14
    clear uy15
    generalize (upd Jy14 y15 (.tup [V.str "b", V.int 2])) = Jy15 at ty15 ty10 ty11 ty12 ty13 ty14  ny16 ny17 ny18 ny19 ny20 ny21 ny22 ny23 ny24 ny25 ny26 ⊢
    have uy16 := same_new ny16 (.tup [V.ref y14, V.ref y15])
    have ty16 := lay_t (K := K) ny16 (.cons ty14 (.cons ty15 .nil))
    have ty10 := Dp_mono uy16 ty10
    have ty11 := Dp_mono uy16 ty11
    have ty12 := Dp_mono uy16 ty12
    have ty13 := Dp_mono uy16 ty13
    have ty14 := Dp_mono uy16 ty14
    have ty15 := Dp_mono uy16 ty15
    clear uy16
    generalize (upd Jy15 y16 (.tup [V.ref y14, V.ref y15])) = Jy16 at ty16 ty10 ty11 ty12 ty13 ty14 ty15  ny17 ny18 ny19 ny20 ny21 ny22 ny23 ny24 ny25 ny26 ⊢
    have uy17 := same_new ny17 (.tup [])
    have ty17 := lay_t (K := K) ny17 .nil
    have ty10 := Dp_mono uy17 ty10
    have ty11 := Dp_mono uy17 ty11
    have ty12 := Dp_mono uy17 ty12
    have ty13 := Dp_mono uy17 ty13
    have ty14 := Dp_mono uy17 ty14
    have ty15 := Dp_mono uy17 ty15
    have ty16 := Dp_mono uy17 ty16
    clear uy17
    generalize (upd Jy16 y17 (.tup [])) = Jy17 at ty17 ty10 ty11 ty12 ty13 ty14 ty15 ty16  ny18 ny19 ny20 ny21 ny22 ny23 ny24 ny25 ny26 ⊢
    have uy18 := same_new ny18 (.tup [V.ref y16, V.ref y17])
    have ty18 := lay_t (K := K) ny18 (.cons ty16 (.cons ty17 .nil))
    have ty10 := Dp_mono uy18 ty10
    have ty11 := Dp_mono uy18 ty11
    have ty12 := Dp_mono uy18 ty12
    have ty13 := Dp_mono uy18 ty13
    have ty14 := Dp_mono uy18 ty14
    have ty15 := Dp_mono uy18 ty15
    have ty16 := Dp_mono uy18 ty16
    have ty17 := Dp_mono uy18 ty17
    clear uy18
    generalize (upd Jy17 y18 (.tup [V.ref y16, V.ref y17])) = Jy18 at ty18 ty10 ty11 ty12 ty13 ty14 ty15 ty16 ty17  ny19 ny20 ny21 ny22 ny23 ny24 ny25 ny26 ⊢
    have uy19 := same_new ny19 (.tup [])
    have ty19 := lay_t (K := K) ny19 .nil
    have ty10 := Dp_mono uy19 ty10
    have ty11 := Dp_mono uy19 ty11
    have ty12 := Dp_mono uy19 ty12
    have ty13 := Dp_mono uy19 ty13
    have ty14 := Dp_mono uy19 ty14
    have ty15 := Dp_mono uy19 ty15
    have ty16 := Dp_mono uy19 ty16
    have ty17 := Dp_mono uy19 ty17
    have ty18 := Dp_mono uy19 ty18
    clear uy19
    generalize (upd Jy18 y19 (.tup [])) = Jy19 at ty19 ty10 ty11 ty12 ty13 ty14 ty15 ty16 ty17 ty18  ny20 ny21 ny22 ny23 ny24 ny25 ny26 ⊢
    have uy20 := same_new ny20 (.tup [])
    have ty20 := lay_t (K := K) ny20 .nil
    have ty10 := Dp_mono uy20 ty10
    have ty11 := Dp_mono uy20 ty11
    have ty12 := Dp_mono uy20 ty12
    have ty13 := Dp_mono uy20 ty13
    have ty14 := Dp_mono uy20 ty14
    have ty15 := Dp_mono uy20 ty15
    have ty16 := Dp_mono uy20 ty16
    have ty17 := Dp_mono uy20 ty17
    have ty18 := Dp_mono uy20 ty18
    have ty19 := Dp_mono uy20 ty19
    clear uy20
    generalize (upd Jy19 y20 (.tup [])) = Jy20 at ty20 ty10 ty11 ty12 ty13 ty14 ty15 ty16 ty17 ty18 ty19  ny21 ny22 ny23 ny24 ny25 ny26 ⊢
    have uy21 := same_new ny21 (.tup [])
    have ty21 := lay_t (K := K) ny21 .nil
    have ty10 := Dp_mono uy21 ty10
    have ty11 := Dp_mono uy21 ty11
    have ty12 := Dp_mono uy21 ty12
    have ty13 := Dp_mono uy21 ty13
    have ty14 := Dp_mono uy21 ty14
    have ty15 := Dp_mono uy21 ty15
    have ty16 := Dp_mono uy21 ty16
    have ty17 := Dp_mono uy21 ty17
    have ty18 := Dp_mono uy21 ty18
    have ty19 := Dp_mono uy21 ty19
    have ty20 := Dp_mono uy21 ty20
    clear uy21
    generalize (upd Jy20 y21 (.tup [])) = Jy21 at ty21 ty10 ty11 ty12 ty13 ty14 ty15 ty16 ty17 ty18 ty19 ty20  ny22 ny23 ny24 ny25 ny26 ⊢
    have uy22 := same_new ny22 (.tup [V.ref y20, V.ref y21])
    have ty22 := lay_t (K := K) ny22 (.cons ty20 (.cons ty21 .nil))
    have ty10 := Dp_mono uy22 ty10
    have ty11 := Dp_mono uy22 ty11
    have ty12 := Dp_mono uy22 ty12
    have ty13 := Dp_mono uy22 ty13
    have ty14 := Dp_mono uy22 ty14
    have ty15 := Dp_mono uy22 ty15
    have ty16 := Dp_mono uy22 ty16
    have ty17 := Dp_mono uy22 ty17
    have ty18 := Dp_mono uy22 ty18
    have ty19 := Dp_mono uy22 ty19
    have ty20 := Dp_mono uy22 ty20
    have ty21 := Dp_mono uy22 ty21
    clear uy22
    generalize (upd Jy21 y22 (.tup [V.ref y20, V.ref y21])) = Jy22 at ty22 ty10 ty11 ty12 ty13 ty14 ty15 ty16 ty17 ty18 ty19 ty20 ty21  ny23 ny24 ny25 ny26 ⊢
    have uy23 := same_new ny23 (.tup [V.str "k", V.ref y22])
    have ty23 := lay_t (K := K) ny23 (.cons (.str (Str.ofString "k")) (.cons ty22 .nil))
    have ty10 := Dp_mono uy23 ty10
    have ty11 := Dp_mono uy23 ty11
    have ty12 := Dp_mono uy23 ty12
    have ty13 := Dp_mono uy23 ty13
    have ty14 := Dp_mono uy23 ty14
    have ty15 := Dp_mono uy23 ty15
    have ty16 := Dp_mono uy23 ty16
    have ty17 := Dp_mono uy23 ty17
    have ty18 := Dp_mono uy23 ty18
    have ty19 := Dp_mono uy23 ty19
    have ty20 := Dp_mono uy23 ty20
    have ty21 := Dp_mono uy23 ty21
    have ty22 := Dp_mono uy23 ty22
    clear uy23
    generalize (upd Jy22 y23 (.tup [V.str "k", V.ref y22])) = Jy23 at ty23 ty10 ty11 ty12 ty13 ty14 ty15 ty16 ty17 ty18 ty19 ty20 ty21 ty22  ny24 ny25 ny26 ⊢
    have uy24 := same_new ny24 (.tup [V.ref y23])
    have ty24 := lay_t (K := K) ny24 (.cons ty23 .nil)
    have ty10 := Dp_mono uy24 ty10
    have ty11 := Dp_mono uy24 ty11
    have ty12 := Dp_mono uy24 ty12
    have ty13 := Dp_mono uy24 ty13
    have ty14 := Dp_mono uy24 ty14
    have ty15 := Dp_mono uy24 ty15
    have ty16 := Dp_mono uy24 ty16
    have ty17 := Dp_mono uy24 ty17
    have ty18 := Dp_mono uy24 ty18
    have ty19 := Dp_mono uy24 ty19
    have ty20 := Dp_mono uy24 ty20
    have ty21 := Dp_mono uy24 ty21
    have ty22 := Dp_mono uy24 ty22
    have ty23 := Dp_mono uy24 ty23
    clear uy24
    generalize (upd Jy23 y24 (.tup [V.ref y23])) = Jy24 at ty24 ty10 ty11 ty12 ty13 ty14 ty15 ty16 ty17 ty18 ty19 ty20 ty21 ty22 ty23  ny25 ny26 ⊢
    have uy25 := same_new ny25 (.tup [V.ref y19, V.ref y24])
    have ty25 := lay_t (K := K) ny25 (.cons ty19 (.cons ty24 .nil))
    have ty10 := Dp_mono uy25 ty10
    have ty11 := Dp_mono uy25 ty11
    have ty12 := Dp_mono uy25 ty12
    have ty13 := Dp_mono uy25 ty13
    have ty14 := Dp_mono uy25 ty14
    have ty15 := Dp_mono uy25 ty15
    have ty16 := Dp_mono uy25 ty16
    have ty17 := Dp_mono uy25 ty17
    have ty18 := Dp_mono uy25 ty18
    have ty19 := Dp_mono uy25 ty19
    have ty20 := Dp_mono uy25 ty20
    have ty21 := Dp_mono uy25 ty21
    have ty22 := Dp_mono uy25 ty22
    have ty23 := Dp_mono uy25 ty23
    have ty24 := Dp_mono uy25 ty24
    clear uy25
    generalize (upd Jy24 y25 (.tup [V.ref y19, V.ref y24])) = Jy25 at ty25 ty10 ty11 ty12 ty13 ty14 ty15 ty16 ty17 ty18 ty19 ty20 ty21 ty22 ty23 ty24  ny26 ⊢
    have uy26 := same_new ny26 (.lst [V.ref y13, V.ref y18, V.ref y25])
    have ty26 := lay_l (K := K) ny26 (.cons ty13 (.cons ty18 (.cons ty25 .nil)))
    have ty10 := Dp_mono uy26 ty10
    have ty11 := Dp_mono uy26 ty11
    have ty12 := Dp_mono uy26 ty12
    have ty13 := Dp_mono uy26 ty13
    have ty14 := Dp_mono uy26 ty14
    have ty15 := Dp_mono uy26 ty15
    have ty16 := Dp_mono uy26 ty16
    have ty17 := Dp_mono uy26 ty17
    have ty18 := Dp_mono uy26 ty18
    have ty19 := Dp_mono uy26 ty19
    have ty20 := Dp_mono uy26 ty20
    have ty21 := Dp_mono uy26 ty21
    have ty22 := Dp_mono uy26 ty22
    have ty23 := Dp_mono uy26 ty23
    have ty24 := Dp_mono uy26 ty24
    have ty25 := Dp_mono uy26 ty25
    clear uy26
    generalize (upd Jy25 y26 (.lst [V.ref y13, V.ref y18, V.ref y25])) = Jy26 at ty26 ty10 ty11 ty12 ty13 ty14 ty15 ty16 ty17 ty18 ty19 ty20 ty21 ty22 ty23 ty24 ty25   ⊢
    exact ⟨_, _, .list [mA, mB, mC], .list [mA, mB, mC], rfl, ty10, ty26, ⟨by decide +kernel, by decide +kernel, by decide +kernel⟩, ⟨by decide +kernel, by decide +kernel, by decide +kernel⟩, by rw [decide_eq_true rfl]; exact q _⟩

end
/-! ### the top: each def stands where the text says -/
theorem all_mk {l : PySem.W.OpenLaw} {w : World} {K : PySem.W.Frag} {h : Heap} {mg : Str → Option Value} {fa : Addr} (X : K.In h) (G : h.Ns mainGlobals mg) (hfa : mg "law" = some (.ref fa))
    {t_LONGEST_NAME : Tok} {t_LONGEST_PATH : Tok} {F_VariantError : Addr} {F_BadTree I_BadTree : Addr} {nm_BadTree q_BadTree : Str} {N_BadTree : Addr} {bs_BadTree : List Value} {sn_BadTree : List Str} {sub_BadTree : List Value} {ab_BadTree : Bool} {col_BadTree : Option Bool} {dd_BadTree : Option Addr} {m0_BadTree m1_BadTree m2_BadTree m3_BadTree m5_BadTree : Option Value} {od_BadTree an_BadTree : Option Addr} {sl_BadTree : Array (Option Value)} {oc_BadTree kV_BadTree dc_BadTree pm_BadTree cd_BadTree ct_BadTree : Value} {cB PB : Addr} {E0_make_tree E1_make_tree TD_make_tree : Addr} {oT_make_tree : Value} {oD_make_tree d0_make_tree d1_make_tree : Option Addr} {nD_make_tree n0_make_tree n1_make_tree : Nat} {sD_make_tree s0_make_tree s1_make_tree : Array (Option Value)} {F_as_tuples : Addr} {od_as_tuples an_as_tuples : Option Addr} {sl_as_tuples : Array (Option Value)} {oc_as_tuples kV_as_tuples dc_as_tuples pm_as_tuples cd_as_tuples ct_as_tuples : Value} {F_is_pair : Addr} {od_is_pair an_is_pair : Option Addr} {sl_is_pair : Array (Option Value)} {oc_is_pair kV_is_pair dc_is_pair pm_is_pair cd_is_pair ct_is_pair : Value} {F_ascends : Addr} {od_ascends an_ascends : Option Addr} {sl_ascends : Array (Option Value)} {oc_ascends kV_ascends dc_ascends pm_ascends cd_ascends ct_ascends : Value} {F_is_name : Addr} {od_is_name an_is_name : Option Addr} {sl_is_name : Array (Option Value)} {oc_is_name kV_is_name dc_is_name pm_is_name cd_is_name ct_is_name : Value} {F_is_path : Addr} {od_is_path an_is_path : Option Addr} {sl_is_path : Array (Option Value)} {oc_is_path kV_is_path dc_is_path pm_is_path cd_is_path ct_is_path : Value} {F_is_value : Addr} {od_is_value an_is_value : Option Addr} {sl_is_value : Array (Option Value)} {oc_is_value kV_is_value dc_is_value pm_is_value cd_is_value ct_is_value : Value} {F_is_integer : Addr} {od_is_integer an_is_integer : Option Addr} {sl_is_integer : Array (Option Value)} {oc_is_integer kV_is_integer dc_is_integer pm_is_integer cd_is_integer ct_is_integer : Value} {F_is_link : Addr} {od_is_link an_is_link : Option Addr} {sl_is_link : Array (Option Value)} {oc_is_link kV_is_link dc_is_link pm_is_link cd_is_link ct_is_link : Value} {F_is_tree : Addr} {od_is_tree an_is_tree : Option Addr} {sl_is_tree : Array (Option Value)} {oc_is_tree kV_is_tree dc_is_tree pm_is_tree cd_is_tree ct_is_tree : Value} {F_is_tree_within : Addr} {od_is_tree_within an_is_tree_within : Option Addr} {sl_is_tree_within : Array (Option Value)} {oc_is_tree_within kV_is_tree_within dc_is_tree_within pm_is_tree_within cd_is_tree_within ct_is_tree_within : Value} {F_are_props : Addr} {od_are_props an_are_props : Option Addr} {sl_are_props : Array (Option Value)} {oc_are_props kV_are_props dc_are_props pm_are_props cd_are_props ct_are_props : Value} {F_are_rows : Addr} {od_are_rows an_are_rows : Option Addr} {sl_are_rows : Array (Option Value)} {oc_are_rows kV_are_rows dc_are_rows pm_are_rows cd_are_rows ct_are_rows : Value} {F_are_named : Addr} {od_are_named an_are_named : Option Addr} {sl_are_named : Array (Option Value)} {oc_are_named kV_are_named dc_are_named pm_are_named cd_are_named ct_are_named : Value} {F_names_of : Addr} {od_names_of an_names_of : Option Addr} {sl_names_of : Array (Option Value)} {oc_names_of kV_names_of dc_names_of pm_names_of cd_names_of ct_names_of : Value} {F_make_tree : Addr} {od_make_tree an_make_tree : Option Addr} {sl_make_tree : Array (Option Value)} {oc_make_tree kV_make_tree dc_make_tree pm_make_tree cd_make_tree ct_make_tree : Value} {F_by_name : Addr} {od_by_name an_by_name : Option Addr} {sl_by_name : Array (Option Value)} {oc_by_name kV_by_name dc_by_name pm_by_name ct_by_name : Value} {F__law_draw : Addr} {od__law_draw an__law_draw : Option Addr} {sl__law_draw : Array (Option Value)} {oc__law_draw kV__law_draw dc__law_draw pm__law_draw cd__law_draw ct__law_draw : Value} {F__law_same : Addr} {od__law_same an__law_same : Option Addr} {sl__law_same : Array (Option Value)} {oc__law_same kV__law_same dc__law_same pm__law_same cd__law_same ct__law_same : Value} {F__law_mixed : Addr} {od__law_mixed an__law_mixed : Option Addr} {sl__law_mixed : Array (Option Value)} {oc__law_mixed kV__law_mixed dc__law_mixed pm__law_mixed cd__law_mixed ct__law_mixed : Value} {F__law_path : Addr} {od__law_path an__law_path : Option Addr} {sl__law_path : Array (Option Value)} {oc__law_path kV__law_path dc__law_path pm__law_path cd__law_path ct__law_path : Value} {F__law_value : Addr} {od__law_value an__law_value : Option Addr} {sl__law_value : Array (Option Value)} {oc__law_value kV__law_value dc__law_value pm__law_value cd__law_value ct__law_value : Value} {F__law_props : Addr} {od__law_props an__law_props : Option Addr} {sl__law_props : Array (Option Value)} {oc__law_props kV__law_props dc__law_props pm__law_props cd__law_props ct__law_props : Value} {F__law_listed : Addr} {od__law_listed an__law_listed : Option Addr} {sl__law_listed : Array (Option Value)} {oc__law_listed kV__law_listed dc__law_listed pm__law_listed cd__law_listed ct__law_listed : Value} {F__law_is_name : Addr} {od__law_is_name an__law_is_name : Option Addr} {sl__law_is_name : Array (Option Value)} {oc__law_is_name kV__law_is_name dc__law_is_name pm__law_is_name cd__law_is_name ct__law_is_name : Value} {F__law_is_path : Addr} {od__law_is_path an__law_is_path : Option Addr} {sl__law_is_path : Array (Option Value)} {oc__law_is_path kV__law_is_path dc__law_is_path pm__law_is_path cd__law_is_path ct__law_is_path : Value} {F__law_is_value : Addr} {od__law_is_value an__law_is_value : Option Addr} {sl__law_is_value : Array (Option Value)} {oc__law_is_value kV__law_is_value dc__law_is_value pm__law_is_value cd__law_is_value ct__law_is_value : Value} {F__law_letters : Addr} {od__law_letters an__law_letters : Option Addr} {sl__law_letters : Array (Option Value)} {oc__law_letters kV__law_letters dc__law_letters pm__law_letters cd__law_letters ct__law_letters : Value} {F__law_near_name : Addr} {od__law_near_name an__law_near_name : Option Addr} {sl__law_near_name : Array (Option Value)} {oc__law_near_name kV__law_near_name dc__law_near_name pm__law_near_name cd__law_near_name ct__law_near_name : Value} {F__law_thing : Addr} {od__law_thing an__law_thing : Option Addr} {sl__law_thing : Array (Option Value)} {oc__law_thing kV__law_thing dc__law_thing pm__law_thing cd__law_thing ct__law_thing : Value} {F__law_near_path : Addr} {od__law_near_path an__law_near_path : Option Addr} {sl__law_near_path : Array (Option Value)} {oc__law_near_path kV__law_near_path dc__law_near_path pm__law_near_path cd__law_near_path ct__law_near_path : Value} {F__law_near_value : Addr} {od__law_near_value an__law_near_value : Option Addr} {sl__law_near_value : Array (Option Value)} {oc__law_near_value kV__law_near_value dc__law_near_value pm__law_near_value cd__law_near_value ct__law_near_value : Value} {F__law_some_names : Addr} {od__law_some_names an__law_some_names : Option Addr} {sl__law_some_names : Array (Option Value)} {oc__law_some_names kV__law_some_names dc__law_some_names pm__law_some_names cd__law_some_names ct__law_some_names : Value} {F__law_wide_tree : Addr} {od__law_wide_tree an__law_wide_tree : Option Addr} {sl__law_wide_tree : Array (Option Value)} {oc__law_wide_tree kV__law_wide_tree dc__law_wide_tree pm__law_wide_tree cd__law_wide_tree ct__law_wide_tree : Value} {F__law_under : Addr} {od__law_under an__law_under : Option Addr} {sl__law_under : Array (Option Value)} {oc__law_under kV__law_under dc__law_under pm__law_under cd__law_under ct__law_under : Value} {F__law_any_tree : Addr} {od__law_any_tree an__law_any_tree : Option Addr} {sl__law_any_tree : Array (Option Value)} {oc__law_any_tree kV__law_any_tree dc__law_any_tree pm__law_any_tree cd__law_any_tree ct__law_any_tree : Value} {F__law_is_tree : Addr} {od__law_is_tree an__law_is_tree : Option Addr} {sl__law_is_tree : Array (Option Value)} {oc__law_is_tree kV__law_is_tree dc__law_is_tree pm__law_is_tree cd__law_is_tree ct__law_is_tree : Value} {F__law_bent_pairs : Addr} {od__law_bent_pairs an__law_bent_pairs : Option Addr} {sl__law_bent_pairs : Array (Option Value)} {oc__law_bent_pairs kV__law_bent_pairs dc__law_bent_pairs pm__law_bent_pairs cd__law_bent_pairs ct__law_bent_pairs : Value} {F__law_bent_tree : Addr} {od__law_bent_tree an__law_bent_tree : Option Addr} {sl__law_bent_tree : Array (Option Value)} {oc__law_bent_tree kV__law_bent_tree dc__law_bent_tree pm__law_bent_tree cd__law_bent_tree ct__law_bent_tree : Value} {F__law_tupled : Addr} {od__law_tupled an__law_tupled : Option Addr} {sl__law_tupled : Array (Option Value)} {oc__law_tupled kV__law_tupled dc__law_tupled pm__law_tupled cd__law_tupled ct__law_tupled : Value} {F__law_due_tree : Addr} {od__law_due_tree an__law_due_tree : Option Addr} {sl__law_due_tree : Array (Option Value)} {oc__law_due_tree kV__law_due_tree dc__law_due_tree pm__law_due_tree cd__law_due_tree ct__law_due_tree : Value} {F__law_tree_made : Addr} {od__law_tree_made an__law_tree_made : Option Addr} {sl__law_tree_made : Array (Option Value)} {oc__law_tree_made kV__law_tree_made dc__law_tree_made pm__law_tree_made cd__law_tree_made ct__law_tree_made : Value} {F_law : Addr} {od_law an_law : Option Addr} {sl_law : Array (Option Value)} {oc_law kV_law dc_law pm_law cd_law ct_law : Value}
    (c_LONGEST_NAME : PySem.W.nsIn K mainGlobals "LONGEST_NAME" = some (some (.int 8 t_LONGEST_NAME)))
    (c_LONGEST_PATH : PySem.W.nsIn K mainGlobals "LONGEST_PATH" = some (some (.int 8 t_LONGEST_PATH)))
    (a_VariantError : PySem.W.nsIn K mainGlobals "VariantError" = some (some (.ref F_VariantError)))
    (r_VariantError : PySem.W.readsIn K F_VariantError (.type "type") = true)
    (g_VariantError : PySem.W.specialIn K (.ref F_VariantError) "__getattribute__" = some (some (.builtin "type.__getattribute__")))
    (v_VariantError : PySem.W.findCls K (.ref F_VariantError) (.type "type") "__init__" = some (.val (.builtin "ValueError.__init__")))
    (a_BadTree : PySem.W.nsIn K mainGlobals "BadTree" = some (some (.ref F_BadTree)))
    (x_BadTree : K.lookup F_BadTree = some (excClassObj nm_BadTree q_BadTree F_BadTree N_BadTree bs_BadTree [.ref F_VariantError, .type "ValueError", .type "Exception", .type "BaseException", .type "object"] true sn_BadTree sub_BadTree ab_BadTree col_BadTree dd_BadTree m0_BadTree m1_BadTree m2_BadTree m3_BadTree m5_BadTree "ValueError.__new__"))
    (sa_BadTree : PySem.W.findIn K (.ref F_BadTree) "__setattr__" = some (some (.builtin "object.__setattr__")))
    (exC_BadTree : PySem.W.subIn K (.ref F_BadTree) (.type "BaseException") = some true)
    (tyC_BadTree : PySem.W.typeIn K (.ref F_BadTree) = some (.type "type"))
    (kC_BadTree : PySem.W.keepIn K (.ref F_BadTree) = true)
    (iC_BadTree : PySem.W.findIn K (.ref F_BadTree) "__init__" = some (some (.ref I_BadTree)))
    (tI_BadTree : PySem.W.typeIn K (.ref I_BadTree) = some (.type "function"))
    (l_BadTree : K.lookup I_BadTree = some ⟨oc_BadTree, od_BadTree, .func (PySem.W.fnOf "__init__" "BadTree.__init__" (defArgs s_BadTree) (defBody s_BadTree) (defScope s_BadTree) .none kV_BadTree dc_BadTree pm_BadTree an_BadTree cd_BadTree ct_BadTree), sl_BadTree⟩)
    (c_BadTree : PySem.W.codeIn K cd_BadTree "BadTree.__init__" = true)
    (k_BadTree : PySem.W.keepIn K (.ref I_BadTree) = true)
    (hd_BadTree : PySem.W.hasDictIn K F_BadTree = true)
    (ss_BadTree : PySem.W.subIn K (.ref F_BadTree) (.ref F_BadTree) = some true)
    (hg_BadTree : PySem.W.findIn K (.ref F_BadTree) "__getattribute__" = some (some (.builtin "BaseException.__getattribute__")))
    (hk_BadTree : PySem.W.findIn K (.ref F_BadTree) "__getattr__" = some none)
    (ha_BadTree : PySem.W.findIn K (.ref F_BadTree) "__class__" = some (some (.builtin "object.__class__")))
    (hn_BadTree : PySem.W.specialIn K (.builtin "object.__class__") "__get__" = some (some (.builtin "getset_descriptor.__get__")))
    (ht_BadTree : PySem.W.takesIn K (.builtin "object.__class__") = some true)
    (hm_BadTree : PySem.W.mroIn K F_BadTree (.type "object") = some true)
    (kV_BadTree : PySem.W.kitOne K (.ref F_BadTree) (.ref F_VariantError) = some true)
    (kE_BadTree : PySem.W.kitOne K (.ref F_BadTree) (.type "ValueError") = some true)
    (hT : ∀ Q ∈ [PB], h.get? Q = some tabO)
    (kPB : K.lookup PB = none)
    (a_as_tuples : PySem.W.nsIn K mainGlobals "as_tuples" = some (some (.ref F_as_tuples)))
    (l_as_tuples : K.lookup F_as_tuples = some ⟨oc_as_tuples, od_as_tuples, .func (PySem.W.fnOf "as_tuples" "as_tuples" (defArgs s_as_tuples) (defBody s_as_tuples) (defScope s_as_tuples) .none kV_as_tuples dc_as_tuples pm_as_tuples an_as_tuples cd_as_tuples ct_as_tuples), sl_as_tuples⟩)
    (c_as_tuples : PySem.W.codeIn K cd_as_tuples "as_tuples" = true)
    (k_as_tuples : PySem.W.keepIn K (.ref F_as_tuples) = true)
    (a_is_pair : PySem.W.nsIn K mainGlobals "is_pair" = some (some (.ref F_is_pair)))
    (l_is_pair : K.lookup F_is_pair = some ⟨oc_is_pair, od_is_pair, .func (PySem.W.fnOf "is_pair" "is_pair" (defArgs s_is_pair) (defBody s_is_pair) (defScope s_is_pair) .none kV_is_pair dc_is_pair pm_is_pair an_is_pair cd_is_pair ct_is_pair), sl_is_pair⟩)
    (c_is_pair : PySem.W.codeIn K cd_is_pair "is_pair" = true)
    (k_is_pair : PySem.W.keepIn K (.ref F_is_pair) = true)
    (a_ascends : PySem.W.nsIn K mainGlobals "ascends" = some (some (.ref F_ascends)))
    (l_ascends : K.lookup F_ascends = some ⟨oc_ascends, od_ascends, .func (PySem.W.fnOf "ascends" "ascends" (defArgs s_ascends) (defBody s_ascends) (defScope s_ascends) .none kV_ascends dc_ascends pm_ascends an_ascends cd_ascends ct_ascends), sl_ascends⟩)
    (c_ascends : PySem.W.codeIn K cd_ascends "ascends" = true)
    (k_ascends : PySem.W.keepIn K (.ref F_ascends) = true)
    (a_is_name : PySem.W.nsIn K mainGlobals "is_name" = some (some (.ref F_is_name)))
    (l_is_name : K.lookup F_is_name = some ⟨oc_is_name, od_is_name, .func (PySem.W.fnOf "is_name" "is_name" (defArgs s_is_name) (defBody s_is_name) (defScope s_is_name) .none kV_is_name dc_is_name pm_is_name an_is_name cd_is_name ct_is_name), sl_is_name⟩)
    (c_is_name : PySem.W.codeIn K cd_is_name "is_name" = true)
    (k_is_name : PySem.W.keepIn K (.ref F_is_name) = true)
    (a_is_path : PySem.W.nsIn K mainGlobals "is_path" = some (some (.ref F_is_path)))
    (l_is_path : K.lookup F_is_path = some ⟨oc_is_path, od_is_path, .func (PySem.W.fnOf "is_path" "is_path" (defArgs s_is_path) (defBody s_is_path) (defScope s_is_path) .none kV_is_path dc_is_path pm_is_path an_is_path cd_is_path ct_is_path), sl_is_path⟩)
    (c_is_path : PySem.W.codeIn K cd_is_path "is_path" = true)
    (k_is_path : PySem.W.keepIn K (.ref F_is_path) = true)
    (a_is_value : PySem.W.nsIn K mainGlobals "is_value" = some (some (.ref F_is_value)))
    (l_is_value : K.lookup F_is_value = some ⟨oc_is_value, od_is_value, .func (PySem.W.fnOf "is_value" "is_value" (defArgs s_is_value) (defBody s_is_value) (defScope s_is_value) .none kV_is_value dc_is_value pm_is_value an_is_value cd_is_value ct_is_value), sl_is_value⟩)
    (c_is_value : PySem.W.codeIn K cd_is_value "is_value" = true)
    (k_is_value : PySem.W.keepIn K (.ref F_is_value) = true)
    (a_is_integer : PySem.W.nsIn K mainGlobals "is_integer" = some (some (.ref F_is_integer)))
    (l_is_integer : K.lookup F_is_integer = some ⟨oc_is_integer, od_is_integer, .func (PySem.W.fnOf "is_integer" "is_integer" (defArgs s_is_integer) (defBody s_is_integer) (defScope s_is_integer) .none kV_is_integer dc_is_integer pm_is_integer an_is_integer cd_is_integer ct_is_integer), sl_is_integer⟩)
    (c_is_integer : PySem.W.codeIn K cd_is_integer "is_integer" = true)
    (k_is_integer : PySem.W.keepIn K (.ref F_is_integer) = true)
    (a_is_link : PySem.W.nsIn K mainGlobals "is_link" = some (some (.ref F_is_link)))
    (l_is_link : K.lookup F_is_link = some ⟨oc_is_link, od_is_link, .func (PySem.W.fnOf "is_link" "is_link" (defArgs s_is_link) (defBody s_is_link) (defScope s_is_link) .none kV_is_link dc_is_link pm_is_link an_is_link cd_is_link ct_is_link), sl_is_link⟩)
    (c_is_link : PySem.W.codeIn K cd_is_link "is_link" = true)
    (k_is_link : PySem.W.keepIn K (.ref F_is_link) = true)
    (a_is_tree : PySem.W.nsIn K mainGlobals "is_tree" = some (some (.ref F_is_tree)))
    (l_is_tree : K.lookup F_is_tree = some ⟨oc_is_tree, od_is_tree, .func (PySem.W.fnOf "is_tree" "is_tree" (defArgs s_is_tree) (defBody s_is_tree) (defScope s_is_tree) .none kV_is_tree dc_is_tree pm_is_tree an_is_tree cd_is_tree ct_is_tree), sl_is_tree⟩)
    (c_is_tree : PySem.W.codeIn K cd_is_tree "is_tree" = true)
    (k_is_tree : PySem.W.keepIn K (.ref F_is_tree) = true)
    (a_is_tree_within : PySem.W.nsIn K mainGlobals "is_tree_within" = some (some (.ref F_is_tree_within)))
    (l_is_tree_within : K.lookup F_is_tree_within = some ⟨oc_is_tree_within, od_is_tree_within, .func (PySem.W.fnOf "is_tree_within" "is_tree_within" (defArgs s_is_tree_within) (defBody s_is_tree_within) (defScope s_is_tree_within) .none kV_is_tree_within dc_is_tree_within pm_is_tree_within an_is_tree_within cd_is_tree_within ct_is_tree_within), sl_is_tree_within⟩)
    (c_is_tree_within : PySem.W.codeIn K cd_is_tree_within "is_tree_within" = true)
    (k_is_tree_within : PySem.W.keepIn K (.ref F_is_tree_within) = true)
    (a_are_props : PySem.W.nsIn K mainGlobals "are_props" = some (some (.ref F_are_props)))
    (l_are_props : K.lookup F_are_props = some ⟨oc_are_props, od_are_props, .func (PySem.W.fnOf "are_props" "are_props" (defArgs s_are_props) (defBody s_are_props) (defScope s_are_props) .none kV_are_props dc_are_props pm_are_props an_are_props cd_are_props ct_are_props), sl_are_props⟩)
    (c_are_props : PySem.W.codeIn K cd_are_props "are_props" = true)
    (k_are_props : PySem.W.keepIn K (.ref F_are_props) = true)
    (a_are_rows : PySem.W.nsIn K mainGlobals "are_rows" = some (some (.ref F_are_rows)))
    (l_are_rows : K.lookup F_are_rows = some ⟨oc_are_rows, od_are_rows, .func (PySem.W.fnOf "are_rows" "are_rows" (defArgs s_are_rows) (defBody s_are_rows) (defScope s_are_rows) .none kV_are_rows dc_are_rows pm_are_rows an_are_rows cd_are_rows ct_are_rows), sl_are_rows⟩)
    (c_are_rows : PySem.W.codeIn K cd_are_rows "are_rows" = true)
    (k_are_rows : PySem.W.keepIn K (.ref F_are_rows) = true)
    (a_are_named : PySem.W.nsIn K mainGlobals "are_named" = some (some (.ref F_are_named)))
    (l_are_named : K.lookup F_are_named = some ⟨oc_are_named, od_are_named, .func (PySem.W.fnOf "are_named" "are_named" (defArgs s_are_named) (defBody s_are_named) (defScope s_are_named) .none kV_are_named dc_are_named pm_are_named an_are_named cd_are_named ct_are_named), sl_are_named⟩)
    (c_are_named : PySem.W.codeIn K cd_are_named "are_named" = true)
    (k_are_named : PySem.W.keepIn K (.ref F_are_named) = true)
    (a_names_of : PySem.W.nsIn K mainGlobals "names_of" = some (some (.ref F_names_of)))
    (l_names_of : K.lookup F_names_of = some ⟨oc_names_of, od_names_of, .func (PySem.W.fnOf "names_of" "names_of" (defArgs s_names_of) (defBody s_names_of) (defScope s_names_of) .none kV_names_of dc_names_of pm_names_of an_names_of cd_names_of ct_names_of), sl_names_of⟩)
    (c_names_of : PySem.W.codeIn K cd_names_of "names_of" = true)
    (k_names_of : PySem.W.keepIn K (.ref F_names_of) = true)
    (a_make_tree : PySem.W.nsIn K mainGlobals "make_tree" = some (some (.ref F_make_tree)))
    (l_make_tree : K.lookup F_make_tree = some ⟨oc_make_tree, od_make_tree, .func (PySem.W.fnOf "make_tree" "make_tree" (defArgs s_make_tree) (defBody s_make_tree) (defScope s_make_tree) (.ref TD_make_tree) kV_make_tree dc_make_tree pm_make_tree an_make_tree cd_make_tree ct_make_tree), sl_make_tree⟩)
    (t_make_tree : K.lookup TD_make_tree = some ⟨oT_make_tree, oD_make_tree, .seq #[.ref E0_make_tree, .ref E1_make_tree] nD_make_tree, sD_make_tree⟩)
    (t0_make_tree : K.lookup E0_make_tree = some ⟨.type "tuple", d0_make_tree, .seq #[] n0_make_tree, s0_make_tree⟩)
    (t1_make_tree : K.lookup E1_make_tree = some ⟨.type "tuple", d1_make_tree, .seq #[] n1_make_tree, s1_make_tree⟩)
    (c_make_tree : PySem.W.codeIn K cd_make_tree "make_tree" = true)
    (k_make_tree : PySem.W.keepIn K (.ref F_make_tree) = true)
    (a_by_name : PySem.W.nsIn K mainGlobals "by_name" = some (some (.ref F_by_name)))
    (l_by_name : K.lookup F_by_name = some ⟨oc_by_name, od_by_name, .func (PySem.W.fnOf "by_name" "by_name" (defArgs s_by_name) (defBody s_by_name) (defScope s_by_name) .none kV_by_name dc_by_name pm_by_name an_by_name (.ref cB) ct_by_name), sl_by_name⟩)
    (c_by_name : PySem.W.codeIn K (.ref cB) "by_name" = true)
    (k_by_name : PySem.W.keepIn K (.ref F_by_name) = true)
    (hB : PySem.W.codeHdIn K cB PB = true)
    (a__law_draw : PySem.W.nsIn K mainGlobals "_law_draw" = some (some (.ref F__law_draw)))
    (l__law_draw : K.lookup F__law_draw = some ⟨oc__law_draw, od__law_draw, .func (PySem.W.fnOf "_law_draw" "_law_draw" (defArgs s__law_draw) (defBody s__law_draw) (defScope s__law_draw) .none kV__law_draw dc__law_draw pm__law_draw an__law_draw cd__law_draw ct__law_draw), sl__law_draw⟩)
    (c__law_draw : PySem.W.codeIn K cd__law_draw "_law_draw" = true)
    (k__law_draw : PySem.W.keepIn K (.ref F__law_draw) = true)
    (a__law_same : PySem.W.nsIn K mainGlobals "_law_same" = some (some (.ref F__law_same)))
    (l__law_same : K.lookup F__law_same = some ⟨oc__law_same, od__law_same, .func (PySem.W.fnOf "_law_same" "_law_same" (defArgs s__law_same) (defBody s__law_same) (defScope s__law_same) .none kV__law_same dc__law_same pm__law_same an__law_same cd__law_same ct__law_same), sl__law_same⟩)
    (c__law_same : PySem.W.codeIn K cd__law_same "_law_same" = true)
    (k__law_same : PySem.W.keepIn K (.ref F__law_same) = true)
    (a__law_mixed : PySem.W.nsIn K mainGlobals "_law_mixed" = some (some (.ref F__law_mixed)))
    (l__law_mixed : K.lookup F__law_mixed = some ⟨oc__law_mixed, od__law_mixed, .func (PySem.W.fnOf "_law_mixed" "_law_mixed" (defArgs s__law_mixed) (defBody s__law_mixed) (defScope s__law_mixed) .none kV__law_mixed dc__law_mixed pm__law_mixed an__law_mixed cd__law_mixed ct__law_mixed), sl__law_mixed⟩)
    (c__law_mixed : PySem.W.codeIn K cd__law_mixed "_law_mixed" = true)
    (k__law_mixed : PySem.W.keepIn K (.ref F__law_mixed) = true)
    (a__law_path : PySem.W.nsIn K mainGlobals "_law_path" = some (some (.ref F__law_path)))
    (l__law_path : K.lookup F__law_path = some ⟨oc__law_path, od__law_path, .func (PySem.W.fnOf "_law_path" "_law_path" (defArgs s__law_path) (defBody s__law_path) (defScope s__law_path) .none kV__law_path dc__law_path pm__law_path an__law_path cd__law_path ct__law_path), sl__law_path⟩)
    (c__law_path : PySem.W.codeIn K cd__law_path "_law_path" = true)
    (k__law_path : PySem.W.keepIn K (.ref F__law_path) = true)
    (a__law_value : PySem.W.nsIn K mainGlobals "_law_value" = some (some (.ref F__law_value)))
    (l__law_value : K.lookup F__law_value = some ⟨oc__law_value, od__law_value, .func (PySem.W.fnOf "_law_value" "_law_value" (defArgs s__law_value) (defBody s__law_value) (defScope s__law_value) .none kV__law_value dc__law_value pm__law_value an__law_value cd__law_value ct__law_value), sl__law_value⟩)
    (c__law_value : PySem.W.codeIn K cd__law_value "_law_value" = true)
    (k__law_value : PySem.W.keepIn K (.ref F__law_value) = true)
    (a__law_props : PySem.W.nsIn K mainGlobals "_law_props" = some (some (.ref F__law_props)))
    (l__law_props : K.lookup F__law_props = some ⟨oc__law_props, od__law_props, .func (PySem.W.fnOf "_law_props" "_law_props" (defArgs s__law_props) (defBody s__law_props) (defScope s__law_props) .none kV__law_props dc__law_props pm__law_props an__law_props cd__law_props ct__law_props), sl__law_props⟩)
    (c__law_props : PySem.W.codeIn K cd__law_props "_law_props" = true)
    (k__law_props : PySem.W.keepIn K (.ref F__law_props) = true)
    (a__law_listed : PySem.W.nsIn K mainGlobals "_law_listed" = some (some (.ref F__law_listed)))
    (l__law_listed : K.lookup F__law_listed = some ⟨oc__law_listed, od__law_listed, .func (PySem.W.fnOf "_law_listed" "_law_listed" (defArgs s__law_listed) (defBody s__law_listed) (defScope s__law_listed) .none kV__law_listed dc__law_listed pm__law_listed an__law_listed cd__law_listed ct__law_listed), sl__law_listed⟩)
    (c__law_listed : PySem.W.codeIn K cd__law_listed "_law_listed" = true)
    (k__law_listed : PySem.W.keepIn K (.ref F__law_listed) = true)
    (a__law_is_name : PySem.W.nsIn K mainGlobals "_law_is_name" = some (some (.ref F__law_is_name)))
    (l__law_is_name : K.lookup F__law_is_name = some ⟨oc__law_is_name, od__law_is_name, .func (PySem.W.fnOf "_law_is_name" "_law_is_name" (defArgs s__law_is_name) (defBody s__law_is_name) (defScope s__law_is_name) .none kV__law_is_name dc__law_is_name pm__law_is_name an__law_is_name cd__law_is_name ct__law_is_name), sl__law_is_name⟩)
    (c__law_is_name : PySem.W.codeIn K cd__law_is_name "_law_is_name" = true)
    (k__law_is_name : PySem.W.keepIn K (.ref F__law_is_name) = true)
    (a__law_is_path : PySem.W.nsIn K mainGlobals "_law_is_path" = some (some (.ref F__law_is_path)))
    (l__law_is_path : K.lookup F__law_is_path = some ⟨oc__law_is_path, od__law_is_path, .func (PySem.W.fnOf "_law_is_path" "_law_is_path" (defArgs s__law_is_path) (defBody s__law_is_path) (defScope s__law_is_path) .none kV__law_is_path dc__law_is_path pm__law_is_path an__law_is_path cd__law_is_path ct__law_is_path), sl__law_is_path⟩)
    (c__law_is_path : PySem.W.codeIn K cd__law_is_path "_law_is_path" = true)
    (k__law_is_path : PySem.W.keepIn K (.ref F__law_is_path) = true)
    (a__law_is_value : PySem.W.nsIn K mainGlobals "_law_is_value" = some (some (.ref F__law_is_value)))
    (l__law_is_value : K.lookup F__law_is_value = some ⟨oc__law_is_value, od__law_is_value, .func (PySem.W.fnOf "_law_is_value" "_law_is_value" (defArgs s__law_is_value) (defBody s__law_is_value) (defScope s__law_is_value) .none kV__law_is_value dc__law_is_value pm__law_is_value an__law_is_value cd__law_is_value ct__law_is_value), sl__law_is_value⟩)
    (c__law_is_value : PySem.W.codeIn K cd__law_is_value "_law_is_value" = true)
    (k__law_is_value : PySem.W.keepIn K (.ref F__law_is_value) = true)
    (a__law_letters : PySem.W.nsIn K mainGlobals "_law_letters" = some (some (.ref F__law_letters)))
    (l__law_letters : K.lookup F__law_letters = some ⟨oc__law_letters, od__law_letters, .func (PySem.W.fnOf "_law_letters" "_law_letters" (defArgs s__law_letters) (defBody s__law_letters) (defScope s__law_letters) .none kV__law_letters dc__law_letters pm__law_letters an__law_letters cd__law_letters ct__law_letters), sl__law_letters⟩)
    (c__law_letters : PySem.W.codeIn K cd__law_letters "_law_letters" = true)
    (k__law_letters : PySem.W.keepIn K (.ref F__law_letters) = true)
    (a__law_near_name : PySem.W.nsIn K mainGlobals "_law_near_name" = some (some (.ref F__law_near_name)))
    (l__law_near_name : K.lookup F__law_near_name = some ⟨oc__law_near_name, od__law_near_name, .func (PySem.W.fnOf "_law_near_name" "_law_near_name" (defArgs s__law_near_name) (defBody s__law_near_name) (defScope s__law_near_name) .none kV__law_near_name dc__law_near_name pm__law_near_name an__law_near_name cd__law_near_name ct__law_near_name), sl__law_near_name⟩)
    (c__law_near_name : PySem.W.codeIn K cd__law_near_name "_law_near_name" = true)
    (k__law_near_name : PySem.W.keepIn K (.ref F__law_near_name) = true)
    (a__law_thing : PySem.W.nsIn K mainGlobals "_law_thing" = some (some (.ref F__law_thing)))
    (l__law_thing : K.lookup F__law_thing = some ⟨oc__law_thing, od__law_thing, .func (PySem.W.fnOf "_law_thing" "_law_thing" (defArgs s__law_thing) (defBody s__law_thing) (defScope s__law_thing) .none kV__law_thing dc__law_thing pm__law_thing an__law_thing cd__law_thing ct__law_thing), sl__law_thing⟩)
    (c__law_thing : PySem.W.codeIn K cd__law_thing "_law_thing" = true)
    (k__law_thing : PySem.W.keepIn K (.ref F__law_thing) = true)
    (a__law_near_path : PySem.W.nsIn K mainGlobals "_law_near_path" = some (some (.ref F__law_near_path)))
    (l__law_near_path : K.lookup F__law_near_path = some ⟨oc__law_near_path, od__law_near_path, .func (PySem.W.fnOf "_law_near_path" "_law_near_path" (defArgs s__law_near_path) (defBody s__law_near_path) (defScope s__law_near_path) .none kV__law_near_path dc__law_near_path pm__law_near_path an__law_near_path cd__law_near_path ct__law_near_path), sl__law_near_path⟩)
    (c__law_near_path : PySem.W.codeIn K cd__law_near_path "_law_near_path" = true)
    (k__law_near_path : PySem.W.keepIn K (.ref F__law_near_path) = true)
    (a__law_near_value : PySem.W.nsIn K mainGlobals "_law_near_value" = some (some (.ref F__law_near_value)))
    (l__law_near_value : K.lookup F__law_near_value = some ⟨oc__law_near_value, od__law_near_value, .func (PySem.W.fnOf "_law_near_value" "_law_near_value" (defArgs s__law_near_value) (defBody s__law_near_value) (defScope s__law_near_value) .none kV__law_near_value dc__law_near_value pm__law_near_value an__law_near_value cd__law_near_value ct__law_near_value), sl__law_near_value⟩)
    (c__law_near_value : PySem.W.codeIn K cd__law_near_value "_law_near_value" = true)
    (k__law_near_value : PySem.W.keepIn K (.ref F__law_near_value) = true)
    (a__law_some_names : PySem.W.nsIn K mainGlobals "_law_some_names" = some (some (.ref F__law_some_names)))
    (l__law_some_names : K.lookup F__law_some_names = some ⟨oc__law_some_names, od__law_some_names, .func (PySem.W.fnOf "_law_some_names" "_law_some_names" (defArgs s__law_some_names) (defBody s__law_some_names) (defScope s__law_some_names) .none kV__law_some_names dc__law_some_names pm__law_some_names an__law_some_names cd__law_some_names ct__law_some_names), sl__law_some_names⟩)
    (c__law_some_names : PySem.W.codeIn K cd__law_some_names "_law_some_names" = true)
    (k__law_some_names : PySem.W.keepIn K (.ref F__law_some_names) = true)
    (a__law_wide_tree : PySem.W.nsIn K mainGlobals "_law_wide_tree" = some (some (.ref F__law_wide_tree)))
    (l__law_wide_tree : K.lookup F__law_wide_tree = some ⟨oc__law_wide_tree, od__law_wide_tree, .func (PySem.W.fnOf "_law_wide_tree" "_law_wide_tree" (defArgs s__law_wide_tree) (defBody s__law_wide_tree) (defScope s__law_wide_tree) .none kV__law_wide_tree dc__law_wide_tree pm__law_wide_tree an__law_wide_tree cd__law_wide_tree ct__law_wide_tree), sl__law_wide_tree⟩)
    (c__law_wide_tree : PySem.W.codeIn K cd__law_wide_tree "_law_wide_tree" = true)
    (k__law_wide_tree : PySem.W.keepIn K (.ref F__law_wide_tree) = true)
    (a__law_under : PySem.W.nsIn K mainGlobals "_law_under" = some (some (.ref F__law_under)))
    (l__law_under : K.lookup F__law_under = some ⟨oc__law_under, od__law_under, .func (PySem.W.fnOf "_law_under" "_law_under" (defArgs s__law_under) (defBody s__law_under) (defScope s__law_under) .none kV__law_under dc__law_under pm__law_under an__law_under cd__law_under ct__law_under), sl__law_under⟩)
    (c__law_under : PySem.W.codeIn K cd__law_under "_law_under" = true)
    (k__law_under : PySem.W.keepIn K (.ref F__law_under) = true)
    (a__law_any_tree : PySem.W.nsIn K mainGlobals "_law_any_tree" = some (some (.ref F__law_any_tree)))
    (l__law_any_tree : K.lookup F__law_any_tree = some ⟨oc__law_any_tree, od__law_any_tree, .func (PySem.W.fnOf "_law_any_tree" "_law_any_tree" (defArgs s__law_any_tree) (defBody s__law_any_tree) (defScope s__law_any_tree) .none kV__law_any_tree dc__law_any_tree pm__law_any_tree an__law_any_tree cd__law_any_tree ct__law_any_tree), sl__law_any_tree⟩)
    (c__law_any_tree : PySem.W.codeIn K cd__law_any_tree "_law_any_tree" = true)
    (k__law_any_tree : PySem.W.keepIn K (.ref F__law_any_tree) = true)
    (a__law_is_tree : PySem.W.nsIn K mainGlobals "_law_is_tree" = some (some (.ref F__law_is_tree)))
    (l__law_is_tree : K.lookup F__law_is_tree = some ⟨oc__law_is_tree, od__law_is_tree, .func (PySem.W.fnOf "_law_is_tree" "_law_is_tree" (defArgs s__law_is_tree) (defBody s__law_is_tree) (defScope s__law_is_tree) .none kV__law_is_tree dc__law_is_tree pm__law_is_tree an__law_is_tree cd__law_is_tree ct__law_is_tree), sl__law_is_tree⟩)
    (c__law_is_tree : PySem.W.codeIn K cd__law_is_tree "_law_is_tree" = true)
    (k__law_is_tree : PySem.W.keepIn K (.ref F__law_is_tree) = true)
    (a__law_bent_pairs : PySem.W.nsIn K mainGlobals "_law_bent_pairs" = some (some (.ref F__law_bent_pairs)))
    (l__law_bent_pairs : K.lookup F__law_bent_pairs = some ⟨oc__law_bent_pairs, od__law_bent_pairs, .func (PySem.W.fnOf "_law_bent_pairs" "_law_bent_pairs" (defArgs s__law_bent_pairs) (defBody s__law_bent_pairs) (defScope s__law_bent_pairs) .none kV__law_bent_pairs dc__law_bent_pairs pm__law_bent_pairs an__law_bent_pairs cd__law_bent_pairs ct__law_bent_pairs), sl__law_bent_pairs⟩)
    (c__law_bent_pairs : PySem.W.codeIn K cd__law_bent_pairs "_law_bent_pairs" = true)
    (k__law_bent_pairs : PySem.W.keepIn K (.ref F__law_bent_pairs) = true)
    (a__law_bent_tree : PySem.W.nsIn K mainGlobals "_law_bent_tree" = some (some (.ref F__law_bent_tree)))
    (l__law_bent_tree : K.lookup F__law_bent_tree = some ⟨oc__law_bent_tree, od__law_bent_tree, .func (PySem.W.fnOf "_law_bent_tree" "_law_bent_tree" (defArgs s__law_bent_tree) (defBody s__law_bent_tree) (defScope s__law_bent_tree) .none kV__law_bent_tree dc__law_bent_tree pm__law_bent_tree an__law_bent_tree cd__law_bent_tree ct__law_bent_tree), sl__law_bent_tree⟩)
    (c__law_bent_tree : PySem.W.codeIn K cd__law_bent_tree "_law_bent_tree" = true)
    (k__law_bent_tree : PySem.W.keepIn K (.ref F__law_bent_tree) = true)
    (a__law_tupled : PySem.W.nsIn K mainGlobals "_law_tupled" = some (some (.ref F__law_tupled)))
    (l__law_tupled : K.lookup F__law_tupled = some ⟨oc__law_tupled, od__law_tupled, .func (PySem.W.fnOf "_law_tupled" "_law_tupled" (defArgs s__law_tupled) (defBody s__law_tupled) (defScope s__law_tupled) .none kV__law_tupled dc__law_tupled pm__law_tupled an__law_tupled cd__law_tupled ct__law_tupled), sl__law_tupled⟩)
    (c__law_tupled : PySem.W.codeIn K cd__law_tupled "_law_tupled" = true)
    (k__law_tupled : PySem.W.keepIn K (.ref F__law_tupled) = true)
    (a__law_due_tree : PySem.W.nsIn K mainGlobals "_law_due_tree" = some (some (.ref F__law_due_tree)))
    (l__law_due_tree : K.lookup F__law_due_tree = some ⟨oc__law_due_tree, od__law_due_tree, .func (PySem.W.fnOf "_law_due_tree" "_law_due_tree" (defArgs s__law_due_tree) (defBody s__law_due_tree) (defScope s__law_due_tree) .none kV__law_due_tree dc__law_due_tree pm__law_due_tree an__law_due_tree cd__law_due_tree ct__law_due_tree), sl__law_due_tree⟩)
    (c__law_due_tree : PySem.W.codeIn K cd__law_due_tree "_law_due_tree" = true)
    (k__law_due_tree : PySem.W.keepIn K (.ref F__law_due_tree) = true)
    (a__law_tree_made : PySem.W.nsIn K mainGlobals "_law_tree_made" = some (some (.ref F__law_tree_made)))
    (l__law_tree_made : K.lookup F__law_tree_made = some ⟨oc__law_tree_made, od__law_tree_made, .func (PySem.W.fnOf "_law_tree_made" "_law_tree_made" (defArgs s__law_tree_made) (defBody s__law_tree_made) (defScope s__law_tree_made) .none kV__law_tree_made dc__law_tree_made pm__law_tree_made an__law_tree_made cd__law_tree_made ct__law_tree_made), sl__law_tree_made⟩)
    (c__law_tree_made : PySem.W.codeIn K cd__law_tree_made "_law_tree_made" = true)
    (k__law_tree_made : PySem.W.keepIn K (.ref F__law_tree_made) = true)
    (a_law : PySem.W.nsIn K mainGlobals "law" = some (some (.ref F_law)))
    (l_law : K.lookup F_law = some ⟨oc_law, od_law, .func (PySem.W.fnOf "law" "law" (defArgs s_law) (defBody s_law) (defScope s_law) .none kV_law dc_law pm_law an_law cd_law ct_law), sl_law⟩)
    (c_law : PySem.W.codeIn K cd_law "law" = true)
    (k_law : PySem.W.keepIn K (.ref F_law) = true)
    (z_len : PySem.W.nsIn K mainGlobals "len" = some none)
    (z_isinstance : PySem.W.nsIn K mainGlobals "isinstance" = some none)
    (z_all : PySem.W.nsIn K mainGlobals "all" = some none)
    (z_int : PySem.W.nsIn K mainGlobals "int" = some none)
    (z_str : PySem.W.nsIn K mainGlobals "str" = some none)
    (z_tuple : PySem.W.nsIn K mainGlobals "tuple" = some none)
    (z_list : PySem.W.nsIn K mainGlobals "list" = some none)
    (z_range : PySem.W.nsIn K mainGlobals "range" = some none)
    (z_repr : PySem.W.nsIn K mainGlobals "repr" = some none)
    (z_sorted : PySem.W.nsIn K mainGlobals "sorted" = some none)
    (z_bool : PySem.W.nsIn K mainGlobals "bool" = some none)
    (z_zip : PySem.W.nsIn K mainGlobals "zip" = some none)
    (z_dict : PySem.W.nsIn K mainGlobals "dict" = some none)
    (z_ValueError : PySem.W.nsIn K mainGlobals "ValueError" = some none)
    : ∃ (fd : FuncData) (c T : Addr), h.get? T = some tabO ∧ K.lookup T = none ∧ PySem.W.CodeHd h c T ∧ (∀ (s : Shared) (v : Value), BindsTo s fd ⟨[v], []⟩ [("_law_script", v)]) ∧ ∀ base : Heap, K.In base → base.Ns mainGlobals mg → LamX.TabB base mg c T → FnG l.prog w K mg base CX0 72 fa fd ["_law_script"] (spLawT K T) := by
  have e := hfa.symm.trans (PySem.W.mg_of X G a_law)
  cases e
  have E_as_tuples := fun_mk (st := s_as_tuples) l_as_tuples c_as_tuples k_as_tuples
  have E_is_pair := fun_mk (st := s_is_pair) l_is_pair c_is_pair k_is_pair
  have E_ascends := fun_mk (st := s_ascends) l_ascends c_ascends k_ascends
  have E_is_name := fun_mk (st := s_is_name) l_is_name c_is_name k_is_name
  have E_is_path := fun_mk (st := s_is_path) l_is_path c_is_path k_is_path
  have E_is_value := fun_mk (st := s_is_value) l_is_value c_is_value k_is_value
  have E_is_integer := fun_mk (st := s_is_integer) l_is_integer c_is_integer k_is_integer
  have E_is_link := fun_mk (st := s_is_link) l_is_link c_is_link k_is_link
  have E_is_tree := fun_mk (st := s_is_tree) l_is_tree c_is_tree k_is_tree
  have E_is_tree_within := fun_mk (st := s_is_tree_within) l_is_tree_within c_is_tree_within k_is_tree_within
  have E_are_props := fun_mk (st := s_are_props) l_are_props c_are_props k_are_props
  have E_are_rows := fun_mk (st := s_are_rows) l_are_rows c_are_rows k_are_rows
  have E_are_named := fun_mk (st := s_are_named) l_are_named c_are_named k_are_named
  have E_names_of := fun_mk (st := s_names_of) l_names_of c_names_of k_names_of
  have E__law_draw := fun_mk (st := s__law_draw) l__law_draw c__law_draw k__law_draw
  have E__law_same := fun_mk (st := s__law_same) l__law_same c__law_same k__law_same
  have E__law_mixed := fun_mk (st := s__law_mixed) l__law_mixed c__law_mixed k__law_mixed
  have E__law_path := fun_mk (st := s__law_path) l__law_path c__law_path k__law_path
  have E__law_value := fun_mk (st := s__law_value) l__law_value c__law_value k__law_value
  have E__law_props := fun_mk (st := s__law_props) l__law_props c__law_props k__law_props
  have E__law_listed := fun_mk (st := s__law_listed) l__law_listed c__law_listed k__law_listed
  have E__law_is_name := fun_mk (st := s__law_is_name) l__law_is_name c__law_is_name k__law_is_name
  have E__law_is_path := fun_mk (st := s__law_is_path) l__law_is_path c__law_is_path k__law_is_path
  have E__law_is_value := fun_mk (st := s__law_is_value) l__law_is_value c__law_is_value k__law_is_value
  have E__law_letters := fun_mk (st := s__law_letters) l__law_letters c__law_letters k__law_letters
  have E__law_near_name := fun_mk (st := s__law_near_name) l__law_near_name c__law_near_name k__law_near_name
  have E__law_thing := fun_mk (st := s__law_thing) l__law_thing c__law_thing k__law_thing
  have E__law_near_path := fun_mk (st := s__law_near_path) l__law_near_path c__law_near_path k__law_near_path
  have E__law_near_value := fun_mk (st := s__law_near_value) l__law_near_value c__law_near_value k__law_near_value
  have E__law_some_names := fun_mk (st := s__law_some_names) l__law_some_names c__law_some_names k__law_some_names
  have E__law_wide_tree := fun_mk (st := s__law_wide_tree) l__law_wide_tree c__law_wide_tree k__law_wide_tree
  have E__law_under := fun_mk (st := s__law_under) l__law_under c__law_under k__law_under
  have E__law_any_tree := fun_mk (st := s__law_any_tree) l__law_any_tree c__law_any_tree k__law_any_tree
  have E__law_is_tree := fun_mk (st := s__law_is_tree) l__law_is_tree c__law_is_tree k__law_is_tree
  have E__law_bent_pairs := fun_mk (st := s__law_bent_pairs) l__law_bent_pairs c__law_bent_pairs k__law_bent_pairs
  have E__law_bent_tree := fun_mk (st := s__law_bent_tree) l__law_bent_tree c__law_bent_tree k__law_bent_tree
  have E__law_tupled := fun_mk (st := s__law_tupled) l__law_tupled c__law_tupled k__law_tupled
  have E__law_due_tree := fun_mk (st := s__law_due_tree) l__law_due_tree c__law_due_tree k__law_due_tree
  have E__law_tree_made := fun_mk (st := s__law_tree_made) l__law_tree_made c__law_tree_made k__law_tree_made
  have E_law := fun_mk (st := s_law) l_law c_law k_law
  have b_as_tuples := E_as_tuples.binds (ps := ["value"]) fun _ _ _ _ _ _ us hl => match us, hl with | [_], _ => rfl
  have b_is_pair := E_is_pair.binds (ps := ["value"]) fun _ _ _ _ _ _ us hl => match us, hl with | [_], _ => rfl
  have b_ascends := E_ascends.binds (ps := ["keys"]) fun _ _ _ _ _ _ us hl => match us, hl with | [_], _ => rfl
  have b_is_name := E_is_name.binds (ps := ["value"]) fun _ _ _ _ _ _ us hl => match us, hl with | [_], _ => rfl
  have b_is_path := E_is_path.binds (ps := ["value"]) fun _ _ _ _ _ _ us hl => match us, hl with | [_], _ => rfl
  have b_is_value := E_is_value.binds (ps := ["value"]) fun _ _ _ _ _ _ us hl => match us, hl with | [_], _ => rfl
  have b_is_integer := E_is_integer.binds (ps := ["value"]) fun _ _ _ _ _ _ us hl => match us, hl with | [_], _ => rfl
  have b_is_link := E_is_link.binds (ps := ["value"]) fun _ _ _ _ _ _ us hl => match us, hl with | [_], _ => rfl
  have b_is_tree := E_is_tree.binds (ps := ["value"]) fun _ _ _ _ _ _ us hl => match us, hl with | [_], _ => rfl
  have b_is_tree_within := E_is_tree_within.binds (ps := ["value", "levels"]) fun _ _ _ _ _ _ us hl => match us, hl with | [_, _], _ => rfl
  have b_are_props := E_are_props.binds (ps := ["pairs"]) fun _ _ _ _ _ _ us hl => match us, hl with | [_], _ => rfl
  have b_are_rows := E_are_rows.binds (ps := ["pairs"]) fun _ _ _ _ _ _ us hl => match us, hl with | [_], _ => rfl
  have b_are_named := E_are_named.binds (ps := ["pairs"]) fun _ _ _ _ _ _ us hl => match us, hl with | [_], _ => rfl
  have b_names_of := E_names_of.binds (ps := ["pairs"]) fun _ _ _ _ _ _ us hl => match us, hl with | [_], _ => rfl
  have b__law_draw := E__law_draw.binds (ps := ["_law_stream", "_law_many"]) fun _ _ _ _ _ _ us hl => match us, hl with | [_, _], _ => rfl
  have b__law_same := E__law_same.binds (ps := ["_law_found", "_law_due"]) fun _ _ _ _ _ _ us hl => match us, hl with | [_, _], _ => rfl
  have b__law_mixed := E__law_mixed.binds (ps := ["_law_stream", "_law_some"]) fun _ _ _ _ _ _ us hl => match us, hl with | [_, _], _ => rfl
  have b__law_path := E__law_path.binds (ps := ["_law_stream", "_law_most"]) fun _ _ _ _ _ _ us hl => match us, hl with | [_, _], _ => rfl
  have b__law_value := E__law_value.binds (ps := ["_law_stream"]) fun _ _ _ _ _ _ us hl => match us, hl with | [_], _ => rfl
  have b__law_props := E__law_props.binds (ps := ["_law_stream"]) fun _ _ _ _ _ _ us hl => match us, hl with | [_], _ => rfl
  have b__law_listed := E__law_listed.binds (ps := ["_law_stream", "_law_thing_here"]) fun _ _ _ _ _ _ us hl => match us, hl with | [_, _], _ => rfl
  have b__law_is_name := E__law_is_name.binds (ps := ["_law_thing_here"]) fun _ _ _ _ _ _ us hl => match us, hl with | [_], _ => rfl
  have b__law_is_path := E__law_is_path.binds (ps := ["_law_thing_here"]) fun _ _ _ _ _ _ us hl => match us, hl with | [_], _ => rfl
  have b__law_is_value := E__law_is_value.binds (ps := ["_law_thing_here"]) fun _ _ _ _ _ _ us hl => match us, hl with | [_], _ => rfl
  have b__law_letters := E__law_letters.binds (ps := ["_law_stream", "_law_many"]) fun _ _ _ _ _ _ us hl => match us, hl with | [_, _], _ => rfl
  have b__law_near_name := E__law_near_name.binds (ps := ["_law_stream"]) fun _ _ _ _ _ _ us hl => match us, hl with | [_], _ => rfl
  have b__law_thing := E__law_thing.binds (ps := ["_law_stream", "_law_deep"]) fun _ _ _ _ _ _ us hl => match us, hl with | [_, _], _ => rfl
  have b__law_near_path := E__law_near_path.binds (ps := ["_law_stream"]) fun _ _ _ _ _ _ us hl => match us, hl with | [_], _ => rfl
  have b__law_near_value := E__law_near_value.binds (ps := ["_law_stream"]) fun _ _ _ _ _ _ us hl => match us, hl with | [_], _ => rfl
  have b__law_some_names := E__law_some_names.binds (ps := ["_law_stream", "_law_many"]) fun _ _ _ _ _ _ us hl => match us, hl with | [_, _], _ => rfl
  have b__law_wide_tree := E__law_wide_tree.binds (ps := ["_law_stream", "_law_left", "_law_deep"]) fun _ _ _ _ _ _ us hl => match us, hl with | [_, _, _], _ => rfl
  have b__law_under := E__law_under.binds (ps := ["_law_stream", "_law_part", "_law_levels"]) fun _ _ _ _ _ _ us hl => match us, hl with | [_, _, _], _ => rfl
  have b__law_any_tree := E__law_any_tree.binds (ps := ["_law_stream"]) fun _ _ _ _ _ _ us hl => match us, hl with | [_], _ => rfl
  have b__law_is_tree := E__law_is_tree.binds (ps := ["_law_thing_here", "_law_levels"]) fun _ _ _ _ _ _ us hl => match us, hl with | [_, _], _ => rfl
  have b__law_bent_pairs := E__law_bent_pairs.binds (ps := ["_law_stream", "_law_pairs"]) fun _ _ _ _ _ _ us hl => match us, hl with | [_, _], _ => rfl
  have b__law_bent_tree := E__law_bent_tree.binds (ps := ["_law_stream", "_law_part"]) fun _ _ _ _ _ _ us hl => match us, hl with | [_, _], _ => rfl
  have b__law_tupled := E__law_tupled.binds (ps := ["_law_thing_here"]) fun _ _ _ _ _ _ us hl => match us, hl with | [_], _ => rfl
  have b__law_due_tree := E__law_due_tree.binds (ps := ["_law_props_here", "_law_children"]) fun _ _ _ _ _ _ us hl => match us, hl with | [_, _], _ => rfl
  have b__law_tree_made := E__law_tree_made.binds (ps := ["_law_first", "_law_second"]) fun _ _ _ _ _ _ us hl => match us, hl with | [_, _], _ => rfl
  have b_by_name := (fun_mk (st := s_by_name) l_by_name c_by_name k_by_name).binds (ps := ["pairs"]) fun _ _ _ _ _ _ us hl => match us, hl with | [_], _ => rfl
  have E_make_tree : FunD K "make_tree" "make_tree" (defArgs s_make_tree) (defBody s_make_tree) (defScope s_make_tree) [.ref E0_make_tree, .ref E1_make_tree] [] F_make_tree _ := ⟨⟨_, _, .ref TD_make_tree, _, _, _, _, _, _, _, rfl, l_make_tree, c_make_tree, .inr ⟨by simp, TD_make_tree, _, [.ref E0_make_tree, .ref E1_make_tree], _, rfl, t_make_tree, rfl, .cons rfl (.cons rfl .nil)⟩, .inl rfl⟩, k_make_tree⟩
  have b2_make_tree := E_make_tree.binds1 (ps := ["props", "children"]) 2 2 (by simp) rfl fun _ _ _ _ _ _ _ us its hu hi => match us, its, hu, hi with | [_, _], [_, _], _, _ => ⟨_, rfl, rfl⟩
  have b1_make_tree := E_make_tree.binds1 (ps := ["props", "children"]) 1 1 (by simp) rfl fun _ _ _ _ _ _ _ us its hu hi => match us, its, hu, hi with | [_], [_, _], _, _ => ⟨_, rfl, rfl⟩
  have b0_make_tree := E_make_tree.binds1 (ps := ["props", "children"]) 0 0 (by simp) rfl fun _ _ _ _ _ _ _ us its hu hi => match us, its, hu, hi with | [], [_, _], _, _ => ⟨_, rfl, rfl⟩
  obtain ⟨ds_make_tree, v2_make_tree, b2_make_tree⟩ := b2_make_tree
  cases v2_make_tree
  have EI_BadTree := fun_mk (st := s_BadTree) l_BadTree c_BadTree k_BadTree
  have bI_BadTree := EI_BadTree.binds (ps := ["self"]) fun _ _ _ _ _ _ us hl => match us, hl with | [_], _ => rfl
  let Z : Env K mg := {
    T := { len := PySem.W.mg_none_of X G z_len, isinstance := PySem.W.mg_none_of X G z_isinstance, all := PySem.W.mg_none_of X G z_all, int := PySem.W.mg_none_of X G z_int, str := PySem.W.mg_none_of X G z_str, tuple := PySem.W.mg_none_of X G z_tuple, list := PySem.W.mg_none_of X G z_list, range := PySem.W.mg_none_of X G z_range, repr := PySem.W.mg_none_of X G z_repr, sorted := PySem.W.mg_none_of X G z_sorted, bool := PySem.W.mg_none_of X G z_bool, zip := PySem.W.mg_none_of X G z_zip, dict := PySem.W.mg_none_of X G z_dict, ValueError := PySem.W.mg_none_of X G z_ValueError }
    t_LONGEST_NAME := t_LONGEST_NAME, g_LONGEST_NAME := PySem.W.mg_of X G c_LONGEST_NAME
    t_LONGEST_PATH := t_LONGEST_PATH, g_LONGEST_PATH := PySem.W.mg_of X G c_LONGEST_PATH
    c_VariantError := F_VariantError, V_VariantError := ⟨PySem.W.mg_of X G a_VariantError, r_VariantError, g_VariantError, v_VariantError⟩
    c_BadTree := F_BadTree, i_BadTree := I_BadTree, fd_BadTree := _
    E_BadTree := { m := PySem.W.mg_of X G a_BadTree, T := ⟨⟨_, _, _, _, _, _, _, _, _, _, _, _, _, _, _, x_BadTree, rfl⟩, sa_BadTree, exC_BadTree, tyC_BadTree, kC_BadTree⟩, iC := iC_BadTree, tI := tI_BadTree, F := EI_BadTree, b := bI_BadTree, te := PySem.W.exm_ref exC_BadTree hd_BadTree tyC_BadTree ss_BadTree, E := ⟨hg_BadTree, hk_BadTree, exC_BadTree, hd_BadTree, ha_BadTree, hn_BadTree, ht_BadTree, hm_BadTree⟩, kV := kV_BadTree, kE := kE_BadTree }
    cB := cB, PB := PB
    f_as_tuples := F_as_tuples, fd_as_tuples := _, D_as_tuples := ⟨E_as_tuples, b_as_tuples, PySem.W.mg_of X G a_as_tuples⟩
    f_is_pair := F_is_pair, fd_is_pair := _, D_is_pair := ⟨E_is_pair, b_is_pair, PySem.W.mg_of X G a_is_pair⟩
    f_ascends := F_ascends, fd_ascends := _, D_ascends := ⟨E_ascends, b_ascends, PySem.W.mg_of X G a_ascends⟩
    f_is_name := F_is_name, fd_is_name := _, D_is_name := ⟨E_is_name, b_is_name, PySem.W.mg_of X G a_is_name⟩
    f_is_path := F_is_path, fd_is_path := _, D_is_path := ⟨E_is_path, b_is_path, PySem.W.mg_of X G a_is_path⟩
    f_is_value := F_is_value, fd_is_value := _, D_is_value := ⟨E_is_value, b_is_value, PySem.W.mg_of X G a_is_value⟩
    f_is_integer := F_is_integer, fd_is_integer := _, D_is_integer := ⟨E_is_integer, b_is_integer, PySem.W.mg_of X G a_is_integer⟩
    f_is_link := F_is_link, fd_is_link := _, D_is_link := ⟨E_is_link, b_is_link, PySem.W.mg_of X G a_is_link⟩
    f_is_tree := F_is_tree, fd_is_tree := _, D_is_tree := ⟨E_is_tree, b_is_tree, PySem.W.mg_of X G a_is_tree⟩
    f_is_tree_within := F_is_tree_within, fd_is_tree_within := _, D_is_tree_within := ⟨E_is_tree_within, b_is_tree_within, PySem.W.mg_of X G a_is_tree_within⟩
    f_are_props := F_are_props, fd_are_props := _, D_are_props := ⟨E_are_props, b_are_props, PySem.W.mg_of X G a_are_props⟩
    f_are_rows := F_are_rows, fd_are_rows := _, D_are_rows := ⟨E_are_rows, b_are_rows, PySem.W.mg_of X G a_are_rows⟩
    f_are_named := F_are_named, fd_are_named := _, D_are_named := ⟨E_are_named, b_are_named, PySem.W.mg_of X G a_are_named⟩
    f_names_of := F_names_of, fd_names_of := _, D_names_of := ⟨E_names_of, b_names_of, PySem.W.mg_of X G a_names_of⟩
    f_make_tree := F_make_tree, fd_make_tree := _, e0_make_tree := E0_make_tree, e1_make_tree := E1_make_tree, D_make_tree := ⟨E_make_tree, ⟨_, _, _, t0_make_tree⟩, ⟨_, _, _, t1_make_tree⟩, b2_make_tree, b1_make_tree, b0_make_tree, PySem.W.mg_of X G a_make_tree⟩
    f_by_name := F_by_name, fd_by_name := _, D_by_name := ⟨⟨_, _, _, _, _, _, _, _, rfl, l_by_name, c_by_name⟩, k_by_name, b_by_name, PySem.W.mg_of X G a_by_name⟩
    f__law_draw := F__law_draw, fd__law_draw := _, D__law_draw := ⟨E__law_draw, b__law_draw, PySem.W.mg_of X G a__law_draw⟩
    f__law_same := F__law_same, fd__law_same := _, D__law_same := ⟨E__law_same, b__law_same, PySem.W.mg_of X G a__law_same⟩
    f__law_mixed := F__law_mixed, fd__law_mixed := _, D__law_mixed := ⟨E__law_mixed, b__law_mixed, PySem.W.mg_of X G a__law_mixed⟩
    f__law_path := F__law_path, fd__law_path := _, D__law_path := ⟨E__law_path, b__law_path, PySem.W.mg_of X G a__law_path⟩
    f__law_value := F__law_value, fd__law_value := _, D__law_value := ⟨E__law_value, b__law_value, PySem.W.mg_of X G a__law_value⟩
    f__law_props := F__law_props, fd__law_props := _, D__law_props := ⟨E__law_props, b__law_props, PySem.W.mg_of X G a__law_props⟩
    f__law_listed := F__law_listed, fd__law_listed := _, D__law_listed := ⟨E__law_listed, b__law_listed, PySem.W.mg_of X G a__law_listed⟩
    f__law_is_name := F__law_is_name, fd__law_is_name := _, D__law_is_name := ⟨E__law_is_name, b__law_is_name, PySem.W.mg_of X G a__law_is_name⟩
    f__law_is_path := F__law_is_path, fd__law_is_path := _, D__law_is_path := ⟨E__law_is_path, b__law_is_path, PySem.W.mg_of X G a__law_is_path⟩
    f__law_is_value := F__law_is_value, fd__law_is_value := _, D__law_is_value := ⟨E__law_is_value, b__law_is_value, PySem.W.mg_of X G a__law_is_value⟩
    f__law_letters := F__law_letters, fd__law_letters := _, D__law_letters := ⟨E__law_letters, b__law_letters, PySem.W.mg_of X G a__law_letters⟩
    f__law_near_name := F__law_near_name, fd__law_near_name := _, D__law_near_name := ⟨E__law_near_name, b__law_near_name, PySem.W.mg_of X G a__law_near_name⟩
    f__law_thing := F__law_thing, fd__law_thing := _, D__law_thing := ⟨E__law_thing, b__law_thing, PySem.W.mg_of X G a__law_thing⟩
    f__law_near_path := F__law_near_path, fd__law_near_path := _, D__law_near_path := ⟨E__law_near_path, b__law_near_path, PySem.W.mg_of X G a__law_near_path⟩
    f__law_near_value := F__law_near_value, fd__law_near_value := _, D__law_near_value := ⟨E__law_near_value, b__law_near_value, PySem.W.mg_of X G a__law_near_value⟩
    f__law_some_names := F__law_some_names, fd__law_some_names := _, D__law_some_names := ⟨E__law_some_names, b__law_some_names, PySem.W.mg_of X G a__law_some_names⟩
    f__law_wide_tree := F__law_wide_tree, fd__law_wide_tree := _, D__law_wide_tree := ⟨E__law_wide_tree, b__law_wide_tree, PySem.W.mg_of X G a__law_wide_tree⟩
    f__law_under := F__law_under, fd__law_under := _, D__law_under := ⟨E__law_under, b__law_under, PySem.W.mg_of X G a__law_under⟩
    f__law_any_tree := F__law_any_tree, fd__law_any_tree := _, D__law_any_tree := ⟨E__law_any_tree, b__law_any_tree, PySem.W.mg_of X G a__law_any_tree⟩
    f__law_is_tree := F__law_is_tree, fd__law_is_tree := _, D__law_is_tree := ⟨E__law_is_tree, b__law_is_tree, PySem.W.mg_of X G a__law_is_tree⟩
    f__law_bent_pairs := F__law_bent_pairs, fd__law_bent_pairs := _, D__law_bent_pairs := ⟨E__law_bent_pairs, b__law_bent_pairs, PySem.W.mg_of X G a__law_bent_pairs⟩
    f__law_bent_tree := F__law_bent_tree, fd__law_bent_tree := _, D__law_bent_tree := ⟨E__law_bent_tree, b__law_bent_tree, PySem.W.mg_of X G a__law_bent_tree⟩
    f__law_tupled := F__law_tupled, fd__law_tupled := _, D__law_tupled := ⟨E__law_tupled, b__law_tupled, PySem.W.mg_of X G a__law_tupled⟩
    f__law_due_tree := F__law_due_tree, fd__law_due_tree := _, D__law_due_tree := ⟨E__law_due_tree, b__law_due_tree, PySem.W.mg_of X G a__law_due_tree⟩
    f__law_tree_made := F__law_tree_made, fd__law_tree_made := _, D__law_tree_made := ⟨E__law_tree_made, b__law_tree_made, PySem.W.mg_of X G a__law_tree_made⟩
  }
  refine ⟨_, cB, PB, hT PB (List.mem_singleton.mpr rfl), kPB, PySem.W.codeHd_of_K X hB, fun s v => .of_eq rfl, fun base _ _ tb => ok_law Z tb E_law⟩
end Vn
open PySem PySem.W PyProof.Rows
set_option maxRecDepth 100000 in
set_option maxHeartbeats 0 in
theorem PySem.Challenge.cw_variantnest_k06_trees_made_holds : PySem.Challenge.rw_variantnest_k06_trees_made.Holds := by
  w_on; o_law; k_head; (case hw => w_witness2)
  k_fill
  refine Vn.walk_ofT (l := PySem.Challenge.rw_variantnest_k06_trees_made) (n := 63) (k := 72) (x := "_law_script") (sp := fun w T => Vn.spLawT _ T) rfl (by decide) rfl ⟨rfl, by decide, by decide⟩ (fun w h Y => PySem.W.km_in_of Y) ?F (fun _ _ a T ns hl hT hS => ⟨a, ns, rfl, hS, hl, hT, fun _ => rfl⟩)
  case F =>
    intro w mg fa h Y KX G hmg
    refine' Vn.all_mk KX G hmg ?c_LONGEST_NAME ?c_LONGEST_PATH ?a_VariantError ?r_VariantError ?g_VariantError ?v_VariantError ?a_BadTree ?x_BadTree ?sa_BadTree ?exC_BadTree ?tyC_BadTree ?kC_BadTree ?iC_BadTree ?tI_BadTree ?l_BadTree ?c_BadTree ?k_BadTree ?hd_BadTree ?ss_BadTree ?hg_BadTree ?hk_BadTree ?ha_BadTree ?hn_BadTree ?ht_BadTree ?hm_BadTree ?kV_BadTree ?kE_BadTree ?hT ?kPB ?a_as_tuples ?l_as_tuples ?c_as_tuples ?k_as_tuples ?a_is_pair ?l_is_pair ?c_is_pair ?k_is_pair ?a_ascends ?l_ascends ?c_ascends ?k_ascends ?a_is_name ?l_is_name ?c_is_name ?k_is_name ?a_is_path ?l_is_path ?c_is_path ?k_is_path ?a_is_value ?l_is_value ?c_is_value ?k_is_value ?a_is_integer ?l_is_integer ?c_is_integer ?k_is_integer ?a_is_link ?l_is_link ?c_is_link ?k_is_link ?a_is_tree ?l_is_tree ?c_is_tree ?k_is_tree ?a_is_tree_within ?l_is_tree_within ?c_is_tree_within ?k_is_tree_within ?a_are_props ?l_are_props ?c_are_props ?k_are_props ?a_are_rows ?l_are_rows ?c_are_rows ?k_are_rows ?a_are_named ?l_are_named ?c_are_named ?k_are_named ?a_names_of ?l_names_of ?c_names_of ?k_names_of ?a_make_tree ?l_make_tree ?t_make_tree ?t0_make_tree ?t1_make_tree ?c_make_tree ?k_make_tree ?a_by_name ?l_by_name ?c_by_name ?k_by_name ?hB ?a__law_draw ?l__law_draw ?c__law_draw ?k__law_draw ?a__law_same ?l__law_same ?c__law_same ?k__law_same ?a__law_mixed ?l__law_mixed ?c__law_mixed ?k__law_mixed ?a__law_path ?l__law_path ?c__law_path ?k__law_path ?a__law_value ?l__law_value ?c__law_value ?k__law_value ?a__law_props ?l__law_props ?c__law_props ?k__law_props ?a__law_listed ?l__law_listed ?c__law_listed ?k__law_listed ?a__law_is_name ?l__law_is_name ?c__law_is_name ?k__law_is_name ?a__law_is_path ?l__law_is_path ?c__law_is_path ?k__law_is_path ?a__law_is_value ?l__law_is_value ?c__law_is_value ?k__law_is_value ?a__law_letters ?l__law_letters ?c__law_letters ?k__law_letters ?a__law_near_name ?l__law_near_name ?c__law_near_name ?k__law_near_name ?a__law_thing ?l__law_thing ?c__law_thing ?k__law_thing ?a__law_near_path ?l__law_near_path ?c__law_near_path ?k__law_near_path ?a__law_near_value ?l__law_near_value ?c__law_near_value ?k__law_near_value ?a__law_some_names ?l__law_some_names ?c__law_some_names ?k__law_some_names ?a__law_wide_tree ?l__law_wide_tree ?c__law_wide_tree ?k__law_wide_tree ?a__law_under ?l__law_under ?c__law_under ?k__law_under ?a__law_any_tree ?l__law_any_tree ?c__law_any_tree ?k__law_any_tree ?a__law_is_tree ?l__law_is_tree ?c__law_is_tree ?k__law_is_tree ?a__law_bent_pairs ?l__law_bent_pairs ?c__law_bent_pairs ?k__law_bent_pairs ?a__law_bent_tree ?l__law_bent_tree ?c__law_bent_tree ?k__law_bent_tree ?a__law_tupled ?l__law_tupled ?c__law_tupled ?k__law_tupled ?a__law_due_tree ?l__law_due_tree ?c__law_due_tree ?k__law_due_tree ?a__law_tree_made ?l__law_tree_made ?c__law_tree_made ?k__law_tree_made ?a_law ?l_law ?c_law ?k_law ?z_len ?z_isinstance ?z_all ?z_int ?z_str ?z_tuple ?z_list ?z_range ?z_repr ?z_sorted ?z_bool ?z_zip ?z_dict ?z_ValueError
    (case c_LONGEST_NAME => first | k_is | kernel_rfl)
    (case c_LONGEST_PATH => first | k_is | kernel_rfl)
    (case a_VariantError => first | k_is | kernel_rfl)
    (case r_VariantError => first | k_is | kernel_rfl)
    (case g_VariantError => first | k_is | kernel_rfl)
    (case v_VariantError => first | k_is | kernel_rfl)
    (case a_BadTree => first | k_is | kernel_rfl)
    (case x_BadTree => first | k_is | kernel_rfl)
    (case sa_BadTree => first | k_is | kernel_rfl)
    (case exC_BadTree => first | k_is | kernel_rfl)
    (case tyC_BadTree => first | k_is | kernel_rfl)
    (case kC_BadTree => first | k_is | kernel_rfl)
    (case iC_BadTree => first | k_is | kernel_rfl)
    (case tI_BadTree => first | k_is | kernel_rfl)
    (case l_BadTree => first | k_is | kernel_rfl)
    (case c_BadTree => first | k_is | kernel_rfl)
    (case k_BadTree => first | k_is | kernel_rfl)
    (case hd_BadTree => first | k_is | kernel_rfl)
    (case ss_BadTree => first | k_is | kernel_rfl)
    (case hg_BadTree => first | k_is | kernel_rfl)
    (case hk_BadTree => first | k_is | kernel_rfl)
    (case ha_BadTree => first | k_is | kernel_rfl)
    (case hn_BadTree => first | k_is | kernel_rfl)
    (case ht_BadTree => first | k_is | kernel_rfl)
    (case hm_BadTree => first | k_is | kernel_rfl)
    (case kV_BadTree => first | k_is | kernel_rfl)
    (case kE_BadTree => first | k_is | kernel_rfl)
    (case hT => exact PySem.W.km_tabs_of Y)
    (case kPB => first | k_is | kernel_rfl)
    (case a_as_tuples => first | k_is | kernel_rfl)
    (case l_as_tuples => first | k_is | kernel_rfl)
    (case c_as_tuples => first | k_is | kernel_rfl)
    (case k_as_tuples => first | k_is | kernel_rfl)
    (case a_is_pair => first | k_is | kernel_rfl)
    (case l_is_pair => first | k_is | kernel_rfl)
    (case c_is_pair => first | k_is | kernel_rfl)
    (case k_is_pair => first | k_is | kernel_rfl)
    (case a_ascends => first | k_is | kernel_rfl)
    (case l_ascends => first | k_is | kernel_rfl)
    (case c_ascends => first | k_is | kernel_rfl)
    (case k_ascends => first | k_is | kernel_rfl)
    (case a_is_name => first | k_is | kernel_rfl)
    (case l_is_name => first | k_is | kernel_rfl)
    (case c_is_name => first | k_is | kernel_rfl)
    (case k_is_name => first | k_is | kernel_rfl)
    (case a_is_path => first | k_is | kernel_rfl)
    (case l_is_path => first | k_is | kernel_rfl)
    (case c_is_path => first | k_is | kernel_rfl)
    (case k_is_path => first | k_is | kernel_rfl)
    (case a_is_value => first | k_is | kernel_rfl)
    (case l_is_value => first | k_is | kernel_rfl)
    (case c_is_value => first | k_is | kernel_rfl)
    (case k_is_value => first | k_is | kernel_rfl)
    (case a_is_integer => first | k_is | kernel_rfl)
    (case l_is_integer => first | k_is | kernel_rfl)
    (case c_is_integer => first | k_is | kernel_rfl)
    (case k_is_integer => first | k_is | kernel_rfl)
    (case a_is_link => first | k_is | kernel_rfl)
    (case l_is_link => first | k_is | kernel_rfl)
    (case c_is_link => first | k_is | kernel_rfl)
    (case k_is_link => first | k_is | kernel_rfl)
    (case a_is_tree => first | k_is | kernel_rfl)
    (case l_is_tree => first | k_is | kernel_rfl)
    (case c_is_tree => first | k_is | kernel_rfl)
    (case k_is_tree => first | k_is | kernel_rfl)
    (case a_is_tree_within => first | k_is | kernel_rfl)
    (case l_is_tree_within => first | k_is | kernel_rfl)
    (case c_is_tree_within => first | k_is | kernel_rfl)
    (case k_is_tree_within => first | k_is | kernel_rfl)
    (case a_are_props => first | k_is | kernel_rfl)
    (case l_are_props => first | k_is | kernel_rfl)
    (case c_are_props => first | k_is | kernel_rfl)
    (case k_are_props => first | k_is | kernel_rfl)
    (case a_are_rows => first | k_is | kernel_rfl)
    (case l_are_rows => first | k_is | kernel_rfl)
    (case c_are_rows => first | k_is | kernel_rfl)
    (case k_are_rows => first | k_is | kernel_rfl)
    (case a_are_named => first | k_is | kernel_rfl)
    (case l_are_named => first | k_is | kernel_rfl)
    (case c_are_named => first | k_is | kernel_rfl)
    (case k_are_named => first | k_is | kernel_rfl)
    (case a_names_of => first | k_is | kernel_rfl)
    (case l_names_of => first | k_is | kernel_rfl)
    (case c_names_of => first | k_is | kernel_rfl)
    (case k_names_of => first | k_is | kernel_rfl)
    (case a_make_tree => first | k_is | kernel_rfl)
    (case l_make_tree => first | k_is | kernel_rfl)
    (case t_make_tree => first | k_is | kernel_rfl)
    (case t0_make_tree => first | k_is | kernel_rfl)
    (case t1_make_tree => first | k_is | kernel_rfl)
    (case c_make_tree => first | k_is | kernel_rfl)
    (case k_make_tree => first | k_is | kernel_rfl)
    (case a_by_name => first | k_is | kernel_rfl)
    (case l_by_name => first | k_is | kernel_rfl)
    (case c_by_name => first | k_is | kernel_rfl)
    (case k_by_name => first | k_is | kernel_rfl)
    (case hB => first | k_is | kernel_rfl)
    (case a__law_draw => first | k_is | kernel_rfl)
    (case l__law_draw => first | k_is | kernel_rfl)
    (case c__law_draw => first | k_is | kernel_rfl)
    (case k__law_draw => first | k_is | kernel_rfl)
    (case a__law_same => first | k_is | kernel_rfl)
    (case l__law_same => first | k_is | kernel_rfl)
    (case c__law_same => first | k_is | kernel_rfl)
    (case k__law_same => first | k_is | kernel_rfl)
    (case a__law_mixed => first | k_is | kernel_rfl)
    (case l__law_mixed => first | k_is | kernel_rfl)
    (case c__law_mixed => first | k_is | kernel_rfl)
    (case k__law_mixed => first | k_is | kernel_rfl)
    (case a__law_path => first | k_is | kernel_rfl)
    (case l__law_path => first | k_is | kernel_rfl)
    (case c__law_path => first | k_is | kernel_rfl)
    (case k__law_path => first | k_is | kernel_rfl)
    (case a__law_value => first | k_is | kernel_rfl)
    (case l__law_value => first | k_is | kernel_rfl)
    (case c__law_value => first | k_is | kernel_rfl)
    (case k__law_value => first | k_is | kernel_rfl)
    (case a__law_props => first | k_is | kernel_rfl)
    (case l__law_props => first | k_is | kernel_rfl)
    (case c__law_props => first | k_is | kernel_rfl)
    (case k__law_props => first | k_is | kernel_rfl)
    (case a__law_listed => first | k_is | kernel_rfl)
    (case l__law_listed => first | k_is | kernel_rfl)
    (case c__law_listed => first | k_is | kernel_rfl)
    (case k__law_listed => first | k_is | kernel_rfl)
    (case a__law_is_name => first | k_is | kernel_rfl)
    (case l__law_is_name => first | k_is | kernel_rfl)
    (case c__law_is_name => first | k_is | kernel_rfl)
    (case k__law_is_name => first | k_is | kernel_rfl)
    (case a__law_is_path => first | k_is | kernel_rfl)
    (case l__law_is_path => first | k_is | kernel_rfl)
    (case c__law_is_path => first | k_is | kernel_rfl)
    (case k__law_is_path => first | k_is | kernel_rfl)
    (case a__law_is_value => first | k_is | kernel_rfl)
    (case l__law_is_value => first | k_is | kernel_rfl)
    (case c__law_is_value => first | k_is | kernel_rfl)
    (case k__law_is_value => first | k_is | kernel_rfl)
    (case a__law_letters => first | k_is | kernel_rfl)
    (case l__law_letters => first | k_is | kernel_rfl)
    (case c__law_letters => first | k_is | kernel_rfl)
    (case k__law_letters => first | k_is | kernel_rfl)
    (case a__law_near_name => first | k_is | kernel_rfl)
    (case l__law_near_name => first | k_is | kernel_rfl)
    (case c__law_near_name => first | k_is | kernel_rfl)
    (case k__law_near_name => first | k_is | kernel_rfl)
    (case a__law_thing => first | k_is | kernel_rfl)
    (case l__law_thing => first | k_is | kernel_rfl)
    (case c__law_thing => first | k_is | kernel_rfl)
    (case k__law_thing => first | k_is | kernel_rfl)
    (case a__law_near_path => first | k_is | kernel_rfl)
    (case l__law_near_path => first | k_is | kernel_rfl)
    (case c__law_near_path => first | k_is | kernel_rfl)
    (case k__law_near_path => first | k_is | kernel_rfl)
    (case a__law_near_value => first | k_is | kernel_rfl)
    (case l__law_near_value => first | k_is | kernel_rfl)
    (case c__law_near_value => first | k_is | kernel_rfl)
    (case k__law_near_value => first | k_is | kernel_rfl)
    (case a__law_some_names => first | k_is | kernel_rfl)
    (case l__law_some_names => first | k_is | kernel_rfl)
    (case c__law_some_names => first | k_is | kernel_rfl)
    (case k__law_some_names => first | k_is | kernel_rfl)
    (case a__law_wide_tree => first | k_is | kernel_rfl)
    (case l__law_wide_tree => first | k_is | kernel_rfl)
    (case c__law_wide_tree => first | k_is | kernel_rfl)
    (case k__law_wide_tree => first | k_is | kernel_rfl)
    (case a__law_under => first | k_is | kernel_rfl)
    (case l__law_under => first | k_is | kernel_rfl)
    (case c__law_under => first | k_is | kernel_rfl)
    (case k__law_under => first | k_is | kernel_rfl)
    (case a__law_any_tree => first | k_is | kernel_rfl)
    (case l__law_any_tree => first | k_is | kernel_rfl)
    (case c__law_any_tree => first | k_is | kernel_rfl)
    (case k__law_any_tree => first | k_is | kernel_rfl)
    (case a__law_is_tree => first | k_is | kernel_rfl)
    (case l__law_is_tree => first | k_is | kernel_rfl)
    (case c__law_is_tree => first | k_is | kernel_rfl)
    (case k__law_is_tree => first | k_is | kernel_rfl)
    (case a__law_bent_pairs => first | k_is | kernel_rfl)
    (case l__law_bent_pairs => first | k_is | kernel_rfl)
    (case c__law_bent_pairs => first | k_is | kernel_rfl)
    (case k__law_bent_pairs => first | k_is | kernel_rfl)
    (case a__law_bent_tree => first | k_is | kernel_rfl)
    (case l__law_bent_tree => first | k_is | kernel_rfl)
    (case c__law_bent_tree => first | k_is | kernel_rfl)
    (case k__law_bent_tree => first | k_is | kernel_rfl)
    (case a__law_tupled => first | k_is | kernel_rfl)
    (case l__law_tupled => first | k_is | kernel_rfl)
    (case c__law_tupled => first | k_is | kernel_rfl)
    (case k__law_tupled => first | k_is | kernel_rfl)
    (case a__law_due_tree => first | k_is | kernel_rfl)
    (case l__law_due_tree => first | k_is | kernel_rfl)
    (case c__law_due_tree => first | k_is | kernel_rfl)
    (case k__law_due_tree => first | k_is | kernel_rfl)
    (case a__law_tree_made => first | k_is | kernel_rfl)
    (case l__law_tree_made => first | k_is | kernel_rfl)
    (case c__law_tree_made => first | k_is | kernel_rfl)
    (case k__law_tree_made => first | k_is | kernel_rfl)
    (case a_law => first | k_is | kernel_rfl)
    (case l_law => first | k_is | kernel_rfl)
    (case c_law => first | k_is | kernel_rfl)
    (case k_law => first | k_is | kernel_rfl)
    (case z_len => first | k_is | kernel_rfl)
    (case z_isinstance => first | k_is | kernel_rfl)
    (case z_all => first | k_is | kernel_rfl)
    (case z_int => first | k_is | kernel_rfl)
    (case z_str => first | k_is | kernel_rfl)
    (case z_tuple => first | k_is | kernel_rfl)
    (case z_list => first | k_is | kernel_rfl)
    (case z_range => first | k_is | kernel_rfl)
    (case z_repr => first | k_is | kernel_rfl)
    (case z_sorted => first | k_is | kernel_rfl)
    (case z_bool => first | k_is | kernel_rfl)
    (case z_zip => first | k_is | kernel_rfl)
    (case z_dict => first | k_is | kernel_rfl)
    (case z_ValueError => first | k_is | kernel_rfl)

