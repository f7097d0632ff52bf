import PyProof.Rows.All
import Wide.All
import OpenK.AllK
import Wide.FinOn
import HandS.ForMost
import HandS.ForExc
import HandS.Iter
import HandS.Walk
import KE.GoesMore
import KE.GoesEnum
import HandS.Evl
import HandS.IsInst
import HandS.Codes
import HandS.ExcInit
import KE.KExcInit
import HandS.ExcValue
import HandS.MakeKw
import HandS.ExcField
import HandS.ExcIs
import KE.KExcIs
import HandS.ExcOwn
import HandS.Flow
import HandS.Sort
import HandS.Style
import HandS.Zip
import HandS.TupAny
import HandS.Conv
import KE.KRevSl
import HandS.Text
import HandS.StrMore
import HandS.TryOnly
import PyProof.InstNe
import HandS.OwnEq
import OpenK.KOps
import PyProof.StrOps2
import HandS.SetFor
import HandS.Strs
import HandS.SetTxt0
import PyProof.StrWalks
import PyProof.Rows.StrRev
import HandS.FStr
import PyProof.NeData
import PySem.Challenge.RW_housewardens_k56_guests_of_any_value
import PyProof.Rows.StrCase
set_option Elab.async false
set_option linter.all false
set_option maxRecDepth 100000
set_option maxHeartbeats 4000000
/-! A layer over the hand layer: calls that know that nothing is being shown around them (no repr under way). -/
namespace Hg
open PySem L2
open PySem.Spec PyProof.Rows

/-- around: no repr under way -/
def Quiet (A : Around) : Prop := A.guards = some []
theorem Quiet.deeper {A : Around} {env : Env} (q : Quiet A) : Quiet (A.deeper env) := q

/-- a def keeps its promise wherever no repr is under way -/
structure FnG (P : Program) (w : World) (K : PySem.W.Frag) (mg : Str → Option Value) (base : Heap)
    (CX : CXT) (k : Nat) (f : Addr) (fd : FuncData) (ps : List Str) (sp : Sp) : Prop where
  len : ∀ vs H Q E, sp vs H Q E → vs.length = ps.length
  go : ∀ (A : Around) (out : List Env) (s : Shared) (H : Hp) (args : Args) (us : List Value) (vs : List V) (Q : VK) (E : XK),
    Quiet A → Room k A → Env0 P w K mg base A out s H → BindsTo s fd args (ps.zip us) → Vals vs us → sp vs H Q E →
    codeAny (model P w) A (.call (.ref f) args) (CR CX out P w H s Q E) s

theorem FnG.mono {P : Program} {w : World} {K : PySem.W.Frag} {mg : Str → Option Value} {base : Heap} {CX : CXT}
    {j k : Nat} {f : Addr} {fd : FuncData} {ps : List Str} {sp : Sp}
    (F : FnG P w K mg base CX j f fd ps sp) (h : j ≤ k) : FnG P w K mg base CX k f fd ps sp :=
  ⟨F.len, fun A o s H a us vs Q E g r => F.go A o s H a us vs Q E g (r.mono h)⟩

section
variable {P : Program} {w : World} {K : PySem.W.Frag} {mg : Str → Option Value} {base : Heap} {CX : CXT}
/-- a def by its body, where no repr is under way -/
theorem fnG {k : Nat} {f : Addr} {x q : Str} {st : Stmt} {fd : FuncData} {N ps : List Str} {sp : Sp}
    (F : Fun K x q st f fd) (S : FnScope N ps (defScope st)) (len : ∀ vs H Q E, sp vs H Q E → vs.length = ps.length)
    (hb : ∀ (cdv : Value) (A : Around) (out : List Env) (s : Shared) (H : Hp) (vs : List V) (Q : VK) (E : XK), Quiet A →
      Room k (A.deeper (envOfC q (defScope st) s.heap.objs.size f cdv)) → sp vs H Q E →
      ∃ t, PSs (cxOf CX P w K mg base N q (defScope st) f cdv A out s H E) (defBody st) t ∧
        t { nx := fun _ H' => Q .non H', rt := Q } (start N vs) H) :
    FnG P w K mg base CX (k + 1) f fd ps sp := by
  obtain ⟨oc, od, kV, doc, pm, an, cdv, ct, osl, rfl, lk, hcd⟩ := F.ex
  refine ⟨len, ?_⟩
  intro A out s H args us vs Q E g hr e0 hbd r hsp
  have hl := len vs H Q E hsp
  have keep : ∀ b o, base.get? b = some o → s.heap.get? b = some o := fun b o e => (e0.bs b o e).1
  have KX : K.In s.heap := e0.mod.kin.keeps keep
  have lim := e0.mod.nolimit.keeps keep
  refine codeAny_call_function hr.depth (KX _ _ lk) rfl S.co S.gen rfl (PySem.W.codeRec_of KX hcd) (hbd _ _ _ _ ?_)
  refine wpAny_newFunctionEnv_cells S.kind ?hk ?hw
  case hk =>
    rintro ⟨n, v⟩ hy
    have hn := (List.of_mem_zip hy).1
    rcases S.par n hn with z | z
    · exact Or.inl z
    · exact Or.inr ⟨z, PySem.W.cellsFrom_some _ _ _ (Or.inl z)⟩
  case hw =>
    intro env he s1 xx
    subst he
    refine ⟨lim.keeps xx.toInCall.keep, codeAny_func ?_⟩
    obtain ⟨t, ht, hq⟩ := hb cdv A out s H vs Q E g (hr.deeper _) hsp
    have I := inv_start (CX := CX) (P := P) (w := w) (E := E) S hr.hd e0 hl r xx
    refine wpAny_mono (ht.run [] s1 (start N vs) H _ I hq) ?_ (fun _ _ z => z)
    intro fl s' hs
    have fin : ∀ {σ' : L2.St} {H' : Hp} {v : V} {u : Value},
        Inv (cxOf CX P w K mg base N q (defScope st) f cdv A out s H E) [] σ' H' s' → RelV v u → Q v H' →
        CE out P w H s Q u s' := by
      intro σ' H' v u J rv qq
      exact ⟨v, H', J.os, J.bare, J.base, J.hok, rv, qq⟩
    cases fl with
    | ret u => obtain ⟨v, σ', H', J, rv, qq⟩ := hs; exact fin J rv qq
    | next => obtain ⟨σ', H', J, qq⟩ := hs; exact fin (v := .non) (u := .none) J rfl qq
    | brk => obtain ⟨_, _, _, z⟩ := hs; exact z.elim
    | cont => obtain ⟨_, _, _, z⟩ := hs; exact z.elim
end

/-- a def of the module that may be called by its name -/
structure Cal (P : Program) (w : World) (K : PySem.W.Frag) (mg : Str → Option Value) (base : Heap) (CX : CXT)
    (k : Nat) (x : Str) (sp : Sp) : Prop where
  ex : ∃ (f : Addr) (fd : FuncData) (ps : List Str), FnG P w K mg base CX k f fd ps sp ∧ mg x = some (.ref f) ∧
    PySem.W.keepIn K (.ref f) = true ∧ Binds K fd ps []

section
variable {X : Cx} {CX : CXT} {k j : Nat} {f : Addr} {fd : FuncData} {ps : List Str} {sp : Sp} {E : XK} {x : Str} {p pos : Pos}
  {e : Expr} {es : List Expr} {t : TA}
/-- the callee runs -/
theorem runG {pins : List (Addr × Obj)} {σ : L2.St} {H : Hp} {s : Shared} {Q : VK} {us : List Value} {vs : List V}
    (F : FnG X.prog X.w X.K X.mg X.base CX k f fd ps sp) (g : Quiet X.A) (hr : Room k X.A) (hb : Binds X.K fd ps []) (hx : Passes CX X E)
    (I : Inv X pins σ H s) (r : Vals vs us) (h : sp vs H Q E) :
    wpAny (model X.prog X.w) X.A (call (.ref f) us) (EP X pins σ Q) X.xe s := by
  have hl : (us ++ []).length = ps.length := by rw [List.append_nil, ← r.length]; exact F.len vs H Q E h
  have b := hb s us I.kIn hl
  rw [List.append_nil] at b
  refine wpAny_call (codeAny_mono (F.go X.A X.stack s H ⟨us, []⟩ us vs Q E g hr I.env0 b r h) ?_)
  intro res s' hq
  match res, hq with
  | .error er, hq => exact hx pins σ H s er s' I hq
  | .ok (.ret u), hq => exact I.after hq
  | .ok .next, hq => exact hq.elim
  | .ok .brk, hq => exact hq.elim
  | .ok .cont, hq => exact hq.elim
/-- f(e, ..) -/
theorem pe_g (c : Cal X.prog X.w X.K X.mg X.base CX k x sp) (g : Quiet X.A) (hr : Room j X.A) (hk : k ≤ j) (hg : Gl X x) (hx : Passes CX X E)
    (ha : PA X (e :: es) t) (hdb : (x == ("__debug__" : Str)) = false := by decide)
    (he : starEach (e :: es) X.env = (false, eval e X.env) :: starEach es X.env := by rfl)
    (hpl : (backTo pos (starEach es X.env)).any (·.1) = false := by rfl) :
    PE X (.Call (.Name x p) (e :: es) [] pos) (fun σ H Q => t σ H fun vs H1 => sp vs H1 Q E) := by
  obtain ⟨f, fd, ps, F, hm, kp, b⟩ := c.ex
  refine ⟨fun pins s σ H Q I h => wpAny_Call_Name_kw (ld_glob I hg hm ?_ hdb)⟩
  refine PySem.W.callWith_K (h₀ := X.base) I.ok.mod.kin kp (thn (ha.run pos pins s σ H _ I h) ?_) he hpl
  rintro us s1 ⟨vs, H1, I1, r, q⟩
  exact ⟨I1.kIn, runG F g (hr.mono hk) b hx I1 r q⟩
end
end Hg

/-! The end of a law's row over the layer Hg: the law's own call, from its promise. -/
namespace Hg
open PySem L2
open PySem.Spec PyProof.Rows

/-- sys.modules stands in the base -/
def Sys (base : Heap) : Prop := ∃ mm, base.Ns sysModules mm

section
variable {P : Program} {w : World} {K : PySem.W.Frag} {mg mb : Str → Option Value} {k : Nat} {fa a : Addr} {fd : FuncData} {x : Str} {sp : Sp}
  {s1 : Shared} {vs : List Value} {ns : List Int}
/-- what the law's call leaves -/
abbrev Good (s1 : Shared) (r : Result) (s' : Shared) : Prop :=
  r = .ok (.ret (.bool true)) ∧ OldK s1.heap s'.heap ∧ s'.os = s1.os ∧ AllBare s'.gens

/-- from an abstract heap in which nothing but the script is tracked, locked -/
theorem law_from {H : Hp} (KX : K.In s1.heap) (hns : s1.heap.Ns mainGlobals mg) (hb : s1.heap.Ns builtinsNs mb)
    (hbb : ∀ y : Str, y ≠ "__name__" → mb y = bootBuiltins y) (hlim : s1.heap.NoLimit) (hsy : Sys s1.heap) (hg : s1.gens = #[])
    (ha : s1.heap.get? a = some { cls := .type "list", data := .seq vs.toArray }) (hr : Room k callerA)
    (F : ∀ base : Heap, K.In base → base.Ns mainGlobals mg → Sys base → FnG P w K mg base CX0 k fa fd [x] sp)
    (hbind : ∀ (s : Shared) (u : Value), BindsTo s fd ⟨[u], []⟩ [(x, u)])
    (hO : Only H) (hok : HOk P w H s1.heap) (hA : ∀ b, H b ≠ none → b = a) (hK : H a ≠ none → K.lookup a = none)
    (hsp : sp [.ref a] H (fun v _ => v = .bl true) (fun _ _ _ => False)) :
    codeAny (model P w) callerA (.call (.ref fa) ⟨[.ref a], []⟩) (Good s1) s1 := by
  have notA : ∀ {b : Addr} {o : Obj}, s1.heap.get? b = some o → (∀ n, o.data ≠ .seq vs.toArray n) → H b = none := by
    intro b o e d
    cases q : H b with
    | none => rfl
    | some u =>
      have eb := hA b (by rw [q]; exact fun z => nomatch z)
      rw [eb, ha] at e
      cases e
      exact absurd rfl (d _)
  have nsK : ∀ {b : Addr} {m : Str → Option Value}, s1.heap.Ns b m → (hidT s1.heap H).Ns b m := by
    rintro b m ⟨o, es, ep, e, d, r⟩
    exact ⟨o, es, ep, hidT_get e (notA e fun n z => by rw [d] at z; cases z), d, r⟩
  have hKb : K.In (hidT s1.heap H) := by
    intro b o e
    refine hidT_get (KX b o e) ?_
    cases q : H b with
    | none => rfl
    | some u =>
      have ne : H b ≠ none := by rw [q]; exact fun z => nomatch z
      have eb := hA b ne
      rw [eb] at ne e
      rw [hK ne] at e
      cases e
  have M : Mod K mg (hidT s1.heap H) := by
    obtain ⟨mc, h1, h2⟩ := hlim
    exact ⟨hKb, nsK hns, ⟨mb, nsK hb, hbb⟩, mc, nsK h1, h2⟩
  have e0 : Env0 P w K mg (hidT s1.heap H) callerA [] s1 H := by
    refine ⟨rfl, M, fun b o e => of_hidT e, Nat.le_of_eq (hidT_size _ _), trivial, ?_, hok, .of_eq hg⟩
    intro b z
    cases z
  have G := F _ hKb (nsK hns) (let ⟨mm, hmm⟩ := hsy; ⟨mm, nsK hmm⟩)
  refine codeAny_mono (G.go callerA [] s1 H ⟨[.ref a], []⟩ [.ref a] [.ref a] _ _ rfl hr e0 (hbind s1 (.ref a)) (.cons rfl .nil) hsp) ?_
  intro r s' h
  match r, h with
  | .error e, h => exact h.elim
  | .ok .next, h => exact h.elim
  | .ok .brk, h => exact h.elim
  | .ok .cont, h => exact h.elim
  | .ok (.ret u), h =>
    obtain ⟨v, H', os, bare, un, hok', r', q⟩ := h
    have q2 : v = .bl true := q
    subst q2
    have r2 : u = Value.bool true := r'
    subst r2
    refine ⟨rfl, OldK.of_keep ?_, os, bare⟩
    intro b o e
    cases q : H b with
    | none => exact un.keep b o e q (fun z => nomatch z) (fun z => nomatch z)
    | some u =>
      rcases hO b with z | ⟨ob, xs, z⟩
      · rw [q] at z; cases z
      · obtain ⟨e1, _⟩ := hok b _ z
        obtain ⟨e2, _⟩ := hok' b _ (un.frzs b ob _ z)
        rw [e1] at e
        cases e
        exact e2

/-- the law's call -/
theorem law_go (KX : K.In s1.heap) (hns : s1.heap.Ns mainGlobals mg) (hb : s1.heap.Ns builtinsNs mb)
    (hbb : ∀ y : Str, y ≠ "__name__" → mb y = bootBuiltins y) (hlim : s1.heap.NoLimit) (hsy : Sys s1.heap) (hg : s1.gens = #[])
    (ha : s1.heap.get? a = some { cls := .type "list", data := .seq vs.toArray }) (hi : IntsAre vs ns) (hl : ns.length ≤ sizeLine) (hr : Room k callerA)
    (F : ∀ base : Heap, K.In base → base.Ns mainGlobals mg → Sys base → FnG P w K mg base CX0 k fa fd [x] sp)
    (hbind : ∀ (s : Shared) (u : Value), BindsTo s fd ⟨[u], []⟩ [(x, u)])
    (hsp : ∀ H : Hp, Only H → SqL K H a (ns.map V.int) → sp [.ref a] H (fun v _ => v = .bl true) (fun _ _ _ => False)) :
    codeAny (model P w) callerA (.call (.ref fa) ⟨[.ref a], []⟩) (Good s1) s1 := by
  have rv := vals_ints hi
  have lv := hi.length
  have nn : ∀ {b : Addr} {u : HO}, (fun _ => none : Hp) b = some u → False := fun z => nomatch z
  cases hk : K.lookup a with
  | some o =>
    have e := KX a o hk
    rw [ha] at e
    cases e
    have hS : SqL K (fun _ => none) a (ns.map V.int) := by
      refine Or.inr ⟨_, vs.toArray, _, hk, rfl, rfl, rfl, ?_, by simpa using rv⟩
      rw [List.size_toArray, lv]
      exact hl
    have hO : Only (fun _ => none) := fun _ => Or.inl rfl
    exact law_from (H := fun _ => none) KX hns hb hbb hlim hsy hg ha hr F hbind hO (fun b u z => (nn (b := b) z).elim) (fun b z => absurd rfl z) (fun z => absurd rfl z) (hsp _ hO hS)
  | none =>
    let o : Obj := { cls := .type "list", data := .seq vs.toArray }
    let u : HO := .frz o (.lst (ns.map V.int))
    let H : Hp := fun b => if b = a then some u else none
    have Ha : H a = some u := if_pos rfl
    have Hn : ∀ {b}, b ≠ a → H b = none := fun h => if_neg h
    have hO : Only H := by
      intro b
      by_cases h : b = a
      · exact Or.inr ⟨_, _, by rw [h]; exact Ha⟩
      · exact Or.inl (Hn h)
    refine law_from (H := H) KX hns hb hbb hlim hsy hg ha hr F hbind hO ?_ ?_ (fun _ => hk) (hsp H hO (Or.inl (Or.inr ⟨o, Ha⟩)))
    · intro b v z
      by_cases h : b = a
      · subst h
        rw [Ha] at z
        cases z
        refine ⟨ha, ?_, vs, _, rv, ha⟩
        rw [List.length_map]
        exact hl
      · rw [Hn h] at z
        cases z
    · intro b z
      by_cases h : b = a
      · exact h
      · exact absurd (Hn h) z
end

/-- the goal that the head leaves, from the law's promise -/
theorem walkG {l : PySem.W.OpenLaw} {n k : Nat} {q : Program} {loose : List Str} {XP : (Str → Option Value) → Heap → Prop} {YP : World → Heap → Prop}
    {d : DefRec} {K : Params → PySem.W.Frag} {sp : PySem.W.Frag → Sp} {x : Str}
    (hn : l.most = some n) (hn2 : n ≤ sizeLine) (hdf : d.params.defaults = []) (hr : Room k callerA)
    (hi : importsNone q = true) (hY : ∀ (w : World) (h : Heap), YP w h → (K w.params).In h)
    (F : ∀ (w : World) (mg : Str → Option Value) (fa : Addr) (h : Heap), (K w.params).In h → h.Ns mainGlobals mg → mg d.name = some (.ref fa) →
      ∃ fd : FuncData, (∀ (s : Shared) (u : Value), BindsTo s fd ⟨[u], []⟩ [(x, u)]) ∧
        ∀ base : Heap, (K w.params).In base → base.Ns mainGlobals mg → Sys base → FnG l.prog w (K w.params) mg base CX0 k fa fd [x] (sp (K w.params)))
    (hsp : ∀ (K : PySem.W.Frag) (H : Hp) (a : Addr) (ns : List Int), ns.length ≤ n → Only H → SqL K H a (ns.map V.int) →
      sp K [.ref a] H (fun v _ => v = .bl true) (fun _ _ _ => False)) :
    PySem.W.WalkO q loose XP YP l.row.toRowW d [] (fun f vs => PySem.call f vs) := by
  refine Att.attach_call hn hdf ?_
  intro w s0 s1 mg mb fa o pm cd doc a vs ns G Y ho hd hcd hmg hobj hints hlen hg
  have KX := hY w _ Y
  obtain ⟨fd, hb, hF⟩ := F w mg fa _ KX G.T.g hmg
  exact law_go KX G.T.g G.T.b G.T.builtins G.T.nolimit (let ⟨mm, h1, _⟩ := (G.T.seer hi).mods; ⟨mm, h1⟩) hg hobj hints (Nat.le_trans hlen hn2) hr hF hb fun H hO hS => hsp _ H a ns hlen hO hS
end Hg

/-! repr of data of any depth: None, bools, ints, texts, lists, tuples, dicts by ints and texts. -/
namespace Hg
open PySem L2
open PySem.Spec PyProof.Rows

def keyD : Key → PyData
  | .inl i => .int i
  | .inr x => .str x
mutual
/-- v is this datum in the heap H -/
inductive Dd (K : PySem.W.Frag) (H : Hp) : V → PyData → Prop
  | non : Dd K H .non .none
  | bl (b : Bool) : Dd K H (.bl b) (.bool b)
  | int (i : Int) : Dd K H (.int i) (.int i)
  | str (x : Str) : Dd K H (.str x) (.str x)
  | lst {a : Addr} {xs : List V} {ds : List PyData} : SqL K H a xs → DdAll K H xs ds → Dd K H (.ref a) (.list ds)
  | tup {a : Addr} {xs : List V} {ds : List PyData} : SqT K H a xs → DdAll K H xs ds → Dd K H (.ref a) (.tuple ds)
  | dct {a : Addr} {kvs : List (Key × V)} {ds : List PyData} : Rd H a (.dK kvs) → DdAll K H (kvs.map (·.2)) ds →
      Dd K H (.ref a) (.dict ((kvs.map fun p => keyD p.1).zip ds))
inductive DdAll (K : PySem.W.Frag) (H : Hp) : List V → List PyData → Prop
  | nil : DdAll K H [] []
  | cons {v : V} {vs : List V} {d : PyData} {ds : List PyData} : Dd K H v d → DdAll K H vs ds → DdAll K H (v :: vs) (d :: ds)
end

theorem DdAll.length {K : PySem.W.Frag} {H : Hp} : ∀ {vs : List V} {ds : List PyData}, DdAll K H vs ds → vs.length = ds.length
  | _, _, .nil => rfl
  | _, _, .cons _ h => congrArg (· + 1) h.length


section
variable {X : Cx} {pins : List (Addr × Obj)} {σ : L2.St} {H : Hp} {s : Shared}
theorem Sys.at (y : Sys X.base) (I : Inv X pins σ H s) : ∃ o es ep, s.heap.get? sysModules = some o ∧ o.data = .dict es ep ∧ H sysModules = none := by
  obtain ⟨mm, o, es, ep, e, d, _⟩ := y
  exact ⟨o, es, ep, (I.bs _ _ e).1, d, (I.bs _ _ e).2⟩
theorem keys_read {P : Program} {w : World} {h : Heap} : ∀ {kvs : List (Key × V)} {vs : List (Key × Value)} {es : List DictEntry}, KV kvs vs →
    Pairs (mixKind P w) es vs → ReadsAll h (es.map (·.key)) (kvs.map fun p => keyD p.1) []
  | [], _, _, r, p => by
    cases r
    cases p
    exact .nil
  | (k, v) :: kvs, _, _, r, p => by
    cases r with
    | cons r1 r2 =>
      rename_i q vs'
      obtain ⟨kq, vq⟩ := q
      obtain ⟨e1, e2⟩ := r1
      have e1' : k = kq := e1
      subst e1'
      cases p with
      | cons p1 p2 p3 =>
        rename_i e es'
        have hs : keyIs k e.key = true := p1
        have rest := keys_read (h := h) r2 p3
        show ReadsAll h (e.key :: es'.map (·.key)) (keyD k :: kvs.map fun p => keyD p.1) ([] ++ [])
        rcases keyIs_shape hs with ⟨i, t, rfl, eq⟩ | ⟨x, t, rfl, eq⟩
        · exact .cons (by rw [eq]; exact .int i t) rest
        · exact .cons (by rw [eq]; exact .str x t) rest
theorem vals_of {P : Program} {w : World} : ∀ {kvs : List (Key × V)} {vs : List (Key × Value)} {es : List DictEntry}, KV kvs vs →
    Pairs (mixKind P w) es vs → Vals (kvs.map (·.2)) (es.map (·.val))
  | [], _, _, r, p => by
    cases r
    cases p
    exact .nil
  | (k, v) :: kvs, _, _, r, p => by
    cases r with
    | cons r1 r2 =>
      cases p with
      | cons p1 p2 p3 =>
        refine .cons ?_ (vals_of r2 p3)
        have z := r1.2
        rw [← p2] at z
        exact z
theorem zip_fst {α β : Type} : ∀ {as : List α} {bs : List β}, as.length = bs.length → (as.zip bs).map (·.1) = as
  | [], _, _ => rfl
  | a :: as, b :: bs, h => by
    show a :: (as.zip bs).map (·.1) = a :: as
    rw [zip_fst (Nat.succ.inj h)]
theorem zip_snd {α β : Type} : ∀ {as : List α} {bs : List β}, as.length = bs.length → (as.zip bs).map (·.2) = bs
  | [], [], _ => rfl
  | a :: as, b :: bs, h => by
    show b :: (as.zip bs).map (·.2) = b :: bs
    rw [zip_snd (Nat.succ.inj h)]
mutual
theorem Dd.reads (y : Sys X.base) (I : Inv X pins σ H s) : ∀ {v : V} {d : PyData} {u : Value}, Dd X.K H v d → RelV v u → ∃ as, Reads s.heap u d as ∧ sysModules ∉ as
  | _, _, _, .non, r => by
    cases r
    exact ⟨[], .none, fun z => nomatch z⟩
  | _, _, _, .bl b, r => by
    cases r
    exact ⟨[], .bool b, fun z => nomatch z⟩
  | _, _, _, .int i, r => by
    obtain ⟨t, rfl⟩ := r
    exact ⟨[], .int i t, fun z => nomatch z⟩
  | _, _, _, .str x, r => by
    obtain ⟨t, rfl⟩ := r
    exact ⟨[], .str x t, fun z => nomatch z⟩
  | _, _, _, .lst (a := a) hs ha, r => by
    cases r
    obtain ⟨its, rv, ⟨o, n, ho, hc, _, hd⟩, _⟩ := I.list hs
    obtain ⟨as, hr, hn⟩ := DdAll.reads y I ha rv
    refine ⟨_, .list ho hc hd hr, ?_⟩
    intro z
    rcases List.mem_cons.mp z with z | z
    · obtain ⟨o2, es, ep, e2, d2, _⟩ := y.at I
      rw [z, ho] at e2
      cases e2
      rw [hd] at d2
      cases d2
    · exact hn z
  | _, _, _, .tup hs ha, r => by
    cases r
    obtain ⟨its, rv, ⟨o, ho, hc, n, hd⟩, _⟩ := I.tuple hs
    obtain ⟨as, hr, hn⟩ := DdAll.reads y I ha rv
    exact ⟨_, .tuple ho hc hd hr, hn⟩
  | _, _, _, .dct (a := a) (kvs := kvs) (ds := ds) hs ha, r => by
    cases r
    obtain ⟨_, hne, vs, kv, o, es, ep, ho, hx, hd, _, hp, _⟩ := hs.ok I.hok
    have hl : (kvs.map fun p => keyD p.1).length = ds.length := by
      rw [List.length_map, ← ha.length, List.length_map]
    obtain ⟨as, hr, hn⟩ := DdAll.reads y I ha (vals_of kv hp)
    refine ⟨_, .dict ho hx.1 hd (as := []) (bs := as) ?_ ?_, ?_⟩
    · rw [zip_fst hl]
      exact keys_read kv hp
    · rw [zip_snd hl]
      exact hr
    · intro z
      rcases List.mem_cons.mp z with z | z
      · rw [← z] at hne
        exact absurd hne (by decide)
      · exact hn z
theorem DdAll.reads (y : Sys X.base) (I : Inv X pins σ H s) : ∀ {vs : List V} {ds : List PyData} {us : List Value}, DdAll X.K H vs ds → Vals vs us → ∃ as, ReadsAll s.heap us ds as ∧ sysModules ∉ as
  | _, _, _, .nil, r => by
    cases r
    exact ⟨[], .nil, fun z => nomatch z⟩
  | _, _, _, .cons h1 h2, r => by
    cases r with
    | cons r1 r2 =>
      obtain ⟨as, q1, n1⟩ := Dd.reads y I h1 r1
      obtain ⟨bs, q2, n2⟩ := DdAll.reads y I h2 r2
      refine ⟨as ++ bs, .cons q1 q2, fun z => ?_⟩
      rcases List.mem_append.mp z with z | z
      · exact n1 z
      · exact n2 z
end
end

/-- what repr can show -/
structure Shows (d : PyData) : Prop where
  ok : d.showable = true
  dp : d.depth ≤ 60
  sz : d.shown.length ≤ sizeLine

section
variable {X : Cx}
theorem call_repr (g : Quiet X.A) (hu : X.A.units + 64 < cLine) (y : Sys X.base) : CallR X (.builtin "repr") (fun xs H Q => ∃ v d, xs = [v] ∧ Dd X.K H v d ∧ Shows d ∧ Q (.str d.shown) H) := by
  intro pins s σ H xs us Q I r h
  obtain ⟨v, d, rfl, hd, S, q⟩ := h
  cases r with
  | cons rv rn =>
    cases rn
    rename_i u
    have fin : ∀ (x : Str) (t tk : Tok), x = d.shown → EP X pins σ Q (.str x t) { s with toks := tk } := by
      rintro x t tk rfl
      exact ⟨.str d.shown, H, I.tok tk, ⟨t, rfl⟩, q⟩
    have ref : ∀ a : Addr, u = .ref a → wpAny (model X.prog X.w) X.A (call (.builtin "repr") [.ref a]) (EP X pins σ Q) X.xe s := by
      intro a ea
      obtain ⟨as, hr, hn⟩ := Dd.reads y I hd rv
      rw [ea] at hr
      refine repr_of_reads' hr S.ok (fun _ => hn) g (by have := S.dp; omega) (fun _ _ e => e) ?_ S.sz
      intro h' t tk k
      exact ⟨.str d.shown, H, I.kept (t' := tk) k, ⟨t, rfl⟩, q⟩
    cases hd with
    | non =>
      cases rv
      exact PySem.P.repr_of_none (fin _ _ _ (by simp only [PyData.shown]))
    | bl b =>
      cases rv
      exact PySem.P.repr_of_bool (fin _ _ _ (by simp only [PyData.shown]))
    | int i =>
      obtain ⟨t, rfl⟩ := rv
      exact PySem.P.repr_of_int (by simpa [PyData.showable] using S.ok) (fin _ _ _ (by simp only [PyData.shown]))
    | str x =>
      obtain ⟨t, rfl⟩ := rv
      have z := S.sz
      simp only [PyData.shown] at z
      exact PySem.P.repr_of_str (fin _ _ _ (by simp only [PyData.shown])) z
    | lst hs ha =>
      cases rv
      exact ref _ rfl
    | tup hs ha =>
      cases rv
      exact ref _ rfl
    | dct hs ha =>
      cases rv
      exact ref _ rfl
end
end Hg

/-! enumerate(t), t a tuple. -/
namespace He1
open PySem
open Sem (wp)
set_option maxHeartbeats 1000000 in
theorem new1 {v : Value} {o : Obj} {G : Heap → Prop} (B : Begins v o G) :
    Meets (Builtin.«enumerate.__new__» ⟨[.type "enumerate", v], []⟩) (fun _ R s => G s.heap ∧
      R (.ok (.ret (.ref (s.heap.push o).objs.size)))
        { s with heap := (s.heap.push o).push { cls := .type "enumerate", data := .fields #[.none, .bool false, .ref s.heap.objs.size, rawInt 0, .none, .none] } }) :=
  .of_wp fun prog w A R s h => by
    obtain ⟨hp, g, d, tk, os⟩ := s
    obtain ⟨h1, h⟩ := h
    have hs := sub_enumerate
    have q : ∀ {A' : Around} {E : Value → Shared → Prop} {Q : Value → Shared → Prop}, Q (.ref hp.objs.size) ⟨hp.push o, g, d, tk, os⟩ →
        wpAny (model prog w) A' (pyIter v) Q E ⟨hp, g, d, tk, os⟩ := fun z => B.iter prog w _ _ ⟨hp, g, d, tk, os⟩ _ h1 z
    wp_walk using q
    refine wpAny_stack_any fun st => wpAny_pure ?_
    split
    · rename_i c _ _ _ _ _
      cases (c == Value.type "enumerate") <;> (wp_walk using q; exact ⟨_, rfl, h⟩)
    · wp_walk using q
      exact ⟨_, rfl, h⟩
section
variable {prog : Program} {w : World} {A : Around} {E : Value → Shared → Prop} {s : Shared}
theorem call1 {t : Addr} {items : Array Value} {Q : Value → Shared → Prop} (hT : s.heap.IsTuple t items)
    (h : ∀ h', IsEnum h' (s.heap.objs.size + 1) s.heap.objs.size 0 .none → h'.IsTupleIter s.heap.objs.size t 0 →
      (∀ b o, s.heap.get? b = some o → h'.get? b = some o) → Q (.ref (s.heap.objs.size + 1)) { s with heap := h' }) :
    wpAny (model prog w) A (call (.type "enumerate") [.ref t]) Q E s := by
  refine callType_new F.called_enumerate (by decide) (F.typeCall_enumerate_1 _) (F.newCall_enumerate_1 _) (fun obj => F.args_object_init_2 obj _) F.entry_enumerate_new
    (new1 (begins_tuple t items)) ⟨hT, ?_⟩
  generalize ho : ({ cls := .type "tuple_iterator", data := .fields #[.ref t, .int 0 0] } : Obj) = o
  have fr : o.isFreed = false := by rw [← ho]; rfl
  have hz : (s.heap.push o).objs.size = s.heap.objs.size + 1 := Heap.size_push ..
  show _ ∧ _
  rw [hz]
  generalize hoe : ({ cls := .type "enumerate", data := .fields #[.none, .bool false, .ref s.heap.objs.size, rawInt 0, .none, .none] } : Obj) = oe
  have he : ((s.heap.push o).push oe).get? (s.heap.objs.size + 1) = some oe := by
    have z := Heap.get?_push_size (s.heap.push o) (o := oe) (by rw [← hoe]; rfl)
    rw [hz] at z
    exact z
  have hi : ((s.heap.push o).push oe).get? s.heap.objs.size = some o := Heap.get?_push_of_some _ (Heap.get?_push_size _ fr)
  refine ⟨⟨oe, he, by rw [← hoe]⟩, h _ (by rw [← hoe] at he ⊢; exact he) ⟨o, hi, by rw [← ho], by rw [← ho]; rfl⟩ ?_⟩
  intro b ob x
  exact Heap.get?_push_of_some _ (Heap.get?_push_of_some _ x)
theorem end1 {e it t : Addr} {i j : Nat} {items : Array Value} {old : Value} {Q : Option Value → Shared → Prop} (hh : A.handled = none)
    (he : IsEnum s.heap e it i old) (hit : s.heap.IsTupleIter it t j) (ht : s.heap.IsTuple t items) (hx : items[j]? = none)
    (hQ : ∀ h', Heap.ExtBut it s.heap h' → Q none { s with heap := h' }) : wpAny (model prog w) A (pyNext (.ref e)) Q E s := by
  have hT : s.TypeIs (.ref e) "enumerate" := ⟨_, he, rfl⟩
  unfold pyNext
  refine wpAny_bind (wpAny_attempt (wpAny_callSpecial?_slot (name := Str.ofString "__next__") hT F.slot_enumerate_next ?_))
  refine wpAny_call_entry F.slot_enumerate_next hT F.entry_enumerate_next ?_ (F.args_enumerate_next_1 _)
  show wpAny _ _ (field (.ref e) 2 >>= _) _ _ _
  refine wpAny_bind (wpAny_field he rfl (x := .ref it) rfl (wpAny_bind (wpAny_nextOf_tuple_end hh hit ht hx ?_)))
  rintro h' x hx1 ⟨o, ho, hc⟩
  exact wpAny_bind (wpAny_isInstance (T := "StopIteration") (b := true) ⟨o, ho, hc⟩ isSubtype_stop (wpAny_pure (hQ _ hx1)))
end
end He1
namespace Hg
open PySem L2
open PySem.Spec PyProof.Rows
/-- the tuple at a, each item in a new pair -/
def Itet (K : PySem.W.Frag) (a : Addr) : It :=
  ⟨fun i H => ∃ (xs : List V) (x : V), SqT K H a xs ∧ xs[i]? = some x,
   fun i H v H' => ∃ T x, v = .ref T ∧ H T = none ∧ H' = upd H T (.tup [.int (i : Nat), x]) ∧ ∀ xs, SqT K H a xs → xs[i]? = some x,
   fun i H => ∃ xs : List V, SqT K H a xs ∧ xs.length ≤ i⟩
theorem two_of {b e it : Addr} (h : b ∈ [e, it]) : b = e ∨ b = it := by simpa using h
theorem turn_enumT {P : Program} {w : World} {K : PySem.W.Frag} {elts : List Expr} {kk : Nat} {tpos : Pos} (a e it : Addr) :
    Turn P w K (.Tuple elts kk tpos) (Itet K a) [e, it] e
      (fun i h => (∃ old, IsEnum h e it ((i : Nat) : Int) old) ∧ h.IsTupleIter it a i ∧ e ≠ it ∧ a ≠ it ∧ a ≠ e) where
  mem := by simp
  obj := by
    rintro i h ⟨⟨old, he⟩, ⟨o, ho, hc, hd⟩, _⟩ b hb
    rcases two_of hb with rfl | rfl
    · exact ⟨_, he, fun v z => nomatch z⟩
    · exact ⟨o, ho, fun v z => by rw [hd] at z; cases z⟩
  keep := by
    rintro i h h' ⟨⟨old, he⟩, hi, hne⟩ k
    exact ⟨⟨old, k e (by simp) _ he⟩, hi.at fun o z => k it (by simp) o z, hne⟩
  item := by
    intro X hP hw hK hc i pins s σ H E I hf st hg
    subst hP hw hK
    obtain ⟨⟨old, he⟩, hit, hne, hai, hae⟩ := st
    obtain ⟨xs, x, hq, hx⟩ := hg
    obtain ⟨its, rv, p, hz⟩ := I.tuple hq
    obtain ⟨u, hu, ru⟩ := rv.get hx
    have hel : e < s.heap.objs.size := Heap.lt_size he
    have hil : it < s.heap.objs.size := by
      obtain ⟨_, z, _⟩ := hit
      exact Heap.lt_size z
    have hT : s.heap.IsTuple a its.toArray := p
    have D := Draws.tuple (prog := X.prog) (w := X.w) (A := X.A.in1) (I.ok.hd hc) it a hai its.toArray
    have hlen : i < its.toArray.size := by
      obtain ⟨z, _⟩ := List.getElem?_eq_some_iff.mp hu
      simpa using z
    refine wpAny_pyNext_enum_itemC (c := ((i : Nat) : Int)) D he ⟨hit, hT⟩ hlen hne (by simp [hne, Ne.symm hae]) ?_
    intro x' h' tk hP' ho st' hT' hsz hk
    have ex : x' = u := by
      have z : its.toArray[i]? = some x' := hP'
      have z2 : its.toArray[i]? = some u := by simpa using hu
      rw [z2] at z
      exact (Option.some.inj z).symm
    subst ex
    refine ⟨_, rfl, wpAny_letOwnedTupleGo_enum (s := { s with heap := h', toks := tk + 1 }) ho ?_⟩
    intro h'' he' sb
    have hT2 : h''.get? s.heap.objs.size = some { cls := .type "tuple", data := .seq #[.int i tk, x'] } := (sb.2 _ (Nat.ne_of_gt hel)).trans hT'
    have new : ObjOk X.prog X.w (upd H s.heap.objs.size (.tup [.int (i : Nat), x])) h'' s.heap.objs.size (.tup [.int (i : Nat), x]) :=
      ⟨by show 2 ≤ sizeLine; decide, [.int i tk, x'], .cons ⟨_, rfl⟩ (.cons ru .nil), ⟨_, hT2, rfl, _, rfl⟩⟩
    have I1 : Inv X pins σ (upd H s.heap.objs.size (.tup [.int (i : Nat), x])) { s with heap := h'', toks := tk + 1 } := by
      refine I.turnedNew (ch := [e, it]) ?_ hf (Nat.le_refl _) new
      intro b ob hb z
      have n1 : b ≠ e := fun y => hb (by simp [y])
      have n2 : b ≠ it := fun y => hb (by simp [y])
      exact (sb.2 b n1).trans (hk b ob n1 n2 z)
    refine ⟨.ref s.heap.objs.size, _, I1, rfl, ⟨_, x, rfl, I.hok.fresh (Nat.le_refl _), rfl, ?_⟩, ⟨⟨x', ?_⟩, st'.1.at fun o z => (sb.2 it (Ne.symm hne)).trans z, hne, hai, hae⟩, ?_⟩
    · intro ys hy
      rw [I.tuple_inj hy hq]
      exact hx
    · have e1 : ((i + 1 : Nat) : Int) = (i : Int) + 1 := by omega
      rw [e1]
      exact he'
    · intro b hb
      have hb' : b < s.heap.objs.size := by
        rcases two_of hb with rfl | rfl
        · exact hel
        · exact hil
      rw [upd_ne (Nat.ne_of_lt hb')]
      exact (hf b hb).1
  done := by
    intro X hP hw hK hc i pins s σ H E I hf st hg
    subst hP hw hK
    obtain ⟨⟨old, he⟩, hit, hne, hai, hae⟩ := st
    obtain ⟨xs, hq, hx⟩ := hg
    obtain ⟨its, rv, p, hz⟩ := I.tuple hq
    have hT : s.heap.IsTuple a its.toArray := p
    obtain ⟨f0, f1, f2, f3, f4, f5⟩ := hf it (by simp)
    have hl := rv.length
    exact He1.end1 (I.ok.hd hc) he hit hT (by simp; omega) fun h' eb => ⟨rfl, I.turned (t' := s.toks) (fun b o hb z => eb b o hb z) f0 f1 f3 f4 f5⟩
  self := by
    rintro A i s Q E ⟨⟨_, he⟩, _⟩ h
    exact wpAny_pyIter_enum he h
def iEnumT (K : PySem.W.Frag) (ta : TA) : TI := fun σ H R => ta σ H fun vs H1 => ∃ a xs, vs = [.ref a] ∧ SqT K H1 a xs ∧ R (Itet K a) H1
theorem pi_enumT {X : Cx} {e : Expr} {ta : TA} {p pos tpos : Pos} {elts : List Expr} {kk : Nat} (hg : Gl X "enumerate") (hm : X.mg "enumerate" = none) (ha : PA X [e] ta)
    (hs : starEach [e] X.env = [(false, eval e X.env)] := by rfl) :
    PI X (.Tuple elts kk tpos) (.Call (.Name "enumerate" p) [e] [] pos) (iEnumT X.K ta) := by
  refine ⟨fun pins s σ H R I h => ?_⟩
  refine Call_ (ld_blt I hg hm boot_enumerate (PyProof.Rows.callWith_type1 (thn (ha.run pos pins s σ H _ I h) ?_) hs rfl))
  rintro us s1 ⟨vs, H1, I1, r1, a, xs, ex, hq, q⟩
  subst ex
  cases r1 with
  | cons r rr =>
    cases rr
    cases r
    obtain ⟨its, rv, p', hz⟩ := I1.tuple hq
    have la : a < s1.heap.objs.size := p'.lt
    refine He1.call1 p' fun h' he hit hk => wpAny_pyIter_enum he ?_
    have I2 : Inv X pins σ H1 { s1 with heap := h' } := I1.kept (t' := s1.toks) hk
    refine ⟨s1.heap.objs.size + 1, [s1.heap.objs.size + 1, s1.heap.objs.size], _, _, H1, rfl, I2, turn_enumT a (s1.heap.objs.size + 1) s1.heap.objs.size,
      ⟨⟨.none, he⟩, hit, Nat.succ_ne_self _, Nat.ne_of_lt la, Nat.ne_of_lt (Nat.lt_succ_of_lt la)⟩, ?_, q⟩
    intro b hb
    have hle : s1.heap.objs.size ≤ b := by
      rcases two_of hb with z | z
      · rw [z]; exact Nat.le_add_right _ _
      · rw [z]; exact Nat.le_refl _
    exact I1.fpOk hle (I1.hok.fresh hle)
theorem walk_enumT {K : PySem.W.Frag} {a : Addr} {xs : List V} : Walk (Itet K a) xs.length (fun H => SqT K H a xs) (YPair (fun i => some (.int (i : Nat))) (fun i => xs[i]?)) := by
  refine ⟨fun i _ hi q => ⟨xs, xs[i], q, by simp [hi]⟩, fun _ q => ⟨xs, q, Nat.le_refl _⟩, ?_⟩
  rintro i H v H' _ q ⟨T, x, h1, h2, h3, h4⟩
  exact ⟨T, .int (i : Nat), x, h1, h2, h3, rfl, h4 xs q⟩
end Hg

/-! Data in heaps that grow: what it is, how it is asked. -/
namespace Hg
open PySem L2 Evl
open PySem.Spec PyProof.Rows

section
variable {K : PySem.W.Frag} {H H' : Hp} {v : V} {d : PyData}
mutual
theorem Dd.ex (e : Ex H H') : ∀ {v : V} {d : PyData}, Dd K H v d → Dd K H' v d
  | _, _, .non => .non
  | _, _, .bl b => .bl b
  | _, _, .int i => .int i
  | _, _, .str x => .str x
  | _, _, .lst h ha => .lst (ex_l e h) (ha.ex e)
  | _, _, .tup h ha => .tup (ex_t e h) (ha.ex e)
  | _, _, .dct h ha => .dct (ex_rd e h) (ha.ex e)
theorem DdAll.ex (e : Ex H H') : ∀ {vs : List V} {ds : List PyData}, DdAll K H vs ds → DdAll K H' vs ds
  | _, _, .nil => .nil
  | _, _, .cons h ha => .cons (h.ex e) (ha.ex e)
end
theorem DdAll.get : ∀ {vs : List V} {ds : List PyData} {i : Nat} {v : V}, DdAll K H vs ds → vs[i]? = some v → ∃ d, ds[i]? = some d ∧ Dd K H v d
  | _, _, _, _, .nil, e => by simp at e
  | _, _, 0, _, .cons h _, e => by
    simp at e
    subst e
    exact ⟨_, rfl, h⟩
  | _, _, i + 1, _, .cons _ ha, e => ha.get (i := i) (by simpa using e)
theorem DdAll.append : ∀ {vs ws : List V} {ds es : List PyData}, DdAll K H vs ds → DdAll K H ws es → DdAll K H (vs ++ ws) (ds ++ es)
  | _, _, _, _, .nil, b => b
  | _, _, _, _, .cons h a, b => .cons h (a.append b)

/-- the name of a datum's type -/
def tyD : PyData → String
  | .none => "NoneType"
  | .bool _ => "bool"
  | .int _ => "int"
  | .str _ => "str"
  | .list _ => "list"
  | .tuple _ => "tuple"
  | .dict _ => "dict"
theorem tyX_of (h : Dd K H v d) : TyX K H v (.type (tyD d)) := by
  cases h with
  | non => exact .base .non
  | bl b => exact .base (.bl b)
  | int i => exact .base (.int i)
  | str x => exact .base (.str x)
  | lst hs _ =>
    rcases hs with (h | ⟨o, h⟩) | ⟨o, its, n, h, c, _⟩
    · exact .base (.lst h)
    · exact .base (.frz h)
    · exact .kList h c
  | tup hs _ =>
    rcases hs with (h | ⟨o, h⟩) | ⟨o, its, n, h, c, _⟩
    · exact .base (.tup h)
    · exact .fTuple h
    · exact .kTuple h c
  | dct hs _ =>
    rcases hs with h | ⟨o, h⟩
    · exact .base (.dK h)
    · exact .fDict h
/-- isinstance(d, T), T a built-in type -/
def isT (T : String) (d : PyData) : Bool := (kitB (tyD d) T).getD false
theorem kit_all : (["NoneType", "bool", "int", "str", "list", "tuple", "dict"].all fun n => ["int", "bool", "str", "tuple", "list", "dict"].all fun T => kitB n T == some ((kitB n T).getD false)) = true := by decide +kernel
theorem kit_at (d : PyData) (T : String) (hT : T ∈ ["int", "bool", "str", "tuple", "list", "dict"]) : kitB (tyD d) T = some (isT T d) := by
  have h : tyD d ∈ ["NoneType", "bool", "int", "str", "list", "tuple", "dict"] := by cases d <;> simp [tyD]
  exact beq_iff_eq.mp (List.all_eq_true.mp (List.all_eq_true.mp kit_all _ h) T hT)
theorem kit_int (d : PyData) : kitB (tyD d) "int" = some (isT "int" d) := kit_at d _ (by simp)
theorem kit_bool (d : PyData) : kitB (tyD d) "bool" = some (isT "bool" d) := kit_at d _ (by simp)
theorem kit_str (d : PyData) : kitB (tyD d) "str" = some (isT "str" d) := kit_at d _ (by simp)
theorem kit_tuple (d : PyData) : kitB (tyD d) "tuple" = some (isT "tuple" d) := kit_at d _ (by simp)
theorem rc_isi {T : String} (h : Dd K H v d) (k : kitB (tyD d) T = some (isT T d)) : RC (rIsi K) [v, .ty T] H (.bl (isT T d)) :=
  fun H1 e Q q => ⟨v, .ty T, _, _, _, rfl, .ty T, tyX_of (h.ex e), kit_ty k, q H1 (Ex.refl H1)⟩
/-- isinstance(e, T) -/
theorem ev_isi {te : TE} {σ : L2.St} {T : String} (he : Ev te σ H v) (h : Dd K H v d) (k : kitB (tyD d) T = some (isT T d)) :
    Ev (tCB (rIsi K) (tCons te (tCons (tC (.ty T)) tNil))) σ H (.bl (isT T d)) :=
  ev_cb (ea_cons he (ea_cons ev_c ea_nil)) (rc_isi h k)
def isWhole : PyData → Bool
  | .int _ => true
  | _ => false
def tab (T : String) : List Bool := ["NoneType", "bool", "int", "str", "list", "tuple", "dict"].map fun n => (kitB n T).getD false
theorem tab_int : tab "int" = [false, true, true, false, false, false, false] := by decide +kernel
theorem tab_bool : tab "bool" = [false, true, false, false, false, false, false] := by decide +kernel
theorem tab_str : tab "str" = [false, false, false, true, false, false, false] := by decide +kernel
theorem tab_tuple : tab "tuple" = [false, false, false, false, false, true, false] := by decide +kernel
def tyN : PyData → Nat
  | .none => 0
  | .bool _ => 1
  | .int _ => 2
  | .str _ => 3
  | .list _ => 4
  | .tuple _ => 5
  | .dict _ => 6
theorem isT_tab (T : String) (d : PyData) : some (isT T d) = (tab T)[tyN d]? := by cases d <;> rfl
theorem isT_int (d : PyData) : isT "int" d = (match d with | .int _ => true | .bool _ => true | _ => false) := by
  have h := isT_tab "int" d
  rw [tab_int] at h
  cases d <;> exact Option.some.inj h
theorem isT_bool (d : PyData) : isT "bool" d = (match d with | .bool _ => true | _ => false) := by
  have h := isT_tab "bool" d
  rw [tab_bool] at h
  cases d <;> exact Option.some.inj h
def isTup : PyData → Bool
  | .tuple _ => true
  | _ => false
def isStr : PyData → Bool
  | .str _ => true
  | _ => false
theorem isT_tuple (d : PyData) : isT "tuple" d = isTup d := by
  have h := isT_tab "tuple" d
  rw [tab_tuple] at h
  cases d <;> exact Option.some.inj h
theorem isT_str (d : PyData) : isT "str" d = isStr d := by
  have h := isT_tab "str" d
  rw [tab_str] at h
  cases d <;> exact Option.some.inj h
theorem isWhole_eq (d : PyData) : (isT "int" d && !isT "bool" d) = isWhole d := by
  rw [isT_int, isT_bool]
  cases d <;> rfl
end
/-- a call, to a value -/
theorem ev_d {H : Hp} {σ : L2.St} {sp : Sp} {vs : List V} {E : XK} {ta : TA} {z : V} (h : EvA ta σ H vs) (hs : SpV sp vs H z) : Ev (tCall sp [] E ta) σ H z :=
  ev_call h (by rw [List.append_nil]; exact hs)
/-- a promise: a truth value of the arguments' data -/
def spB (K : PySem.W.Frag) (n : Nat) (pre : List PyData → Prop) (f : List PyData → Bool) : Sp := fun vs H Q _ =>
  ∃ ds, DdAll K H vs ds ∧ ds.length = n ∧ pre ds ∧ ∀ H2, Ex H H2 → Q (.bl (f ds)) H2
theorem spB_go {K : PySem.W.Frag} {H : Hp} {n : Nat} {pre : List PyData → Prop} {f : List PyData → Bool} {vs : List V} {ds : List PyData} (h : DdAll K H vs ds) (hl : ds.length = n) (hp : pre ds) :
    SpV (spB K n pre f) vs H (.bl (f ds)) := fun H1 e Q q E => ⟨ds, h.ex e, hl, hp, q⟩
theorem spB_len {K : PySem.W.Frag} {H : Hp} {n : Nat} {pre : List PyData → Prop} {f : List PyData → Bool} {vs : List V} {Q : VK} {E : XK} (h : spB K n pre f vs H Q E) : vs.length = n := by
  obtain ⟨ds, a, b, _⟩ := h
  rw [a.length, b]
end Hg

/-! Comprehensions over tuples, texts, pairs; all(..); sizes. -/
namespace Hg
open PySem L2 Evl
open PySem.Spec PyProof.Rows

mutual
/-- no list, tuple, text of more than a thousand -/
def small : PyData → Bool
  | .list xs => decide (xs.length ≤ 1000) && smallAll xs
  | .tuple xs => decide (xs.length ≤ 1000) && smallAll xs
  | .str x => decide (x.length ≤ 1000)
  | _ => true
def smallAll : List PyData → Bool
  | [] => true
  | d :: ds => small d && smallAll ds
end
theorem smallAll_mem : ∀ {ds : List PyData} {d : PyData}, smallAll ds = true → d ∈ ds → small d = true
  | [], _, _, h => nomatch h
  | c :: ds, d, s, h => by
    have s' : (small c && smallAll ds) = true := by simpa only [smallAll] using s
    obtain ⟨s1, s2⟩ := Bool.and_eq_true_iff.mp s'
    rcases List.mem_cons.mp h with rfl | h
    · exact s1
    · exact smallAll_mem s2 h
theorem small_tuple {ds : List PyData} (s : small (.tuple ds) = true) : ds.length ≤ 1000 ∧ smallAll ds = true := by
  have s' : (decide (ds.length ≤ 1000) && smallAll ds) = true := by simpa only [small] using s
  obtain ⟨s1, s2⟩ := Bool.and_eq_true_iff.mp s'
  exact ⟨of_decide_eq_true s1, s2⟩
theorem small_str {x : Str} (s : small (.str x) = true) : x.length ≤ 1000 := by
  have s' : decide (x.length ≤ 1000) = true := by simpa only [small] using s
  exact of_decide_eq_true s'

section
variable {K : PySem.W.Frag} {σ : L2.St} {H H' : Hp} {te : TE} {t : TT} {x y z v : V}
theorem et_yes : EvT tYes σ H true := fun H1 e Q q => q H1 (Ex.refl H1)
theorem given_all {n : Nat} {v : Nat → V} : given n (fun _ => true) v = (List.range n).map v := by
  unfold given
  rw [List.filter_eq_self.mpr (fun _ _ => rfl)]
/-- over a tuple -/
theorem el_lcT {a : Addr} {xs : List V} {tl : TE} {j : Nat} {vs : List Nat} (f : Nat → Bool) (v : Nat → V) (h : Ev tl σ H (.ref a)) (hx : SqT K H a xs) (hz : xs.length ≤ 40000)
    (hw : ∀ x, wipe ((wipe σ vs).set j (some x)) vs = wipe σ vs)
    (ht : ∀ (i : Nat) (x : V) H1, Ex H H1 → xs[i]? = some x → EvT t ((wipe σ vs).set j (some x)) H1 (f i))
    (he : ∀ (i : Nat) (x : V) H1, Ex H H1 → xs[i]? = some x → f i = true → Ev te ((wipe σ vs).set j (some x)) H1 (v i)) :
    EvL (tLc (iTup K tl) (gName j) t te vs) σ H (given xs.length f v) := by
  intro H0 e Q q
  refine h H0 e _ fun H1 e1 => ⟨a, rfl, ⟨xs, ex_t (e.trans e1) hx⟩, fun Dl hD => ?_⟩
  refine lc_tup (xs := xs) (Cw H1 f v Dl) ⟨hD, Ex.new hD, upd_same⟩ (fun i H' _ p => ex_t ((e.trans e1).trans p.2.1) hx) ?_ fun H' p => q Dl H' (fresh_back e1 p.1) (e1.trans p.2.1) p.2.2
  intro i x H' hi p
  have hl := (List.getElem?_eq_some_iff.mp hi).1
  exact ⟨hw x, cw_turn p (by omega) (ht i x H1 (e.trans e1) hi) (he i x H1 (e.trans e1) hi)⟩
/-- over a text -/
theorem el_lcS {w : Str} {tl : TE} {j : Nat} {vs : List Nat} (f : Nat → Bool) (v : Nat → V) (h : Ev tl σ H (.str w)) (hz : w.cps.size ≤ 40000)
    (hw : ∀ x, wipe ((wipe σ vs).set j (some x)) vs = wipe σ vs)
    (ht : ∀ (i : Nat) (c : Nat) H1, Ex H H1 → w.cps[i]? = some c → EvT t ((wipe σ vs).set j (some (.str ⟨#[c]⟩))) H1 (f i))
    (he : ∀ (i : Nat) (c : Nat) H1, Ex H H1 → w.cps[i]? = some c → f i = true → Ev te ((wipe σ vs).set j (some (.str ⟨#[c]⟩))) H1 (v i)) :
    EvL (tLc (iStr tl) (gName j) t te vs) σ H (given w.cps.size f v) := by
  intro H0 e Q q
  refine h H0 e _ fun H1 e1 => ⟨w, rfl, fun Dl hD => ?_⟩
  refine lc_it walk_str (Cw H1 f v Dl) ⟨hD, Ex.new hD, upd_same⟩ (fun _ _ _ _ => trivial) ?_ fun H' p => q Dl H' (fresh_back e1 p.1) (e1.trans p.2.1) p.2.2
  rintro i x H' H'' hi p ⟨rfl, c, hc, rfl⟩
  exact ⟨hw _, cw_turn p (by omega) (ht i c H1 (e.trans e1) hc) (he i c H1 (e.trans e1) hc)⟩
/-- over range(n), n perhaps below nought -/
theorem el_lcR1' {ta : TA} {j : Nat} {vs : List Nat} {n : Int} (f : Nat → Bool) (v : Nat → V) (h : EvA ta σ H [.int n]) (hn : -40000 ≤ n ∧ n ≤ 40000) (hw : ∀ x, wipe ((wipe σ vs).set j (some x)) vs = wipe σ vs)
    (ht : ∀ (i : Nat) H1, Ex H H1 → (i : Int) < n → EvT t ((wipe σ vs).set j (some (.int (i : Int)))) H1 (f i))
    (he : ∀ (i : Nat) H1, Ex H H1 → (i : Int) < n → f i = true → Ev te ((wipe σ vs).set j (some (.int (i : Int)))) H1 (v i)) :
    EvL (tLc (iRng1 ta) (gName j) t te vs) σ H (given n.toNat f v) := by
  intro H0 e Q q
  refine h H0 e _ fun H1 e1 => ⟨n, rfl, by omega, by omega, fun Dl hD => ?_⟩
  refine lc_range (lo := 0) (n := n.toNat) (Cw H1 f v Dl) ⟨hD, Ex.new hD, upd_same⟩ ?_ fun H' p => q Dl H' (fresh_back e1 p.1) (e1.trans p.2.1) p.2.2
  intro i H' hi p
  have e0 : (0 : Int) + (i : Int) = (i : Int) := Int.zero_add _
  rw [e0]
  exact ⟨hw _, cw_turn p (by omega) (ht i H1 (e.trans e1) (by omega)) (he i H1 (e.trans e1) (by omega))⟩
theorem ev_all {bs : List Bool} (h : EvL te σ H (bs.map V.bl)) : Ev (tCB (rAll K) (tCons te tNil)) σ H (.bl (bs.all id)) := by
  intro H1 e Q q
  refine h H1 e _ fun p H2 _ e2 hp => ?_
  exact ⟨p, bs, rfl, sq_of hp, q H2 e2⟩
/-- a op1 b op2 c, values; b once -/
theorem ev_chain {r r' : R2} {ta tb tc : TE} {p q : Bool} (ha : Ev ta σ H x) (hb : Ev tb σ H y) (hc : p = true → Ev tc σ H z) (h1 : RV r x y H (.bl p)) (h2 : p = true → RV r' y z H (.bl q)) :
    Ev (tChain r r' ta tb tc) σ H (.bl (p && q)) := by
  intro H1 e Q k
  refine ha H1 e _ fun H2 e2 => hb H2 (e.trans e2) _ fun H3 e3 => h1 H3 ((e.trans e2).trans e3) _ fun H4 e4 => ⟨p, rfl, ?_⟩
  have e14 := (e2.trans e3).trans e4
  cases p with
  | true => exact iteT (hc rfl H4 (e.trans e14) _ fun H5 e5 => h2 rfl H5 ((e.trans e14).trans e5) Q fun H6 e6 => k H6 ((e14.trans e5).trans e6))
  | false => exact iteF (k H4 e14)
/-- len -/
theorem ev_lenT {a : Addr} {xs : List V} (h : Ev te σ H (.ref a)) (hx : SqT K H a xs) : Ev (tCB (fun vs H Q => ∃ x n, vs = [x] ∧ LenV K x H n ∧ Q (.int n) H) (tCons te tNil)) σ H (.int xs.length) := by
  intro H1 e Q q
  refine h H1 e _ fun H2 e2 => ⟨_, xs.length, rfl, Or.inr ⟨xs, ex_t (e.trans e2) hx, rfl⟩, q H2 e2⟩
theorem ev_lenS {w : Str} (h : Ev te σ H (.str w)) (hz : w.length ≤ 1000) : Ev (tCB (fun vs H Q => ∃ x n, vs = [x] ∧ LenV K x H n ∧ Q (.int n) H) (tCons te tNil)) σ H (.int w.length) := by
  intro H1 e Q q
  exact h H1 e _ fun H2 e2 => ⟨_, w.length, rfl, ⟨Nat.le_of_lt (small1000 hz), rfl⟩, q H2 e2⟩
end
section
variable {X : Cx}
/-! rules that read the written part, for a block (its K is the def's) -/
theorem ix_tupK (K : PySem.W.Frag) (h : X.K = K := by rfl) : IxR X (rIxT K) := h ▸ ix_tup
theorem ix_listK (K : PySem.W.Frag) (h : X.K = K := by rfl) : IxR X (rIxL K) := h ▸ ix_list
theorem call_isiAt (K : PySem.W.Frag) (h : X.K = K := by rfl) : CallR X (.builtin "isinstance") (rIsi K) := h ▸ call_isi
theorem pg_tupK (K : PySem.W.Frag) {es : List Expr} {k : Nat} {pos : Pos} {t : TGs} {n : Nat} (hc : X.calm = true) (hh : PGs X es t)
    (hn : (assignEach es X.env).length = n := by rfl) (hst : (assignEach es X.env).findIdx? (·.1) = none := by rfl) (h : X.K = K := by rfl) : PG X (.Tuple es k pos) (gTup K n t) := h ▸ pg_tup hc hh hn hst
theorem op_inK (K : PySem.W.Frag) (h : X.K = K := by rfl) : OpR X (compareOp .In) (rIn K false) := h ▸ op_in_seq
theorem op_ninK (K : PySem.W.Frag) (h : X.K = K := by rfl) : OpR X (compareOp .NotIn) (rIn K true) := h ▸ op_notIn_seq
end
end Hg

/-! error classes of the program that stand, over further ones of its own, upon Exception, and keep what they are given -/
namespace Hx
open PySem L2 PySem.W PySem.Builtin PySem.Builtin.ObjectAttr
/-- what comes last of such a class -/
abbrev exLast : List Value := [.type "Exception", .type "BaseException", .type "object"]
/-- an error class at C whose own `__init__` is the def at f -/
structure Err (K : PySem.W.Frag) (C f : Addr) : Prop where
  made : PySem.W.excInitIn K C exLast "Exception.__new__" = true
  over : PySem.W.excOver K C exLast = true
  dict : PySem.W.hasDictIn K C = true
  put : PySem.W.findIn K (.ref C) "__setattr__" = some (some (.builtin "object.__setattr__"))
  base : PySem.W.subIn K (.ref C) (.type "BaseException") = some true
  type : PySem.W.typeIn K (.ref C) = some (.type "type")
  keep : PySem.W.keepIn K (.ref C) = true
  init : PySem.W.findIn K (.ref C) "__init__" = some (some (.ref f))
  fn : PySem.W.typeIn K (.ref f) = some (.type "function")
section
variable {prog : Program} {w : World} {A : Around} {E : Value → Shared → Prop} {K : PySem.W.Frag} {hp : Heap} {g : Array GenState} {d : Drawn} {t : Nat} {os : OsState} {a C : Addr} {name : Str} {tk : Tok} {v : Value} {fv : Array Value} {b : Bool} {Q : Fin → Shared → Prop}
/-- the store into an object that has no dict as yet: it gets one -/
theorem store_first (X : K.In hp) (hd : PySem.W.hasDictIn K C = true) (ho : hp.get? a = some { cls := .ref C, data := .fields fv })
    (go : ∀ h' tk', (∀ c o, c ≠ a → hp.get? c = some o → h'.get? c = some o) → h'.get? a = some { cls := .ref C, dict := some hp.objs.size, data := .fields fv } → h'.Ns1 hp.objs.size (fun y => if y = name then some v else none) → Q (.done (.ret .none)) ⟨h', g, d, tk', os⟩) :
    wpAny (model prog w) A (storeInOwnDict (.ref a) (.ref C) (.str name tk) name v b) Q E ⟨hp, g, d, t, os⟩ := by
  have ne : hp.objs.size ≠ a := Nat.ne_of_gt (Heap.lt_size ho)
  obtain ⟨cd, hc, has⟩ := any_some hd
  have look : PySem.W.Looks (model prog w) hp (classData C) cd := looks_clsIn X hc
  obtain ⟨c1, c2, c3, c4, c5, c6, c7, c8, c9, c10, c11⟩ := cd
  have has : c6 = true := has
  subst has
  unfold storeInOwnDict ownDictForStores
  repeat (first | with_reducible refine HandSPX.store_in_new ?_ ?_ | with_reducible refine wpAny_loadPart_at ho ?_ | with_reducible refine look.at ?_ | wp_step)
  · refine ⟨_, #[], _, (Heap.get?_update_ne _ _ _ _ ne).trans (Heap.get?_push_at rfl rfl), rfl, ?_, fun _ => rfl⟩
    intro e he
    exact absurd he (by simp)
  · intro h' tk' ns same
    have old := Heap.get?_push_of_some { cls := .type "dict", data := .dict #[] } ho
    refine go h' tk' (fun c o hca hco => ?_) ((same.2 a ne.symm).trans (Heap.get?_update_self _ old rfl)) ns
    rw [same.2 c (Nat.ne_of_lt (Heap.lt_size hco)), Heap.get?_update_ne _ _ _ _ hca]
    exact Heap.get?_push_of_some _ hco
end
section
open PySem.Spec PyProof.Rows
variable {X : Cx} {pins : List (Addr × Obj)} {σ : L2.St} {H : Hp} {a C f₀ : Addr}
/-- an error gets its dict -/
theorem grown {hp h' : Heap} {g : Array GenState} {d : Drawn} {t t' : Nat} {os : OsState} {fs : List (Str × V)} {m : Str → Option Value} {u : Addr} (I : Inv X pins σ H ⟨hp, g, d, t, os⟩) (e : H a = some (exo a C none))
    (k : ∀ c o, c ≠ a → hp.get? c = some o → h'.get? c = some o) (ha : h'.get? a = some ({ cls := .ref C, dict := some hp.objs.size, data := .fields #[.ref u, .none, .none, .none, .bool false, .none] } : Obj)) (ns : h'.Ns1 hp.objs.size m)
    (r : ∀ z, RelO (fs.lookup z) (m z)) : Inv X pins σ (upd (upd H hp.objs.size (exd hp.objs.size fs)) a (exo a C (some hp.objs.size))) ⟨h', g, d, t', os⟩ := by
  have nD : H hp.objs.size = none := I.hok.fresh (Nat.le_refl _)
  have off : ∀ {c : Addr} {o : HO}, H c = some o → o ≠ exo a C none → c ≠ a ∧ c ≠ hp.objs.size := by
    intro c o hc ne
    constructor <;> intro z <;> subst z
    · rw [e] at hc; exact ne (Option.some.inj hc).symm
    · rw [nD] at hc; cases hc
  have un0 : ∀ {c : Addr}, H c = none → c ≠ a := by
    intro c hc z
    rw [z, e] at hc; cases hc
  have old : ∀ {c : Addr} {o : HO}, H c = some o → o ≠ exo a C none → (upd (upd H hp.objs.size (exd hp.objs.size fs)) a (exo a C (some hp.objs.size))) c = some o := by
    intro c o hc ne
    obtain ⟨z1, z2⟩ := off hc ne
    rw [upd_ne z1, upd_ne z2, hc]
  have older : ∀ {c : Addr} {o : Obj}, hp.get? c = some o → c ≠ hp.objs.size := fun hc => Nat.ne_of_lt (Heap.lt_size hc)
  refine I.un (t' := t') ⟨fun c o hc n _ _ => k c o (un0 n) hc, fun c o hc n _ _ => ⟨o.slots, k c o (un0 n) hc⟩, fun c o hc n _ => ?_, fun c o hc _ => ?_, fun c xs hc => old hc exo_tup.symm, fun c o v hc => old hc exo_frz.symm, fun c ps hc => ⟨#[], ?_⟩⟩ ?_
  · rw [upd_ne (un0 n), upd_ne (older hc)]; exact n
  · by_cases z : c = a
    · subst z; exact ⟨_, ha⟩
    · exact ⟨o, k c o z hc⟩
  · rw [old hc exo_tbl.symm, Array.append_empty]
  · intro c o hc
    by_cases z1 : c = a
    · subst z1
      rw [upd_same] at hc; cases hc
      exact exo_ok ha
    rw [upd_ne z1] at hc
    by_cases z2 : c = hp.objs.size
    · subst z2
      rw [upd_same] at hc; cases hc
      exact exd_ok ns r
    rw [upd_ne z2] at hc
    refine (I.hok c o hc).stay (fun y v hy hv => k y v ?_ hv) (fun y hy => old hy exo_own.symm) (fun y xs hy => old hy exo_tup.symm)
    rcases hy with hy | hy
    · rw [hy]; exact z1
    · exact (off hy exo_own.symm).1
/-- `self.part = part` -/
theorem put_ok {s : Shared} {A : Around} {E : Value → Shared → Prop} {name : Str} {y : V} {u : Value} {Q : Unit → Shared → Prop} (T : Err X.K C f₀) (no : PySem.W.takerIn X.K C name = some none) (I : Inv X pins σ H s) (e : H a = some (exo a C none)) (ry : RelV y u)
    (go : ∀ D s', H D = none → D ≠ a → Inv X pins σ (upd (upd H D (exd D [(name, y)])) a (exo a C (some D))) s' → Q () s') : wpAny (model X.prog X.w) A (setAttr (.ref a) name u) Q E s := by
  obtain ⟨hp, g, d, t, os⟩ := s
  obtain ⟨t0, ho⟩ := exo_at I.hok e
  have ho : hp.get? a = some ({ cls := .ref C, dict := none, data := .fields #[.ref t0, .none, .none, .none, .bool false, .none] } : Obj) := ho
  have at_ : PySem.W.InstAt hp a { cls := .ref C, dict := none, data := .fields #[.ref t0, .none, .none, .none, .bool false, .none] } C none := ⟨ho, rfl, rfl, trivial⟩
  refine set_plain I.kIn at_ T.put (osa_openX PySem.F.store_Exception I.kIn at_ T.over no fun b => ?_)
  refine store_first I.kIn T.dict ho fun h' tk' k ha ns => ?_
  exact go hp.objs.size _ (I.hok.fresh (Nat.le_refl _)) (Nat.ne_of_gt (Heap.lt_size ho)) (grown I e k ha ns fun z => relO_put (fs := []) (mA := fun _ => none) ry (fun _ => True.intro) z)
end
section
open PySem.Spec PyProof.Rows
variable {X : Cx} {C f₀ : Addr} {name x : Str} {o e : Expr} {es : List Expr} {to te : TE} {ta : TA} {p p' pos pos' : Pos}
/-- what is read of `o.name = e`, `o` an error that has nothing as yet -/
def tPut (K : PySem.W.Frag) (name : Str) (to te : TE) : TS := fun D σ H => te σ H fun y H1 => to σ H1 fun z H2 => ∃ a C f : Addr, z = .ref a ∧ Err K C f ∧ PySem.W.takerIn K C name = some none ∧ H2 a = some (exo a C none) ∧
  ∀ d, H2 d = none → d ≠ a → D.nx σ (upd (upd H2 d (exd d [(name, y)])) a (exo a C (some d)))
theorem ps_put (ho : PE X o to) (he : PE X e te) (hs : swapsWith e (some (.Attribute o name p')) pos.line X.env = pure false := by rfl) : PS X (.Assign [.Attribute o name p'] e pos) (tPut X.K name to te) := by
  refine ⟨fun pins s σ H D I h => plainObj_wpAny_Assign_Attribute (thn (he.run pins s σ H _ I h) ?_) hs⟩
  intro u s1 hy
  obtain ⟨y, H1, I1, ry, hy⟩ := hy
  refine thn (ho.run pins s1 σ H1 _ I1 hy) ?_
  intro v s2 hz
  obtain ⟨z, H2, I2, rz, a, C, f, ez, T, no, ea, k⟩ := hz
  subst ez
  cases rz
  exact put_ok T no I2 ea ry fun d s' n1 n2 J => ⟨σ, _, J, k d n1 n2⟩
/-- what an `__init__` that keeps its one argument promises -/
def spKeep (K : PySem.W.Frag) (name : Str) : Sp := fun vs H Q _ => ∃ (a C f : Addr) (y : V), vs = [.ref a, y] ∧ Err K C f ∧ PySem.W.takerIn K C name = some none ∧ H a = some (exo a C none) ∧
  ∀ d, H d = none → d ≠ a → Q .non (upd (upd H d (exd d [(name, y)])) a (exo a C (some d)))
/-- an error made: its own `__init__` keeps the promise sp -/
theorem run_err {CX : CXT} {k : Nat} {fd : FuncData} {ps : List Str} {sp : Sp} {pins : List (Addr × Obj)} {σ : L2.St} {H1 : Hp} {s1 : Shared} {vs : List V} {us : List Value} {Q : XK} (T : Err X.K C f₀)
    (F : FnOk X.prog X.w X.K X.mg X.base CX k f₀ fd ps sp) (hr : Room (k + 1) X.A) (hb : Binds X.K fd ps []) (hx : Passes CX X (fun _ _ _ => False)) (I1 : Inv X pins σ H1 s1) (rv : Vals vs us) (few : vs.length ≤ 1000)
    (ask : ∀ a, H1 a = none → sp (.ref a :: vs) (upd H1 a (exo a C none)) (fun v H2 => v = .non ∧ ∃ (d : Addr) (fs : List (Str × V)), H2 a = some (exo a C (some d)) ∧ H2 d = some (exd d fs) ∧ H1 d = none ∧ Q (.ref C) (some d) (upd (del H2 a) d (.xd fs))) (fun _ _ _ => False)) :
    wpAny (model X.prog X.w) X.A (call (.ref C) us) (MkP X pins σ Q) X.xe s1 := by
  obtain ⟨nm, N, qn, bs, bm, c1, c2, c3, c4, c5, c6, k0, k1, k2, k3, k5, oC, tl⟩ := excInit_of I1.kIn T.made
  obtain ⟨hp, g, dr, tk, os⟩ := s1
  have hsz : hp.objs.size ≤ hp.objs.size + 1 := Nat.le_succ _
  have free : H1 (hp.objs.size + 1) = none := I1.hok.fresh hsz
  have keep2 : ∀ b o, hp.get? b = some o → ((hp.push (PySem.W.kdv_tup us)).push (HandSPX.excO C hp.objs.size)).get? b = some o :=
    fun b o z => Heap.get?_push_of_some _ (Heap.get?_push_of_some _ z)
  have here : ((hp.push (PySem.W.kdv_tup us)).push (HandSPX.excO C hp.objs.size)).get? (hp.objs.size + 1) = some (HandSPX.excO C hp.objs.size) := by heap_get
  have I2 : Inv X pins σ (upd H1 (hp.objs.size + 1) (exo (hp.objs.size + 1) C none)) ⟨(hp.push (PySem.W.kdv_tup us)).push (HandSPX.excO C hp.objs.size), g, dr, tk, os⟩ := I1.laid (t' := tk) keep2 hsz (exo_ok here)
  have fits : us.length ≤ sizeLine := by
    have := Paired.length rv
    rw [sizeLine_eq]; omega
  have q0 := ask (hp.objs.size + 1) free
  have r2 : Vals (V.ref (hp.objs.size + 1) :: vs) (Value.ref (hp.objs.size + 1) :: us) := .cons rfl rv
  have len : (Value.ref (hp.objs.size + 1) :: us).length = ps.length := r2.length.symm.trans (F.len _ _ _ _ q0)
  have bound := hb ⟨(hp.push (PySem.W.kdv_tup us)).push (HandSPX.excO C hp.objs.size), g, dr, tk, os⟩ (Value.ref (hp.objs.size + 1) :: us) I2.kIn (by rw [List.append_nil]; exact len)
  rw [List.append_nil] at bound
  refine wpAny_call (HandSPX.call_own PySem.F.excBase_Exception tl oC (looks_findIn I1.kIn T.init) (fun self => bind_fn I1.kIn self T.fn) fits ?_)
  refine codeAny_mono (F.run _ X.stack _ _ ⟨Value.ref (hp.objs.size + 1) :: us, []⟩ (Value.ref (hp.objs.size + 1) :: us) _ _ (fun _ _ _ => False) (hr.make C us []) (I2.env0.make C us []) bound r2 q0) ?_
  intro r s' out
  cases r with
  | error er => exact hx pins σ _ _ er s' I2 out
  | ok fl =>
    cases fl with
    | ret u =>
      obtain ⟨v, H2, oseq, bare, un, ok2, rr, ev, d, fs, e1, e2, e3, q3⟩ := out
      subst ev
      obtain ⟨h2, g2, d2, t2, o2⟩ := s'
      exact ⟨rr, mk_end (raises_own T.base T.type) I1 hsz keep2 un ok2 oseq bare e1 e2 e3 q3⟩
    | next => exact False.elim out
    | brk => exact False.elim out
    | cont => exact False.elim out
theorem del_back {H : Hp} {a d : Addr} {u v w z : HO} (n : H a = none) (ne : d ≠ a) : upd (del (upd (upd (upd H a u) d v) a w) a) d z = upd H d z := by
  funext c
  by_cases e1 : c = d
  · rw [e1, upd_same, upd_same]
  · rw [upd_ne e1, upd_ne e1]
    by_cases e2 : c = a
    · rw [e2, del_same, n]
    · rw [del_ne e2, upd_ne e2, upd_ne e1, upd_ne e2]
/-- C(e), to be raised: it keeps e under a name -/
theorem mk_keep {CX : CXT} {k : Nat} {fd : FuncData} {ps : List Str} (T : Err X.K C f₀) (no : PySem.W.takerIn X.K C name = some none) (F : FnOk X.prog X.w X.K X.mg X.base CX k f₀ fd ps (spKeep X.K name)) (hr : Room (k + 1) X.A) (hb : Binds X.K fd ps [])
    (hx : Passes CX X (fun _ _ _ => False)) (hg : Gl X x) (hm : X.mg x = some (.ref C)) (he : PE X e te) (hdb : (x == ("__debug__" : Str)) = false := by decide) (hst : starEach [e] X.env = (false, eval e X.env) :: starEach [] X.env := by rfl)
    (hpl : (backTo pos (starEach [] X.env)).any (·.1) = false := by rfl) :
    PMk X (.Call (.Name x p) [e] [] pos) (fun σ H Q => te σ H fun y H1 => ∀ d, H1 d = none → Q (.ref C) (some d) (upd H1 d (.xd [(name, y)]))) := by
  intro pins s σ H Q I h
  refine wpAny_Call_Name_kw (ld_glob I hg hm ?_ hdb)
  refine PySem.W.callWith_K (h₀ := X.base) I.ok.mod.kin T.keep (thn ((pa_cons (hs := hst) he pa_nil).run pos pins s σ H (fun vs H1 => match vs with | [y] => ∀ d, H1 d = none → Q (.ref C) (some d) (upd H1 d (.xd [(name, y)])) | _ => False) I h) ?_) hst hpl
  intro us s1 got
  obtain ⟨vs, H1, I1, rv, ask⟩ := got
  refine ⟨I1.kIn, ?_⟩
  match vs, ask with
  | [y], ask =>
    refine run_err T F hr hb hx I1 rv (by show 1 ≤ 1000; omega) fun a free => ⟨a, C, f₀, y, rfl, T, no, upd_same, fun d hd ne => ⟨rfl, d, [(name, y)], upd_same, ?_, ?_, ?_⟩⟩
    · rw [upd_ne ne, upd_same]
    · rwa [upd_ne ne] at hd
    · rw [del_back free ne]
      rw [upd_ne ne] at hd
      exact ask d hd
/-- `raise C(e)` -/
theorem ps_err {CX : CXT} {k : Nat} {fd : FuncData} {W : WX} {ps : List Str} (hc : X.calm = true) (tk : Takes X W) (T : Err X.K C f₀) (no : PySem.W.takerIn X.K C name = some none) (F : FnOk X.prog X.w X.K X.mg X.base CX k f₀ fd ps (spKeep X.K name)) (hr : Room (k + 1) X.A)
    (hb : Binds X.K fd ps []) (hx : Passes CX X (fun _ _ _ => False)) (hg : Gl X x) (hm : X.mg x = some (.ref C)) (he : PE X e te) (hdb : (x == ("__debug__" : Str)) = false := by decide) (hst : starEach [e] X.env = (false, eval e X.env) :: starEach [] X.env := by rfl)
    (hpl : (backTo pos (starEach [] X.env)).any (·.1) = false := by rfl) :
    PS X (.Raise (some (.Call (.Name x p) [e] [] pos)) none pos') (fun _ σ H => te σ H fun y H1 => ∀ d, H1 d = none → W (.ref C) (some d) σ (upd H1 d (.xd [(name, y)]))) :=
  ps_raise (pos := pos') hc tk (mk_keep T no F hr hb hx hg hm he hdb hst hpl)
end
end Hx

/-! own error classes made by keywords: BaseException.__new__ leaves the keywords alone, the own `__init__` takes them -/
namespace Hx
open PySem PySem.HandSPX
open PySem.W (Looks InitBack)
section
variable {M : Model} {prog : Program} {w : World} {A : Around} {E : Value → Shared → Prop} {R : Result → Shared → Prop} {h : Heap} {g : Array GenState} {d : Drawn} {t : Nat} {os : OsState}
variable {nm q : Str} {C N : Addr} {bs bm bmB : List Value} {hdct : Bool} {sn : List Str} {sub : List Value} {ab : Bool} {col : Option Bool} {dd : Option Addr} {k0 k1 k2 k3 k5 : Option Value} {B newId initId : String}
theorem kw_check (F : ExcBaseFacts B newId initId bmB) (hT : ∀ X : String, bm.contains (.type X) = bmB.contains (.type X)) {rest : List Value} {kw : List (Str × Value)} {Q : Unit → Shared → Prop}
    (hC : h.get? C = some (excClassObj nm q C N bs bm hdct sn sub ab col dd k0 k1 k2 k3 k5 newId)) (hq : Q () ⟨h, g, d, t, os⟩) : wpAny M A (checkBuiltinCall newId ⟨.ref C :: rest, kw⟩) Q E ⟨h, g, d, t, os⟩ := by
  have c1 : (Value.ref C :: bm).contains (.type B) = true := by rw [List.contains_cons, hT, F.hasB, Bool.or_true]
  have c2 := F.noStar
  simp only [checkBuiltinCall, F.newKind, F.newSplit, F.newRow]
  repeat (first | refine wpAny_loadPart_at hC ?_ | (refine wpAny_isSubtype_exc hC ?_; rw [c1]) | refine wpAny_staticBase_exc hC ?_ | refine wpAny_madeBy_exc hC ?_ | simp only [bne_self_eq_false, Bool.false_eq_true, if_false] | wp_step)
  exact hq
theorem kw_new (F : ExcBaseFacts B newId initId bmB) (hT : ∀ X : String, bm.contains (.type X) = bmB.contains (.type X)) {rest : List Value} {kw : List (Str × Value)}
    (hC : h.get? C = some (excClassObj nm q C N bs bm hdct sn sub ab col dd k0 k1 k2 k3 k5 newId)) (hr : rest.length ≤ sizeLine)
    (hq : R (.ok (.ret (.ref (h.objs.size + 1)))) ⟨(h.push (PySem.W.kdv_tup rest)).push (excO C h.objs.size), g, d, t, os⟩) :
    codeAny (model prog w) A (.builtin newId ⟨.ref C :: rest, kw⟩) R ⟨h, g, d, t, os⟩ := by
  have e0 := F.ends
  have e1 : (Value.ref C :: bm).contains (.type B) = true := by rw [List.contains_cons, hT, F.hasB, Bool.or_true]
  have e2 : (Value.ref C :: bm).contains (.type "AttributeError") = false := by rw [List.contains_cons, hT, F.noAttr]; rfl
  have e3 : (Value.ref C :: bm).contains (.type "NameError") = false := by rw [List.contains_cons, hT, F.noName]; rfl
  refine codeAny_builtinAt F.entry ?_
  unfold Builtin.«BaseException.__new__»
  refine wpAt_bind ?_
  show wpAt _ _ _ (stack >>= _) _ _ _
  refine wpAt_bind (wpAt_stack fun p below => wpAt_of_wpAny ?_)
  wp_walk
  refine wpAt_of_wpAny ?_
  rw [F.owner]
  repeat (first | with_reducible refine wpAny_madeHere_exc F.canon hC ?_ | with_reducible refine wpAny_loadPart_at hC ?_ | (with_reducible refine wpAny_isSubtype_exc hC ?_; first | rw [e1] | rw [e2] | rw [e3]) | wp_step)
  show R _ _
  rw [Heap.size_push]
  exact hq
theorem kw_type (F : ExcBaseFacts B newId initId bmB) (hT : ∀ X : String, bm.contains (.type X) = bmB.contains (.type X)) {rest : List Value} {kw : List (Str × Value)} {fI : Addr} {Q : PySem.Fin → Shared → Prop}
    (hC : h.get? C = some (excClassObj nm q C N bs bm hdct sn sub ab col dd k0 k1 k2 k3 k5 newId)) (hi : Looks (model prog w) h (typeLookup (.ref C) "__init__") (some (.ref fI))) (hb : ∀ self, Looks (model prog w) h (bindSpecial (.ref fI) self) (.ref fI, [self]))
    (hr : rest.length ≤ sizeLine)
    (hq : codeAny (model prog w) A (.call (.ref fI) ⟨.ref (h.objs.size + 1) :: rest, kw⟩) (fun r s' => match r with | .ok (.ret v) => v = .none ∧ Q (.done (.ret (.ref (h.objs.size + 1)))) s' | .ok _ => False | .error e => E e s')
      ⟨(h.push (PySem.W.kdv_tup rest)).push (excO C h.objs.size), g, d, t, os⟩) :
    wpAny (model prog w) A (Builtin.«type.__call__» ⟨.ref C :: rest, kw⟩) Q E ⟨h, g, d, t, os⟩ := by
  repeat (first | with_reducible refine wpAny_loadPart_at hC ?_ | with_reducible refine wpAny_madeBy_exc hC ?_ | wp_step)
  refine codeAny_call_builtin_code (Code.quiet_builtin _ F.quiet) (kw_check F hT hC ?_)
  refine kw_new F hT hC hr ?_
  show wpAny _ _ _ _ _ _
  have k : ∀ b o, h.get? b = some o → ((h.push (PySem.W.kdv_tup rest)).push (excO C h.objs.size)).get? b = some o := fun b o e => Heap.get?_push_of_some _ (Heap.get?_push_of_some _ e)
  have hC1 := k _ _ hC
  have hge : ((h.push (PySem.W.kdv_tup rest)).push (excO C h.objs.size)).get? (h.objs.size + 1) = some (excO C h.objs.size) := by heap_get
  have hcC : (Value.ref C :: bm).contains (.ref C) = true := by simp
  have i1 := hi.keeps k
  have b1 := (hb (.ref (h.objs.size + 1))).keeps k
  unfold isInstance
  repeat (first | with_reducible refine wpAny_loadPart_at hge ?_ | (with_reducible refine wpAny_isSubtype_exc hC1 ?_; rw [hcC]) | wp_step)
  show wpAny _ _ (typeLookup (.ref C) _) _ _ _
  refine i1.at ?_
  refine wpAny_holding (wpAny_bind (b1.at ?_))
  refine wpAny_bind (wpAny_call (codeAny_mono hq fun r s' z => ?_))
  rcases r with e | (v | _ | _ | _) <;> first | exact z | exact z.elim | skip
  obtain ⟨rfl, z⟩ := z
  first
    | exact wpAny_pure (wpAny_pure z)
    | (wp_walk; exact z)
theorem kw_check_type {rest : List Value} {kw : List (Str × Value)} {Q : Unit → Shared → Prop} (hC : h.get? C = some (excClassObj nm q C N bs bm hdct sn sub ab col dd k0 k1 k2 k3 k5 newId)) (hq : Q () ⟨h, g, d, t, os⟩) :
    wpAny M A (checkBuiltinCall "type.__call__" ⟨.ref C :: rest, kw⟩) Q E ⟨h, g, d, t, os⟩ := by
  exact wpAny_check_type_call_sub hC hq
/-- C(.., k = v, ..) -/
theorem kw_call (F : ExcBaseFacts B newId initId bmB) (hT : ∀ X : String, bm.contains (.type X) = bmB.contains (.type X)) {rest : List Value} {kw : List (Str × Value)} {fI : Addr}
    (hC : h.get? C = some (excClassObj nm q C N bs bm hdct sn sub ab col dd k0 k1 k2 k3 k5 newId)) (hi : Looks (model prog w) h (typeLookup (.ref C) "__init__") (some (.ref fI))) (hb : ∀ self, Looks (model prog w) h (bindSpecial (.ref fI) self) (.ref fI, [self]))
    (hr : rest.length ≤ sizeLine)
    (hq : codeAny (model prog w) (A.under (.builtin "type.__call__" ⟨.ref C :: rest, kw⟩)) (.call (.ref fI) ⟨.ref (h.objs.size + 1) :: rest, kw⟩) (InitBack (h.objs.size + 1) R) ⟨(h.push (PySem.W.kdv_tup rest)).push (excO C h.objs.size), g, d, t, os⟩) :
    codeAny (model prog w) A (.call (.ref C) ⟨rest, kw⟩) R ⟨h, g, d, t, os⟩ := by
  have f1 := tc_lookup
  have f2 := tc_bind (.ref C)
  have hTy : (⟨h, g, d, t, os⟩ : Shared).TypeIs (.ref C) "type" := ⟨_, hC, rfl⟩
  refine codeAny_of_tree ?_
  show wpAny _ _ (callAny (.ref C) _) _ _ _
  repeat (any_goals (first | assumption | with_reducible refine wpAny_loadPart_at hC ?_ | wp_step))
  refine ⟨rfl, ?_⟩
  refine codeAny_call_builtin_at (Code.quiet_builtin _ (by decide +kernel)) entry_typeCall (kw_check_type hC (kw_type F hT hC hi hb hr ?_))
  refine codeAny_mono hq fun r s' z => ?_
  rcases r with e | (v | _ | _ | _) <;> exact z
end
end Hx

/-! errors of own classes as values: C(e), C(k = e), C() -/
namespace Hx
open PySem L2 PySem.W PySem.Builtin PySem.Builtin.ObjectAttr
section
open PySem.Spec PyProof.Rows
variable {X : Cx} {C f₀ : Addr} {name x : Str} {o e : Expr} {es : List Expr} {to te : TE} {ta : TA} {p p' pos pos' kpos : Pos} {kws : List Keyword}
/-- an error made, and held -/
theorem run_val {CX : CXT} {k : Nat} {fd : FuncData} {ps : List Str} {sp : Sp} {pins : List (Addr × Obj)} {σ : L2.St} {H1 : Hp} {s1 : Shared} {vs : List V} {us zs : List Value} {kw : List (Str × Value)} {Q : VK} (T : Err X.K C f₀)
    (F : FnOk X.prog X.w X.K X.mg X.base CX k f₀ fd ps sp) (hr : Room (k + 1) X.A) (hb : ∀ (s : Shared) (y : Value), X.K.In s.heap → BindsTo s fd ⟨y :: us, kw⟩ (ps.zip (y :: zs))) (hx : Passes CX X (fun _ _ _ => False)) (I1 : Inv X pins σ H1 s1) (rv : Vals vs zs) (few : us.length ≤ 1000)
    (ask : ∀ a, H1 a = none → sp (.ref a :: vs) (upd H1 a (exo a C none)) (fun v H2 => v = .non ∧ Q (.ref a) H2) (fun _ _ _ => False)) :
    wpAny (model X.prog X.w) X.A (call (.ref C) us kw) (EP X pins σ Q) X.xe s1 := by
  obtain ⟨nm, N, qn, bs, bm, c1, c2, c3, c4, c5, c6, k0, k1, k2, k3, k5, oC, tl⟩ := excInit_of I1.kIn T.made
  obtain ⟨hp, g, dr, tk, os⟩ := s1
  have hsz : hp.objs.size ≤ hp.objs.size + 1 := Nat.le_succ _
  have free : H1 (hp.objs.size + 1) = none := I1.hok.fresh hsz
  have keep2 : ∀ b o, hp.get? b = some o → ((hp.push (PySem.W.kdv_tup us)).push (HandSPX.excO C hp.objs.size)).get? b = some o :=
    fun b o z => Heap.get?_push_of_some _ (Heap.get?_push_of_some _ z)
  have here : ((hp.push (PySem.W.kdv_tup us)).push (HandSPX.excO C hp.objs.size)).get? (hp.objs.size + 1) = some (HandSPX.excO C hp.objs.size) := by heap_get
  have I2 : Inv X pins σ (upd H1 (hp.objs.size + 1) (exo (hp.objs.size + 1) C none)) ⟨(hp.push (PySem.W.kdv_tup us)).push (HandSPX.excO C hp.objs.size), g, dr, tk, os⟩ := I1.laid (t' := tk) keep2 hsz (exo_ok here)
  have fits : us.length ≤ sizeLine := by
    rw [sizeLine_eq]; omega
  have q0 := ask (hp.objs.size + 1) free
  have r2 : Vals (V.ref (hp.objs.size + 1) :: vs) (Value.ref (hp.objs.size + 1) :: zs) := .cons rfl rv
  refine wpAny_call (kw_call PySem.F.excBase_Exception tl oC (looks_findIn I1.kIn T.init) (fun self => bind_fn I1.kIn self T.fn) fits ?_)
  refine codeAny_mono (F.run _ X.stack _ _ ⟨Value.ref (hp.objs.size + 1) :: us, kw⟩ (Value.ref (hp.objs.size + 1) :: zs) _ _ (fun _ _ _ => False) (hr.make C us kw) (I2.env0.make C us kw) (hb _ _ I2.kIn) r2 q0) ?_
  intro r s' out
  cases r with
  | error er => exact hx pins σ _ _ er s' I2 out
  | ok fl =>
    cases fl with
    | ret u =>
      obtain ⟨v, H', I3, rv, ev, q3⟩ := I2.after out
      subst ev
      exact ⟨rv, ⟨V.ref (hp.objs.size + 1), H', I3, rfl, q3⟩⟩
    | next => exact False.elim out
    | brk => exact False.elim out
    | cont => exact False.elim out
/-- what an error that keeps y asks -/
def AskE (C : Addr) (name : Str) (y : V) (Q : VK) (H : Hp) : Prop := ∀ a d, H a = none → H d = none → d ≠ a → Q (.ref a) (upd (upd H d (exd d [(name, y)])) a (exo a C (some d)))
theorem askE_sp {H : Hp} {y : V} {Q : VK} (T : Err X.K C f₀) (no : PySem.W.takerIn X.K C name = some none) (q : AskE C name y Q H) (a : Addr) (free : H a = none) :
    spKeep X.K name [.ref a, y] (upd H a (exo a C none)) (fun v H2 => v = .non ∧ Q (.ref a) H2) (fun _ _ _ => False) := by
  refine ⟨a, C, f₀, y, rfl, T, no, upd_same, fun d hd ne => ⟨rfl, ?_⟩⟩
  rw [upd_ne ne] at hd
  have e : upd (upd (upd H a (exo a C none)) d (exd d [(name, y)])) a (exo a C (some d)) = upd (upd H d (exd d [(name, y)])) a (exo a C (some d)) := by
    funext b
    by_cases e1 : b = a
    · rw [e1, upd_same, upd_same]
    · rw [upd_ne e1, upd_ne e1]
      by_cases e2 : b = d
      · rw [e2, upd_same, upd_same]
      · rw [upd_ne e2, upd_ne e2, upd_ne e1]
  rw [e]
  exact q a d free hd ne
/-- C(e) -/
theorem pe_val {CX : CXT} {k : Nat} {fd : FuncData} {ps : List Str} (T : Err X.K C f₀) (no : PySem.W.takerIn X.K C name = some none) (F : FnOk X.prog X.w X.K X.mg X.base CX k f₀ fd ps (spKeep X.K name)) (hr : Room (k + 1) X.A) (hl : ps.length = 2) (hb : Binds X.K fd ps [])
    (hx : Passes CX X (fun _ _ _ => False)) (hg : Gl X x) (hm : X.mg x = some (.ref C)) (he : PE X e te) (hdb : (x == ("__debug__" : Str)) = false := by decide) (hst : starEach [e] X.env = (false, eval e X.env) :: starEach [] X.env := by rfl)
    (hpl : (backTo pos (starEach [] X.env)).any (·.1) = false := by rfl) : PE X (.Call (.Name x p) [e] [] pos) (fun σ H Q => te σ H fun y H1 => AskE C name y Q H1) := by
  refine ⟨fun pins s σ H Q I h => ?_⟩
  refine wpAny_Call_Name_kw (ld_glob I hg hm ?_ hdb)
  refine PySem.W.callWith_K (h₀ := X.base) I.ok.mod.kin T.keep (thn ((pa_cons (hs := hst) he pa_nil).run pos pins s σ H (fun vs H1 => match vs with | [y] => AskE C name y Q H1 | _ => False) I h) ?_) hst hpl
  intro us s1 got
  obtain ⟨vs, H1, I1, rv, ask⟩ := got
  refine ⟨I1.kIn, ?_⟩
  match vs, ask with
  | [y], ask =>
    have l1 : us.length = 1 := by rw [← rv.length]; rfl
    refine run_val (zs := us) T F hr (fun s y' hK => ?_) hx I1 rv (by simp [l1]) fun a free => askE_sp T no ask a free
    have := hb s (y' :: us) hK (by simp [l1, hl])
    rw [List.append_nil] at this
    exact this
/-- C(k = e) -/
theorem pe_valK {CX : CXT} {k : Nat} {fd : FuncData} {ps : List Str} {kn : Str} (T : Err X.K C f₀) (no : PySem.W.takerIn X.K C name = some none) (F : FnOk X.prog X.w X.K X.mg X.base CX k f₀ fd ps (spKeep X.K name)) (hr : Room (k + 1) X.A)
    (hb : ∀ (s : Shared) (y z : Value), X.K.In s.heap → BindsTo s fd ⟨[y], [(kn, z)]⟩ (ps.zip [y, z]))
    (hx : Passes CX X (fun _ _ _ => False)) (hg : Gl X x) (hm : X.mg x = some (.ref C)) (he : PE X e te) (hdb : (x == ("__debug__" : Str)) = false := by decide)
    (hall : (backToKw pos (keywordEach [⟨some kn, e, kpos⟩] X.env)).all (·.1.isSome) = true := by rfl) (hks : (backToKw pos (keywordEach [⟨some kn, e, kpos⟩] X.env)).filterMap (·.1) = [kn] := by rfl)
    (hpl : ((backTo pos (starEach [] X.env)).any (·.1) || (backToKw pos (keywordEach [⟨some kn, e, kpos⟩] X.env)).any (·.1.isNone)) = false := by rfl) : PE X (.Call (.Name x p) [] [⟨some kn, e, kpos⟩] pos) (fun σ H Q => te σ H fun y H1 => AskE C name y Q H1) := by
  refine ⟨fun pins s σ H Q I h => ?_⟩
  refine wpAny_Call_Name_kw (ld_glob I hg hm ?_ hdb)
  refine PySem.W.callWith_KW0 (h₀ := X.base) I.ok.mod.kin T.keep hall ?_ hpl
  refine thn ((pk_cons he pk_nil).run pos pins s σ H (fun vs H1 => match vs with | [y] => AskE C name y Q H1 | _ => False) I h) fun ws s1 ⟨vs, H1, I1, rv, ask⟩ => ⟨I1.kIn, ?_⟩
  rw [hks]
  match vs, ask with
  | [y], ask =>
    cases rv with
    | cons rz rr =>
      cases rr
      exact run_val (us := []) (kw := [(kn, _)]) T F hr (fun s y' hK => hb s y' _ hK) hx I1 (.cons rz .nil) (by simp) fun a free => askE_sp T no ask a free
/-- C(), C without an own `__init__` -/
theorem pe_val0 {bmB : List Value} {B newId initId : String} (F : ExcBaseFacts B newId initId bmB) (q : PySem.W.excIn X.K C bmB newId = true) (gC : X.mg x = some (.ref C)) (kC : PySem.W.keepIn X.K (.ref C) = true) (hg : Gl X x) (hdb : (x == ("__debug__" : Str)) = false := by decide) :
    PE X (.Call (.Name x p) [] [] pos) (fun _ H Q => ∀ a, H a = none → Q (.ref a) (upd H a (exo a C none))) := by
  refine ⟨fun pins s σ H Q I h => ?_⟩
  refine wpAny_Call_Name_kw (ld_glob I hg gC ?_ hdb)
  refine PySem.W.callWith_K0 I.kIn kC ?_
  show wpAny _ _ (call (.ref C) []) _ _ _
  obtain ⟨bm, N, nm, qn, bs, hdct, sn, sub, ab, col, dd, k0, k1, k2, k3, k5, mN, hC, hN, hni, T⟩ := exc_obj I.kIn q
  refine wpAny_call_exc_subT F T hC hN hni (fun h' a hm => ?_) (by show 0 ≤ sizeLine; rw [sizeLine_eq]; omega)
  have hn : H a = none := I.hok.gone hm.new
  obtain ⟨t, ht, _, _⟩ := hm.there
  exact ⟨.ref a, upd H a (exo a C none), I.laidN hm.keeps hm.new hn (exo_ok ht), rfl, h a hn⟩
/-- isinstance(x, c), x a held error -/
def rIsV (K : PySem.W.Frag) : List V → Hp → VK → Prop := fun xs H Q => ∃ (a D : Addr) (od : Option Addr) (c : V) (cv : Value) (b : Bool), xs = [.ref a, c] ∧ H a = some (exo a D od) ∧ (∀ dd, od = some dd → ∃ fs, H dd = some (exd dd fs)) ∧ ExcC K D ∧
  (∀ u, RelV c u → u = cv) ∧ PySem.W.kitOne K (.ref D) cv = some b ∧ Q (.bl b) H
theorem inst_of {pins : List (Addr × Obj)} {σ : L2.St} {H : Hp} {s : Shared} {a D : Addr} {od : Option Addr} (I : Inv X pins σ H s) (ha : H a = some (exo a D od)) (hd : ∀ dd, od = some dd → ∃ fs, H dd = some (exd dd fs)) : ∃ oe o, PySem.W.InstAt s.heap a oe D o := by
  obtain ⟨t1, ho⟩ := exo_at I.hok ha
  cases od with
  | none => exact ⟨_, none, ho, rfl, rfl, trivial⟩
  | some dd =>
    obtain ⟨fs, ed⟩ := hd dd rfl
    obtain ⟨mA, hns, _⟩ := exd_at I.hok ed
    obtain ⟨o, h1, _⟩ := lookIn_ns hns
    exact ⟨_, some o, ho, rfl, rfl, h1⟩
theorem call_isV : CallR X (.builtin "isinstance") (rIsV X.K) := by
  intro pins s σ H xs us Q I r h
  obtain ⟨a, D, od, c, cv, b, rfl, ha, hd, C, hcv, e, q⟩ := h
  cases r with
  | cons rx rr =>
    cases rr with
    | cons rt rr =>
      cases rr
      cases rx
      have ec := hcv _ rt
      subst ec
      obtain ⟨oe, o, J⟩ := inst_of I ha hd
      obtain ⟨cd, hc, _⟩ := PySem.W.any_some C.hd
      exact PySem.W.kia_one (PySem.W.kitx_exc (od := o) (by rw [hc]; rfl) C.hg C.hk C.hs C.ha C.hn C.ht C.hm) I.kIn J e (fun z => nomatch z) fun tk => ⟨.bl b, H, I.kept (t' := tk) fun _ _ z => z, rfl, q⟩
/-- x.n, x a held error -/
def tFldV (K : PySem.W.Frag) (n : Str) (te : TE) : TE := fun σ H Q => te σ H fun x H1 => ∃ (a D d : Addr) (fs : List (Str × V)) (v : V), x = .ref a ∧ H1 a = some (exo a D (some d)) ∧ H1 d = some (exd d fs) ∧ XfC K D ∧ PySem.W.findIn K (.ref D) n = some none ∧ fs.lookup n = some v ∧ Q v H1
theorem pe_fldV {n : Str} (he : PE X e te) (hb : attributeBase e n X.env (eval e X.env) = eval e X.env := by rfl) : PE X (.Attribute e n pos) (tFldV X.K n te) := by
  refine ⟨fun pins s σ H Q I h => ?_⟩
  refine attr_of hb (thn (he.run pins s σ H _ I h) fun u s1 hh => ?_)
  obtain ⟨x, H1, I1, rx, a, D, d, fs, v, ex, ha, hd, T, hno, l, q⟩ := hh
  subst ex
  obtain rfl : u = Value.ref a := rx
  obtain ⟨t1, ho⟩ := exo_at I1.hok ha
  obtain ⟨mA, hns, hr⟩ := exd_at I1.hok hd
  obtain ⟨o, h1, hl⟩ := lookIn_ns hns
  obtain ⟨u, hu, ru⟩ := RelO.some_of (v := v) (o := mA n) (by rw [← l]; exact hr n)
  have J : PySem.W.InstAt s1.heap a _ D (some o) := ⟨ho, rfl, rfl, h1⟩
  exact HandSPX.exc_get I1.kIn J T.ga T.gg T.exC (PySem.W.findObj_own T.hdC hno rfl (by rw [hl, hu])) (handed_of ru) ⟨v, H1, I1.tok _, ru, q⟩
end
end Hx

/-! A layer of pure data over the hand layer: values as trees, what changes in slots and in a store; each code has a meaning that is a function. -/
namespace Pd
open PySem L2 Evl Hg

/-- a datum: a tree; own k: the k-th thing of the store; loc i: what slot i holds and changes -/
inductive D where
  | non | bl (b : Bool) | int (i : Int) | str (x : Str)
  | tup (ds : List D) | lst (ds : List D) | dct (kvs : List (Key × D))
  | ins (c : Str) (fs : List (Str × D))
  | exc (c : Str) (fs : List (Str × D))
  | own (k : Nat) | loc (i : Nat) | cls (c : Str) | scr (ns : List Int)
/-- what may change -/
inductive Mo where
  | lst (ds : List D) | dct (kvs : List (Key × D)) | ins (c : Str) (fs : List (Str × D))
def Mo.d : Mo → D
  | .lst ds => .lst ds
  | .dct kvs => .dct kvs
  | .ins c fs => .ins c fs
inductive Sv where
  | un | d (d : D) | m (o : Mo)
abbrev Rho := List Sv
abbrev Sto := List Mo
/-- a value, or an error of the class c with its fields -/
inductive R (α : Type) where
  | ok (a : α) | er (c : Str) (fs : List (Str × D))
abbrev M (α : Type) := Rho → Sto → Option (R α × Sto)
def M.bind {α β : Type} (m : M α) (f : α → M β) : M β := fun ρ S =>
  match m ρ S with
  | some (.ok a, S1) => f a ρ S1
  | some (.er c fs, S1) => some (.er c fs, S1)
  | none => none
def M.pure {α : Type} (a : α) : M α := fun _ S => some (.ok a, S)
def M.lift {α : Type} (f : Rho → Sto → Option α) : M α := fun ρ S =>
  match f ρ S with
  | some a => some (.ok a, S)
  | none => none

/-- what is known: the things that never change again, where the store's things stand -/
structure Wd where
  G : Hp
  al : List Addr
section
variable (K : PySem.W.Frag) (mg : Str → Option Value)
mutual
inductive Dt (w : Wd) : V → D → Prop
  | non : Dt w .non .non
  | bl (b : Bool) : Dt w (.bl b) (.bl b)
  | int (i : Int) : Dt w (.int i) (.int i)
  | str (x : Str) : Dt w (.str x) (.str x)
  | tup {a : Addr} {xs : List V} {ds : List D} : SqT K w.G a xs → DtA w xs ds → Dt w (.ref a) (.tup ds)
  | lst {a : Addr} {xs : List V} {ds : List D} : Rd w.G a (.lst xs) → DtA w xs ds → Dt w (.ref a) (.lst ds)
  | scr {a : Addr} {ns : List Int} : SqL K w.G a (ns.map V.int) → Dt w (.ref a) (.scr ns)
  | dct {a : Addr} {kvs : List (Key × V)} {kds : List (Key × D)} : Rd w.G a (.dK kvs) → kvs.map (·.1) = kds.map (·.1) → DtA w (kvs.map (·.2)) (kds.map (·.2)) → Dt w (.ref a) (.dct kds)
  | ins {a C dx : Addr} {c : Str} {vs : List (Str × V)} {fs : List (Str × D)} : mg c = some (.ref C) → w.G a = some (.ins C dx vs) → vs.map (·.1) = fs.map (·.1) → DtA w (vs.map (·.2)) (fs.map (·.2)) → Dt w (.ref a) (.ins c fs)
  | exc0 {a C : Addr} {c : Str} : mg c = some (.ref C) → w.G a = some (exo a C none) → Dt w (.ref a) (.exc c [])
  | exc {a C d : Addr} {c : Str} {vs : List (Str × V)} {fs : List (Str × D)} : mg c = some (.ref C) → w.G a = some (exo a C (some d)) → w.G d = some (exd d vs) → vs.map (·.1) = fs.map (·.1) → DtA w (vs.map (·.2)) (fs.map (·.2)) → Dt w (.ref a) (.exc c fs)
  | own {k : Nat} {a : Addr} : w.al[k]? = some a → Dt w (.ref a) (.own k)
  | cls {c : Str} {C : Addr} : mg c = some (.ref C) → Dt w (.ref C) (.cls c)
inductive DtA (w : Wd) : List V → List D → Prop
  | nil : DtA w [] []
  | cons {v : V} {vs : List V} {d : D} {ds : List D} : Dt w v d → DtA w vs ds → DtA w (v :: vs) (d :: ds)
end
end

structure Le (w w' : Wd) : Prop where
  g : Ex w.G w'.G
  a : w.al <+: w'.al
theorem Le.refl (w : Wd) : Le w w := ⟨Ex.refl _, List.prefix_refl _⟩
theorem Le.trans {a b c : Wd} (x : Le a b) (y : Le b c) : Le a c := ⟨x.g.trans y.g, x.a.trans y.a⟩
theorem pre_get {α : Type} {l l' : List α} (h : l <+: l') {k : Nat} {a : α} (e : l[k]? = some a) : l'[k]? = some a := by
  obtain ⟨t, rfl⟩ := h
  have := (List.getElem?_eq_some_iff.mp e).1
  rw [List.getElem?_append_left this]
  exact e
section
variable {K : PySem.W.Frag} {mg : Str → Option Value} {w w' w1 w2 : Wd} {H H' H1 H2 : Hp} {a : Addr} {o : Mo} {S S' : Sto}
mutual
theorem Dt.mono (l : Le w w') : ∀ {v : V} {d : D}, Dt K mg w v d → Dt K mg w' v d
  | _, _, .non => .non
  | _, _, .bl b => .bl b
  | _, _, .int i => .int i
  | _, _, .str x => .str x
  | _, _, .tup h hs => .tup (ex_t l.g h) (hs.mono l)
  | _, _, .lst h hs => .lst (ex_rd l.g h) (hs.mono l)
  | _, _, .scr h => .scr (ex_l l.g h)
  | _, _, .dct h e hs => .dct (ex_rd l.g h) e (hs.mono l)
  | _, _, .ins e h e2 hs => .ins e (l.g _ _ h) e2 (hs.mono l)
  | _, _, .exc0 e h => .exc0 e (l.g _ _ h)
  | _, _, .exc e h h' e2 hs => .exc e (l.g _ _ h) (l.g _ _ h') e2 (hs.mono l)
  | _, _, .own h => .own (pre_get l.a h)
  | _, _, .cls h => .cls h
theorem DtA.mono (l : Le w w') : ∀ {vs : List V} {ds : List D}, DtA K mg w vs ds → DtA K mg w' vs ds
  | _, _, .nil => .nil
  | _, _, .cons h hs => .cons (h.mono l) (hs.mono l)
end
theorem DtA.length : ∀ {vs : List V} {ds : List D}, DtA K mg w vs ds → vs.length = ds.length
  | _, _, .nil => rfl
  | _, _, .cons _ h => congrArg (· + 1) h.length
theorem DtA.append : ∀ {vs us : List V} {ds es : List D}, DtA K mg w vs ds → DtA K mg w us es → DtA K mg w (vs ++ us) (ds ++ es)
  | _, _, _, _, .nil, b => b
  | _, _, _, _, .cons h a, b => .cons h (a.append b)
theorem DtA.get : ∀ {vs : List V} {ds : List D} {i : Nat} {d : D}, DtA K mg w vs ds → ds[i]? = some d → ∃ v, vs[i]? = some v ∧ Dt K mg w v d
  | _, _, _, _, .nil, e => by simp at e
  | _, _, 0, _, .cons h _, e => by
    simp at e
    subst e
    exact ⟨_, rfl, h⟩
  | _, _, i + 1, _, .cons _ ha, e => by
    obtain ⟨v, h1, h2⟩ := ha.get (i := i) (by simpa using e)
    exact ⟨v, by simpa using h1, h2⟩
theorem DtA.getV : ∀ {vs : List V} {ds : List D} {i : Nat} {v : V}, DtA K mg w vs ds → vs[i]? = some v → ∃ d, ds[i]? = some d ∧ Dt K mg w v d
  | _, _, _, _, .nil, e => by simp at e
  | _, _, 0, _, .cons h _, e => by
    simp at e
    subst e
    exact ⟨_, rfl, h⟩
  | _, _, i + 1, _, .cons _ ha, e => by
    obtain ⟨d, h1, h2⟩ := ha.getV (i := i) (by simpa using e)
    exact ⟨d, by simpa using h1, h2⟩
theorem DtA.take : ∀ {vs : List V} {ds : List D} (n : Nat), DtA K mg w vs ds → DtA K mg w (vs.take n) (ds.take n)
  | _, _, 0, _ => .nil
  | _, _, _ + 1, .nil => .nil
  | _, _, n + 1, .cons h a => .cons h (a.take n)
theorem DtA.drop : ∀ {vs : List V} {ds : List D} (n : Nat), DtA K mg w vs ds → DtA K mg w (vs.drop n) (ds.drop n)
  | _, _, 0, h => h
  | _, _, _ + 1, .nil => .nil
  | _, _, n + 1, .cons _ a => a.drop n
theorem DtA.reverse {vs : List V} {ds : List D} (h : DtA K mg w vs ds) : DtA K mg w vs.reverse ds.reverse := by
  induction vs generalizing ds with
  | nil => cases h; exact .nil
  | cons v vs ih =>
    cases h with
    | cons h1 h2 =>
      rw [List.reverse_cons, List.reverse_cons]
      exact (ih h2).append (.cons h1 .nil)

variable (K mg) in
/-- a thing that may change stands at a -/
def MoOk (w : Wd) (H : Hp) (a : Addr) : Mo → Prop
  | .lst ds => ∃ xs, H a = some (.lst xs) ∧ DtA K mg w xs ds
  | .dct kds => ∃ kvs, H a = some (.dK kvs) ∧ kvs.map (·.1) = kds.map (·.1) ∧ DtA K mg w (kvs.map (·.2)) (kds.map (·.2))
  | .ins c fs => ∃ C dx vs, mg c = some (.ref C) ∧ H a = some (.ins C dx vs) ∧ vs.map (·.1) = fs.map (·.1) ∧ DtA K mg w (vs.map (·.2)) (fs.map (·.2))
theorem MoOk.there (h : MoOk K mg w H a o) : ∃ u, H a = some u := by
  cases o with
  | lst ds => obtain ⟨_, e, _⟩ := h; exact ⟨_, e⟩
  | dct ds => obtain ⟨_, e, _⟩ := h; exact ⟨_, e⟩
  | ins c ds => obtain ⟨_, _, _, _, e, _⟩ := h; exact ⟨_, e⟩
theorem MoOk.stay (h : MoOk K mg w H a o) (e : H' a = H a) (l : Le w w') : MoOk K mg w' H' a o := by
  cases o with
  | lst ds => obtain ⟨xs, e1, h1⟩ := h; exact ⟨xs, e.trans e1, h1.mono l⟩
  | dct ds => obtain ⟨xs, e1, h1, h2⟩ := h; exact ⟨xs, e.trans e1, h1, h2.mono l⟩
  | ins c ds => obtain ⟨C, dx, vs, e1, e2, h1, h2⟩ := h; exact ⟨C, dx, vs, e1, e.trans e2, h1, h2.mono l⟩
variable (K mg) in
structure At (w : Wd) (H : Hp) (S : Sto) : Prop where
  sub : Ex w.G H
  len : w.al.length = S.length
  nd : w.al.Nodup
  off : ∀ a ∈ w.al, w.G a = none
  obj : ∀ (k : Nat) (a : Addr) (o : Mo), w.al[k]? = some a → S[k]? = some o → MoOk K mg w H a o
theorem At.alive (h : At K mg w H S) (ha : a ∈ w.al) : ∃ u, H a = some u := by
  obtain ⟨k, hk⟩ := List.mem_iff_getElem?.mp ha
  have hl := (List.getElem?_eq_some_iff.mp hk).1
  obtain ⟨o, ho⟩ : ∃ o, S[k]? = some o := ⟨S[k]'(by rw [← h.len]; exact hl), by rw [List.getElem?_eq_getElem]⟩
  exact (h.obj k a o hk ho).there
/-- from one state to a later one -/
structure Stp (w w' : Wd) (H H' : Hp) : Prop where
  le : Le w w'
  fr : ∀ a o, H a = some o → a ∉ w.al → H' a = some o
  nw : ∀ a, a ∈ w'.al → a ∉ w.al → H a = none
  gn : ∀ a o, w'.G a = some o → w.G a = some o ∨ H a = none ∨ a ∈ w.al
theorem Stp.refl (w : Wd) (H : Hp) : Stp w w H H := ⟨Le.refl w, fun _ _ h _ => h, fun _ h n => absurd h n, fun _ _ h => .inl h⟩
theorem Stp.trans (x : Stp w w1 H H1) (y : Stp w1 w2 H1 H2) : Stp w w2 H H2 := by
  have key : ∀ a o, H a = some o → a ∉ w.al → a ∉ w1.al := fun a o h n z => by
    rw [x.nw a z n] at h
    cases h
  refine ⟨x.le.trans y.le, fun a o h n => y.fr a o (x.fr a o h n) (key a o h n), fun a h n => ?_, fun a o h => ?_⟩
  · by_cases z : a ∈ w1.al
    · exact x.nw a z n
    · cases q : H a with
      | none => rfl
      | some o =>
        have := x.fr a o q n
        rw [y.nw a h z] at this
        cases this
  · rcases y.gn a o h with z | z | z
    · exact x.gn a o z
    · by_cases n : a ∈ w.al
      · exact .inr (.inr n)
      · refine .inr (.inl ?_)
        cases q : H a with
        | none => rfl
        | some u =>
          rw [x.fr a u q n] at z
          cases z
    · by_cases n : a ∈ w.al
      · exact .inr (.inr n)
      · exact .inr (.inl (x.nw a z n))
/-- new things alone -/
structure Grow (w w' : Wd) (H H' : Hp) : Prop where
  g : Ex w.G w'.G
  a : w'.al = w.al
  h : Ex H H'
  sub : Ex w'.G H'
  gn : ∀ a o, w'.G a = some o → w.G a = some o ∨ H a = none
theorem Grow.refl (s : Ex w.G H) : Grow w w H H := ⟨Ex.refl _, rfl, Ex.refl _, s, fun _ _ h => .inl h⟩
theorem Grow.le (x : Grow w w' H H') : Le w w' := ⟨x.g, by rw [x.a]; exact List.prefix_refl _⟩
theorem Grow.stp (x : Grow w w' H H') : Stp w w' H H' := ⟨x.le, fun a o h _ => x.h a o h, fun a h n => absurd (x.a ▸ h) n, fun a o h => (x.gn a o h).elim .inl fun z => .inr (.inl z)⟩
theorem Grow.trans (x : Grow w w1 H H1) (y : Grow w1 w2 H1 H2) : Grow w w2 H H2 :=
  ⟨x.g.trans y.g, y.a.trans x.a, x.h.trans y.h, y.sub, fun a o h => (y.gn a o h).elim (x.gn a o) fun z => .inr (fresh_back x.h z)⟩
theorem At.grow (h : At K mg w H S) (x : Grow w w' H H') : At K mg w' H' S := by
  refine ⟨x.sub, by rw [x.a]; exact h.len, by rw [x.a]; exact h.nd, fun a ha => ?_, fun k a o hk ho => ?_⟩
  · rw [x.a] at ha
    cases q : w'.G a with
    | none => rfl
    | some o =>
      rcases x.gn a o q with z | z
      · rw [h.off a ha] at z; cases z
      · obtain ⟨u, hu⟩ := h.alive ha
        rw [hu] at z; cases z
  · rw [x.a] at hk
    have m := h.obj k a o hk ho
    obtain ⟨u, hu⟩ := m.there
    exact m.stay ((x.h a u hu).trans hu.symm) x.le
abbrev Wd.new (w : Wd) (p : Addr) (o : HO) : Wd := ⟨upd w.G p o, w.al⟩
theorem Grow.new {p : Addr} {o : HO} (s : Ex w.G H) (n : H p = none) : Grow w (w.new p o) H (upd H p o) := by
  have nG : w.G p = none := by
    cases q : w.G p with
    | none => rfl
    | some u => rw [s p u q] at n; cases n
  refine ⟨Ex.new nG, rfl, Ex.new n, fun b u hb => ?_, fun b u hb => ?_⟩
  · have hb : upd w.G p o b = some u := hb
    by_cases e : b = p
    · subst e
      rw [upd_same] at hb ⊢
      exact hb
    · rw [upd_ne e] at hb ⊢
      exact s b u hb
  · have hb : upd w.G p o b = some u := hb
    by_cases e : b = p
    · subst e
      exact .inr n
    · rw [upd_ne e] at hb
      exact .inl hb

/-- a caught error: its slot, where it stands, its dict, its fields -/
structure Zi where
  i : Nat
  a : Addr
  dx : Option Addr
  fs : List (Str × D)
variable (K mg) in
def Zok (w : Wd) (dx : Option Addr) (fs : List (Str × D)) : Prop := match dx with
  | none => fs = []
  | some d => ∃ vs, w.G d = some (.xd vs) ∧ vs.map (·.1) = fs.map (·.1) ∧ DtA K mg w (vs.map (·.2)) (fs.map (·.2))
theorem Zok.mono {dx : Option Addr} {fs : List (Str × D)} (l : Le w w') (h : Zok K mg w dx fs) : Zok K mg w' dx fs := by
  cases dx with
  | none => exact h
  | some d =>
    obtain ⟨vs, e, h1, h2⟩ := h
    exact ⟨vs, l.g _ _ e, h1, h2.mono l⟩
variable (K mg) in
/-- the slots; z: where a caught error stands -/
structure Sl (z : Option Zi) (w : Wd) (H : Hp) (σ : L2.St) (ρ : Rho) : Prop where
  len : σ.length = ρ.length
  dat : ∀ (i : Nat) (d : D), ρ[i]? = some (Sv.d d) → ∃ v, σ[i]? = some (some v) ∧ Dt K mg w v d
  mt : ∀ (i : Nat) (o : Mo), ρ[i]? = some (Sv.m o) → ∃ a, σ[i]? = some (some (.ref a)) ∧ w.G a = none ∧ a ∉ w.al ∧ MoOk K mg w H a o
  sep : ∀ (i j : Nat) (oi oj : Mo) (a : Addr), ρ[i]? = some (Sv.m oi) → ρ[j]? = some (Sv.m oj) → σ[i]? = some (some (.ref a)) → σ[j]? = some (some (.ref a)) → i = j
  exc : ∀ zi : Zi, z = some zi → σ[zi.i]? = some (some (.ref zi.a)) ∧ Zok K mg w zi.dx zi.fs
variable {z : Option Zi} {σ : L2.St} {ρ : Rho} {v : V} {d d' : D}
theorem Sl.step (s : Sl K mg z w H σ ρ) (x : Stp w w' H H') : Sl K mg z w' H' σ ρ := by
  refine ⟨s.len, fun i d h => ?_, fun i o h => ?_, s.sep, fun zi e => ⟨(s.exc zi e).1, (s.exc zi e).2.mono x.le⟩⟩
  · obtain ⟨v, e, h⟩ := s.dat i d h
    exact ⟨v, e, h.mono x.le⟩
  · obtain ⟨a, e, g, n, m⟩ := s.mt i o h
    obtain ⟨u, hu⟩ := m.there
    refine ⟨a, e, ?_, fun q => ?_, m.stay ((x.fr a u hu n).trans hu.symm) x.le⟩
    · cases q : w'.G a with
      | none => rfl
      | some y =>
        rcases x.gn a y q with r | r | r
        · rw [g] at r; cases r
        · rw [hu] at r; cases r
        · exact absurd r n
    · rw [x.nw a q n] at hu
      cases hu
variable (K mg) in
/-- what an expression gives: a datum, or what a slot holds and changes -/
def Rr (w : Wd) (σ : L2.St) (ρ : Rho) (v : V) (d : D) : Prop := Dt K mg w v d ∨ ∃ (i : Nat) (o : Mo), d = .loc i ∧ σ[i]? = some (some v) ∧ ρ[i]? = some (Sv.m o)
theorem Rr.mono (l : Le w w') (h : Rr K mg w σ ρ v d) : Rr K mg w' σ ρ v d := h.imp (Dt.mono l) id
/-- what it is now -/
def rsv (ρ : Rho) (S : Sto) : D → Option D
  | .own k => (S[k]?).map Mo.d
  | .loc i => match ρ[i]? with
    | some (.m o) => some o.d
    | _ => none
  | d => some d
variable (K mg) in
/-- what stands there now -/
def Rs (w : Wd) (H : Hp) (v : V) : D → Prop
  | .non => v = .non
  | .bl b => v = .bl b
  | .int i => v = .int i
  | .str x => v = .str x
  | .tup ds => ∃ a xs, v = .ref a ∧ SqT K w.G a xs ∧ DtA K mg w xs ds
  | .scr ns => ∃ a, v = .ref a ∧ SqL K H a (ns.map V.int)
  | .lst ds => ∃ a xs, v = .ref a ∧ Rd H a (.lst xs) ∧ DtA K mg w xs ds
  | .dct kds => ∃ a kvs, v = .ref a ∧ Rd H a (.dK kvs) ∧ kvs.map (·.1) = kds.map (·.1) ∧ DtA K mg w (kvs.map (·.2)) (kds.map (·.2))
  | .ins c fs => ∃ a C dx vs, v = .ref a ∧ mg c = some (.ref C) ∧ H a = some (.ins C dx vs) ∧ vs.map (·.1) = fs.map (·.1) ∧ DtA K mg w (vs.map (·.2)) (fs.map (·.2))
  | .exc c fs => ∃ a C od, v = .ref a ∧ mg c = some (.ref C) ∧ H a = some (exo a C od) ∧ ((od = none ∧ fs = []) ∨ ∃ d vs, od = some d ∧ H d = some (exd d vs) ∧ vs.map (·.1) = fs.map (·.1) ∧ DtA K mg w (vs.map (·.2)) (fs.map (·.2)))
  | .cls c => ∃ C, v = .ref C ∧ mg c = some (.ref C)
  | .own _ => False
  | .loc _ => False
theorem Rs.of_mo (h : MoOk K mg w H a o) : Rs K mg w H (.ref a) o.d := by
  cases o with
  | lst ds => obtain ⟨xs, e, h⟩ := h; exact ⟨a, xs, rfl, Rd.of e, h⟩
  | dct ds => obtain ⟨xs, e, h⟩ := h; exact ⟨a, xs, rfl, Rd.of e, h⟩
  | ins c fs => obtain ⟨C, dx, vs, e, h⟩ := h; exact ⟨a, C, dx, vs, rfl, e, h⟩
theorem Rs.of_dt (s : Ex w.G H) (h : Dt K mg w v d) (n : ∀ k, d ≠ .own k) : Rs K mg w H v d := by
  cases h with
  | non => rfl
  | bl b => rfl
  | int i => rfl
  | str x => rfl
  | tup h hs => exact ⟨_, _, rfl, h, hs⟩
  | lst h hs => exact ⟨_, _, rfl, ex_rd s h, hs⟩
  | scr h => exact ⟨_, rfl, ex_l s h⟩
  | dct h e hs => exact ⟨_, _, rfl, ex_rd s h, e, hs⟩
  | ins e h e2 hs => exact ⟨_, _, _, _, rfl, e, s _ _ h, e2, hs⟩
  | exc0 e h => exact ⟨_, _, _, rfl, e, s _ _ h, .inl ⟨rfl, rfl⟩⟩
  | exc e h h' e2 hs => exact ⟨_, _, _, rfl, e, s _ _ h, .inr ⟨_, _, rfl, s _ _ h', e2, hs⟩⟩
  | own h => exact absurd rfl (n _)
  | cls h => exact ⟨_, rfl, h⟩
theorem Rs.of (t : At K mg w H S) (s : Sl K mg z w H σ ρ) (r : Rr K mg w σ ρ v d) (e : rsv ρ S d = some d') : Rs K mg w H v d' := by
  rcases r with h | ⟨i, o, rfl, h1, h2⟩
  · by_cases n : ∃ k, d = .own k
    · obtain ⟨k, rfl⟩ := n
      cases h with
      | own hk =>
        simp only [rsv] at e
        cases q : S[k]? with
        | none => rw [q] at e; cases e
        | some o =>
          rw [q] at e
          cases e
          exact Rs.of_mo (t.obj k _ o hk q)
    · have e' : d = d' := by
        cases d with
        | own k => exact absurd ⟨k, rfl⟩ n
        | loc i => cases h
        | _ => exact Option.some.inj e
      subst e'
      exact Rs.of_dt t.sub h fun k z => n ⟨k, z⟩
  · obtain ⟨a, e1, _, _, m⟩ := s.mt i o h2
    rw [h1] at e1
    cases e1
    simp only [rsv, h2] at e
    cases e
    exact Rs.of_mo m
end
end Pd

/-! Expressions whose meaning is a function of data. -/
namespace Pd
open PySem L2 Evl Hg

theorem pe_mono {X : Cx} {e : Expr} {t t' : TE} (h : PE X e t) (k : ∀ σ H Q, t' σ H Q → t σ H Q) : PE X e t' := ⟨fun pins s σ H Q I w => h.run pins s σ H Q I (k σ H Q w)⟩
theorem pt_mono {X : Cx} {e : Expr} {t t' : TT} (h : PT X e t) (k : ∀ σ H Q, t' σ H Q → t σ H Q) : PT X e t' := ⟨fun pins s σ H Q I w => h.run pins s σ H Q I (k σ H Q w)⟩
theorem pw_mono {X : Cx} {e : Expr} {t t' : TT} (h : PW X e t) (k : ∀ σ H Q, t' σ H Q → t σ H Q) : PW X e t' := ⟨fun wh pins s σ H Q I w => h.run wh pins s σ H Q I (k σ H Q w)⟩
theorem pa_mono {X : Cx} {e : List Expr} {t t' : TA} (h : PA X e t) (k : ∀ σ H Q, t' σ H Q → t σ H Q) : PA X e t' := ⟨fun p pins s σ H Q I w => h.run p pins s σ H Q I (k σ H Q w)⟩

/-- an error of the class c with these fields -/
def Xr (K : PySem.W.Frag) (mg : Str → Option Value) (w : Wd) (cls : Value) (dx : Option Addr) (c : Str) (fs : List (Str × D)) : Prop :=
  (∃ C, cls = .ref C ∧ mg c = some (.ref C)) ∧ Zok K mg w dx fs
abbrev Rel (β α : Type) := Wd → Hp → β → α → Prop
section
variable (K : PySem.W.Frag) (mg : Str → Option Value) (W : WX) (z : Option Zi)
def Pst {α β : Type} (rel : Rel β α) (w : Wd) (σ : L2.St) (H : Hp) (r : R α) (S' : Sto) (Q : β → Hp → Prop) : Prop :=
  match r with
  | .ok a => ∀ v H' w', Stp w w' H H' → At K mg w' H' S' → rel w' H' v a → Q v H'
  | .er c fs => ∀ H' w' cls dx, Stp w w' H H' → At K mg w' H' S' → Xr K mg w' cls dx c fs → W cls dx σ H'
structure Do {α β : Type} (rel : Rel β α) (w : Wd) (σ : L2.St) (H : Hp) (ρ : Rho) (S : Sto) (m : M α) (Q : β → Hp → Prop) : Prop where
  t : At K mg w H S
  s : Sl K mg z w H σ ρ
  go : ∃ r S', m ρ S = some (r, S') ∧ Pst K mg W rel w σ H r S' Q
inductive RrA (w : Wd) (σ : L2.St) (ρ : Rho) : List V → List D → Prop
  | nil : RrA w σ ρ [] []
  | cons {v : V} {vs : List V} {d : D} {ds : List D} : Rr K mg w σ ρ v d → RrA w σ ρ vs ds → RrA w σ ρ (v :: vs) (d :: ds)
theorem RrA.mono {w w' : Wd} {σ : L2.St} {ρ : Rho} (l : Le w w') : ∀ {vs : List V} {ds : List D}, RrA K mg w σ ρ vs ds → RrA K mg w' σ ρ vs ds
  | _, _, .nil => .nil
  | _, _, .cons h hs => .cons (h.mono l) (hs.mono l)
def relD (σ : L2.St) (ρ : Rho) : Rel V D := fun w _ v d => Rr K mg w σ ρ v d
def relA (σ : L2.St) (ρ : Rho) : Rel (List V) (List D) := fun w _ v d => RrA K mg w σ ρ v d
def relB : Rel Bool Bool := fun _ _ b c => b = c
def tD (m : M D) : TE := fun σ H Q => ∃ w ρ S, Do K mg W z (relD K mg σ ρ) w σ H ρ S m Q
def tA (m : M (List D)) : TA := fun σ H Q => ∃ w ρ S, Do K mg W z (relA K mg σ ρ) w σ H ρ S m Q
def tT (m : M Bool) : TT := fun σ H Q => ∃ w ρ S, Do K mg W z relB w σ H ρ S m Q
end
section
variable (X : Cx) (W : WX) (z : Option Zi)
/-- e's meaning is m -/
abbrev PD (e : Expr) (m : M D) : Prop := PE X e (tD X.K X.mg W z m)
abbrev PDA (es : List Expr) (m : M (List D)) : Prop := PA X es (tA X.K X.mg W z m)
abbrev PDT (e : Expr) (m : M Bool) : Prop := PT X e (tT X.K X.mg W z m)
abbrev PDW (e : Expr) (m : M Bool) : Prop := PW X e (tT X.K X.mg W z m)
end
section
variable {X : Cx} {K : PySem.W.Frag} {mg : Str → Option Value} {W : WX} {z : Option Zi} {w : Wd} {σ : L2.St} {H : Hp} {ρ : Rho} {S : Sto}
theorem Do.bind {α β γ δ : Type} {rel1 : Rel β α} {rel2 : Rel δ γ} {m : M α} {f : α → M γ} {Q : δ → Hp → Prop} {k : β → Hp → Prop} (h : Do K mg W z rel2 w σ H ρ S (m.bind f) Q)
    (hk : ∀ a v w1 H1 S1, Stp w w1 H H1 → rel1 w1 H1 v a → Do K mg W z rel2 w1 σ H1 ρ S1 (f a) Q → k v H1) : Do K mg W z rel1 w σ H ρ S m k := by
  obtain ⟨t, s, r, S', e, p⟩ := h
  refine ⟨t, s, ?_⟩
  unfold M.bind at e
  cases q : m ρ S with
  | none => rw [q] at e; cases e
  | some x =>
    obtain ⟨r1, S1⟩ := x
    rw [q] at e
    refine ⟨r1, S1, rfl, ?_⟩
    cases r1 with
    | er c fs =>
      cases e
      exact p
    | ok a =>
      intro v H1 w1 st t1 rl
      refine hk a v w1 H1 S1 st rl ⟨t1, s.step st, r, S', e, ?_⟩
      cases r with
      | ok b => exact fun v' H' w' st' t' rl' => p v' H' w' (st.trans st') t' rl'
      | er c fs => exact fun H' w' cls dx st' t' x => p H' w' cls dx (st.trans st') t' x
theorem Do.lift {α β : Type} {rel : Rel β α} {f : Rho → Sto → Option α} {Q : β → Hp → Prop} (h : Do K mg W z rel w σ H ρ S (M.lift f) Q) :
    ∃ a, f ρ S = some a ∧ ∀ v H' w', Grow w w' H H' → rel w' H' v a → Q v H' := by
  obtain ⟨t, s, r, S', e, p⟩ := h
  unfold M.lift at e
  cases q : f ρ S with
  | none => rw [q] at e; cases e
  | some a =>
    rw [q] at e
    cases e
    exact ⟨a, rfl, fun v H' w' g rl => p v H' w' g.stp (t.grow g) rl⟩
theorem Do.pure {α β : Type} {rel : Rel β α} {a : α} {Q : β → Hp → Prop} (h : Do K mg W z rel w σ H ρ S (M.pure a) Q) : ∀ v, rel w H v a → Q v H := by
  obtain ⟨t, s, r, S', e, p⟩ := h
  cases e
  exact fun v rl => p v H w (Stp.refl _ _) t rl

/-! ### names, constants -/
def m_c (d : D) : M D := M.pure d
theorem pd_c {e : Expr} {v : V} {d : D} (h : PE X e (tC v)) (hd : ∀ w, Dt X.K X.mg w v d) : PD X W z e (m_c d) := by
  refine pe_mono h fun σ H Q hq => ?_
  obtain ⟨w, ρ, S, h⟩ := hq
  exact h.pure v (.inl (hd w))
theorem pd_int {i : Int} {j : Nat} {pos : Pos} : PD X W z (.Constant (.int i) j pos) (m_c (.int i)) := pd_c pe_int fun _ => .int i
theorem pd_bl {b : Bool} {j : Nat} {pos : Pos} : PD X W z (.Constant (.bool b) j pos) (m_c (.bl b)) := pd_c pe_bl fun _ => .bl b
theorem pd_non {j : Nat} {pos : Pos} : PD X W z (.Constant .none j pos) (m_c .non) := pd_c pe_non fun _ => .non
theorem pd_str {x : Str} {j : Nat} {pos : Pos} : PD X W z (.Constant (.str x) j pos) (m_c (.str x)) := pd_c pe_str fun _ => .str x
theorem pd_gint {x : Str} {i : Int} {t : Tok} {pos : Pos} (hg : Gl X x) (hm : X.mg x = some (.int i t)) (hd : (x == ("__debug__" : Str)) = false := by decide) : PD X W z (.Name x pos) (m_c (.int i)) := pd_c (pe_glob (v := .int i) hg hm ⟨t, rfl⟩ hd) fun _ => .int i
theorem pd_gstr {x y : Str} {t : Tok} {pos : Pos} (hg : Gl X x) (hm : X.mg x = some (.str y t)) (hd : (x == ("__debug__" : Str)) = false := by decide) : PD X W z (.Name x pos) (m_c (.str y)) := pd_c (pe_glob (v := .str y) hg hm ⟨t, rfl⟩ hd) fun _ => .str y
def m_var (i : Nat) : M D := M.lift fun ρ _ => match ρ[i]? with
  | some (.d d) => some d
  | some (.m _) => some (.loc i)
  | _ => none
theorem pd_var {i : Nat} {x : Str} {pos : Pos} (h : PE X (.Name x pos) (tVar i)) : PD X W z (.Name x pos) (m_var i) := by
  refine pe_mono h fun σ H Q hq => ?_
  obtain ⟨w, ρ, S, h⟩ := hq
  obtain ⟨d, e, k⟩ := h.lift
  have g := Grow.refl h.t.sub
  cases q : ρ[i]? with
  | none => simp only [q] at e; cases e
  | some sv =>
    cases sv with
    | un => simp only [q] at e; cases e
    | d d' =>
      simp only [q] at e
      cases e
      obtain ⟨v, e1, h1⟩ := h.s.dat i _ q
      exact ⟨v, e1, k v H w g (.inl h1)⟩
    | m o =>
      simp only [q] at e
      cases e
      obtain ⟨a, e1, _⟩ := h.s.mt i o q
      exact ⟨_, e1, k _ H w g (.inr ⟨i, o, rfl, e1, q⟩)⟩

/-! ### two operands -/
def m_op (f : D → D → Option D) (ma mb : M D) : M D := ma.bind fun a => mb.bind fun b => M.lift fun ρ S =>
  match rsv ρ S a, rsv ρ S b with
  | some a', some b' => f a' b'
  | _, _ => none
def m_cmp (f : D → D → Option Bool) (ma mb : M D) : M D := m_op (fun a b => (f a b).map D.bl) ma mb
def m_cmpT (f : D → D → Option Bool) (ma mb : M D) : M Bool := ma.bind fun a => mb.bind fun b => M.lift fun ρ S =>
  match rsv ρ S a, rsv ρ S b with
  | some a', some b' => f a' b'
  | _, _ => none
variable (X) in
/-- on values: r does what f says -/
def Op2 (r : R2) (f : D → D → Option D) : Prop := ∀ (w : Wd) (H : Hp) (x y : V) (a b d : D), Ex w.G H → Rs X.K X.mg w H x a → Rs X.K X.mg w H y b → f a b = some d →
  ∀ Q : VK, (∀ v H' w', Grow w w' H H' → Dt X.K X.mg w' v d → Q v H') → r x y H Q
variable (X) in
def Cm2 (r : R2) (f : D → D → Option Bool) : Prop := ∀ (w : Wd) (H : Hp) (x y : V) (a b : D) (c : Bool), Ex w.G H → Rs X.K X.mg w H x a → Rs X.K X.mg w H y b → f a b = some c →
  ∀ Q : VK, (∀ H', Ex H H' → Q (.bl c) H') → r x y H Q
theorem Cm2.op {r : R2} {f : D → D → Option Bool} (h : Cm2 X r f) : Op2 X r (fun a b => (f a b).map D.bl) := by
  intro w H x y a b d s ra rb e Q q
  dsimp only at e
  cases q1 : f a b with
  | none => rw [q1] at e; cases e
  | some c =>
    rw [q1] at e
    cases e
    exact h w H x y a b c s ra rb q1 Q fun H' g => q _ H' w ⟨Ex.refl _, rfl, g, s.trans g, fun _ _ h => .inl h⟩ (.bl c)
theorem Op2.or {r r' : R2} {f f' : D → D → Option D} (h : Op2 X r f) (h' : Op2 X r' f') : Op2 X (fun x y H Q => r x y H Q ∨ r' x y H Q) (fun a b => (f a b).or (f' a b)) := by
  intro w H x y a b d s ra rb e Q q
  dsimp only at e
  cases q1 : f a b with
  | none => rw [q1] at e; exact .inr (h' w H x y a b d s ra rb e Q q)
  | some c => rw [q1] at e; exact .inl (h w H x y a b d s ra rb (q1.trans e) Q q)
theorem Cm2.or {r r' : R2} {f f' : D → D → Option Bool} (h : Cm2 X r f) (h' : Cm2 X r' f') : Cm2 X (fun x y H Q => r x y H Q ∨ r' x y H Q) (fun a b => (f a b).or (f' a b)) := by
  intro w H x y a b d s ra rb e Q q
  dsimp only at e
  cases q1 : f a b with
  | none => rw [q1] at e; exact .inr (h' w H x y a b d s ra rb e Q q)
  | some c => rw [q1] at e; exact .inl (h w H x y a b d s ra rb (q1.trans e) Q q)
theorem OpR.or {f : Value → Value → Sem Value} {r r' : R2} (h : OpR X f r) (h' : OpR X f r') : OpR X f (fun x y H Q => r x y H Q ∨ r' x y H Q) := fun pins s σ H x y v u Q I rx ry q =>
  q.elim (h pins s σ H x y v u Q I rx ry) (h' pins s σ H x y v u Q I rx ry)
variable {a b c : Expr} {pos : Pos} {ma mb mc : M D}
theorem op_go {r : R2} {f : D → D → Option D} (hf : Op2 X r f) {Q : VK} (h : tD X.K X.mg W z (m_op f ma mb) σ H Q) : tD X.K X.mg W z ma σ H fun x H1 => tD X.K X.mg W z mb σ H1 fun y H2 => r x y H2 Q := by
  obtain ⟨w, ρ, S, h⟩ := h
  refine ⟨w, ρ, S, h.bind fun a v w1 H1 S1 st1 ra h1 => ⟨w1, ρ, S1, h1.bind fun b u w2 H2 S2 st2 rb h2 => ?_⟩⟩
  obtain ⟨d, e, k⟩ := h2.lift
  have ra' : Rr X.K X.mg w2 σ ρ v a := Rr.mono st2.le ra
  cases q1 : rsv ρ S2 a with
  | none => simp only [q1] at e; cases e
  | some a' =>
    cases q2 : rsv ρ S2 b with
    | none => simp only [q1, q2] at e; cases e
    | some b' =>
      simp only [q1, q2] at e
      exact hf w2 H2 v u a' b' d h2.t.sub (Rs.of h2.t h2.s ra' q1) (Rs.of h2.t h2.s rb q2) e Q fun v' H' w' g hd => k v' H' w' g (.inl hd)
theorem cmT_go {r : R2} {f : D → D → Option Bool} (hf : Cm2 X r f) {Q : Bool → Hp → Prop} (h : tT X.K X.mg W z (m_cmpT f ma mb) σ H Q) : tTest (tOp r (tD X.K X.mg W z ma) (tD X.K X.mg W z mb)) σ H Q := by
  obtain ⟨w, ρ, S, h⟩ := h
  refine ⟨w, ρ, S, h.bind fun a v w1 H1 S1 st1 ra h1 => ⟨w1, ρ, S1, h1.bind fun b u w2 H2 S2 st2 rb h2 => ?_⟩⟩
  obtain ⟨d, e, k⟩ := h2.lift
  have ra' : Rr X.K X.mg w2 σ ρ v a := Rr.mono st2.le ra
  cases q1 : rsv ρ S2 a with
  | none => simp only [q1] at e; cases e
  | some a' =>
    cases q2 : rsv ρ S2 b with
    | none => simp only [q1, q2] at e; cases e
    | some b' =>
      simp only [q1, q2] at e
      exact hf w2 H2 v u a' b' d h2.t.sub (Rs.of h2.t h2.s ra' q1) (Rs.of h2.t h2.s rb q2) e _ fun H' g => ⟨d, rfl, k d H' w2 ⟨Ex.refl _, rfl, g, h2.t.sub.trans g, fun _ _ h => .inl h⟩ rfl⟩
theorem pd_op {op : Operator} {r : R2} {f : D → D → Option D} (ho : OpR X (binaryOp op) r) (hf : Op2 X r f) (ha : PD X W z a ma) (hb : PD X W z b mb) : PD X W z (.BinOp a op b pos) (m_op f ma mb) :=
  pe_mono (pe_op ho ha hb) fun _ _ _ h => op_go hf h
theorem pd_cmp {op : CmpOp} {r : R2} {f : D → D → Option Bool} (ho : OpR X (compareOp op) r) (hf : Cm2 X r f) (ha : PD X W z a ma) (hb : PD X W z b mb) (hm : behindInMarks op b = false) : PD X W z (.Compare a [op] [b] pos) (m_cmp f ma mb) :=
  pe_mono (pe_cmpR ho ha hb hm) fun _ _ _ h => op_go hf.op h
theorem pdt_cmp {op : CmpOp} {r : R2} {f : D → D → Option Bool} (ho : OpR X (compareOp op) r) (hf : Cm2 X r f) (ha : PD X W z a ma) (hb : PD X W z b mb) (hm : behindInMarks op b = false) : PDT X W z (.Compare a [op] [b] pos) (m_cmpT f ma mb) :=
  pt_mono (pt_cmpR ho ha hb hm) fun _ _ _ h => cmT_go hf h
theorem pd_ix {r : R2} {f : D → D → Option D} (hr : IxR X r) (hf : Op2 X r f) (ha : PD X W z a ma) (hb : PD X W z b mb) (hs : PlainIx b) : PD X W z (.Subscript a b pos) (m_op f ma mb) :=
  pe_mono (pe_ix hr ha hb hs) fun _ _ _ h => op_go hf h

/-! ### chains -/
def m_chain (f g : D → D → Option Bool) (ma mb mc : M D) : M D := ma.bind fun a => mb.bind fun b =>
  (M.lift fun ρ S => match rsv ρ S a, rsv ρ S b with
    | some a', some b' => f a' b'
    | _, _ => none).bind fun k => if k = true then mc.bind fun c => M.lift fun ρ S => match rsv ρ S b, rsv ρ S c with
      | some b', some c' => (g b' c').map D.bl
      | _, _ => none
    else M.pure (.bl false)
theorem chain_go {r r' : R2} {f g : D → D → Option Bool} (hf : Cm2 X r f) (hg : Cm2 X r' g) {Q : VK} (h : tD X.K X.mg W z (m_chain f g ma mb mc) σ H Q) : tChain r r' (tD X.K X.mg W z ma) (tD X.K X.mg W z mb) (tD X.K X.mg W z mc) σ H Q := by
  obtain ⟨w, ρ, S, h⟩ := h
  refine ⟨w, ρ, S, h.bind fun a v w1 H1 S1 st1 ra h1 => ⟨w1, ρ, S1, h1.bind fun b u w2 H2 S2 st2 rb h2 => ?_⟩⟩
  have h2' : Do X.K X.mg W z relB w2 σ H2 ρ S2 _ (fun k H3 => if k = true then tD X.K X.mg W z mc σ H3 fun y H4 => r' u y H4 Q else Q (.bl false) H3) := h2.bind (rel1 := relB) fun k k' w3 H3 S3 st3 rk h3 => by
    have rk : k' = k := rk
    subst rk
    cases k' with
    | true =>
      show tD X.K X.mg W z mc σ H3 fun y H4 => r' u y H4 Q
      have h3 : Do X.K X.mg W z (relD X.K X.mg σ ρ) w3 σ H3 ρ S3 (mc.bind fun c => M.lift fun ρ S => match rsv ρ S b, rsv ρ S c with
        | some b', some c' => (g b' c').map D.bl
        | _, _ => none) Q := h3
      refine ⟨w3, ρ, S3, h3.bind fun c y w4 H4 S4 st4 rc h4 => ?_⟩
      obtain ⟨d, e, k⟩ := h4.lift
      have rb' : Rr X.K X.mg w4 σ ρ u b := Rr.mono (st3.le.trans st4.le) rb
      cases q1 : rsv ρ S4 b with
      | none => simp only [q1] at e; cases e
      | some b' =>
        cases q2 : rsv ρ S4 c with
        | none => simp only [q1, q2] at e; cases e
        | some c' =>
          simp only [q1, q2] at e
          exact hg.op w4 H4 u y b' c' d h4.t.sub (Rs.of h4.t h4.s rb' q1) (Rs.of h4.t h4.s rc q2) e Q fun v' H' w' gr hd => k v' H' w' gr (.inl hd)
    | false =>
      show Q (.bl false) H3
      have h3 : Do X.K X.mg W z (relD X.K X.mg σ ρ) w3 σ H3 ρ S3 (M.pure (.bl false)) Q := h3
      exact h3.pure _ (.inl (.bl false))
  obtain ⟨d, e, k⟩ := h2'.lift
  have ra' : Rr X.K X.mg w2 σ ρ v a := Rr.mono st2.le ra
  cases q1 : rsv ρ S2 a with
  | none => simp only [q1] at e; cases e
  | some a' =>
    cases q2 : rsv ρ S2 b with
    | none => simp only [q1, q2] at e; cases e
    | some b' =>
      simp only [q1, q2] at e
      exact hf w2 H2 v u a' b' d h2.t.sub (Rs.of h2.t h2.s ra' q1) (Rs.of h2.t h2.s rb q2) e _ fun H' gr => ⟨d, rfl, k d H' w2 ⟨Ex.refl _, rfl, gr, h2.t.sub.trans gr, fun _ _ h => .inl h⟩ rfl⟩
theorem pd_chain {op op' : CmpOp} {r r' : R2} {f g : D → D → Option Bool} (ho : OpR X (compareOp op) r) (ho' : OpR X (compareOp op') r') (hf : Cm2 X r f) (hg : Cm2 X r' g) (ha : PD X W z a ma) (hb : PD X W z b mb) (hc : PD X W z c mc)
    (hm : lastMarks [op, op'] [b, c] = false := by with_unfolding_all rfl) : PD X W z (.Compare a [op, op'] [b, c] pos) (m_chain f g ma mb mc) :=
  pe_mono (pe_chain ho ho' ha hb hc hm) fun _ _ _ h => chain_go hf hg h
/-- a value that is a bool, as a test -/
def m_isT (m : M D) : M Bool := m.bind fun d => M.lift fun _ _ => match d with
  | .bl b => some b
  | _ => none
theorem test_go {m : M D} {Q : Bool → Hp → Prop} (h : tT X.K X.mg W z (m_isT m) σ H Q) : tTest (tD X.K X.mg W z m) σ H Q := by
  obtain ⟨w, ρ, S, h⟩ := h
  refine ⟨w, ρ, S, h.bind fun d v w1 H1 S1 st rd h1 => ?_⟩
  obtain ⟨b, e, k⟩ := h1.lift
  cases d with
  | bl c =>
    cases e
    rcases rd with rd | ⟨_, _, z, _⟩
    · cases rd
      exact ⟨b, rfl, k b H1 w1 (Grow.refl h1.t.sub) rfl⟩
    · cases z
  | _ => cases e
theorem pdt_chain {op op' : CmpOp} {r r' : R2} {f g : D → D → Option Bool} (ho : OpR X (compareOp op) r) (ho' : OpR X (compareOp op') r') (hf : Cm2 X r f) (hg : Cm2 X r' g) (ha : PD X W z a ma) (hb : PD X W z b mb) (hc : PD X W z c mc)
    (hm : lastMarks [op, op'] [b, c] = false := by with_unfolding_all rfl) : PDT X W z (.Compare a [op, op'] [b, c] pos) (m_isT (m_chain f g ma mb mc)) :=
  pt_mono (pt_chain ho ho' ha hb hc hm) fun σ H Q h => by
    have := test_go h
    obtain ⟨w, ρ, S, h'⟩ := h
    have h2 : tD X.K X.mg W z (m_chain f g ma mb mc) σ H fun x H' => ∃ k, x = .bl k ∧ Q k H' := this
    exact chain_go hf hg h2

/-! ### truth, and, or, not, if else -/
def truth : D → Option Bool
  | .non => some false
  | .bl b => some b
  | .int i => some (i != 0)
  | .str y => if y.length ≤ sizeLine then some ((y.length : Int) != 0) else none
  | .tup ds => some (!ds.isEmpty)
  | .lst ds => some (!ds.isEmpty)
  | _ => none
theorem truth_ok {x : V} {d : D} {k : Bool} (sub : Ex w.G H) (r : Rs X.K X.mg w H x d) (e : truth d = some k) : TruV X.K x H k := by
  have emp : ∀ {xs : List V} {ds : List D}, DtA X.K X.mg w xs ds → xs.isEmpty = ds.isEmpty := fun h => by cases h <;> rfl
  cases d with
  | non => cases r; cases e; rfl
  | bl b => cases r; cases e; rfl
  | int i => cases r; cases e; rfl
  | str y =>
    cases r
    simp only [truth] at e
    split at e
    · cases e
      exact ⟨by assumption, rfl⟩
    · cases e
  | tup ds =>
    obtain ⟨a, xs, rfl, h, hs⟩ := r
    cases e
    exact .inr (.inl ⟨xs, ex_t sub h, by rw [emp hs]⟩)
  | lst ds =>
    obtain ⟨a, xs, rfl, h, hs⟩ := r
    cases e
    exact .inl ⟨xs, .inl h, by rw [emp hs]⟩
  | _ => cases e
def m_tr (m : M D) : M Bool := m.bind fun d => M.lift fun ρ S => (rsv ρ S d).bind truth
theorem tru_go {m : M D} {γ δ : Type} {rel : Rel δ γ} {f : D → Bool → M γ} {Q : δ → Hp → Prop} (h : Do X.K X.mg W z rel w σ H ρ S (m.bind fun d => (M.lift fun ρ S => (rsv ρ S d).bind truth).bind (f d)) Q) {k : V → Bool → Hp → Prop}
    (hk : ∀ d v b w1 H1 S1, Rr X.K X.mg w1 σ ρ v d → Do X.K X.mg W z rel w1 σ H1 ρ S1 (f d b) Q → k v b H1) : tD X.K X.mg W z m σ H fun x H1 => ∃ b, TruV X.K x H1 b ∧ k x b H1 := by
  refine ⟨w, ρ, S, h.bind fun d v w1 H1 S1 st rd h1 => ?_⟩
  have h2 : Do X.K X.mg W z relB w1 σ H1 ρ S1 (M.lift fun ρ S => (rsv ρ S d).bind truth) (fun b H2 => H2 = H1 → k v b H1) := by
    obtain ⟨t, s, r, S', e, p⟩ := h1
    refine ⟨t, s, ?_⟩
    unfold M.bind at e
    cases q : (M.lift fun ρ S => (rsv ρ S d).bind truth) ρ S1 with
    | none => rw [q] at e; cases e
    | some x =>
      obtain ⟨r1, S2⟩ := x
      rw [q] at e
      refine ⟨r1, S2, rfl, ?_⟩
      unfold M.lift at q
      dsimp only at q
      cases q2 : (rsv ρ S1 d).bind truth with
      | none => rw [q2] at q; cases q
      | some b =>
        rw [q2] at q
        cases q
        intro b' H2 w2 st2 t2 rl e2
        have rl : b' = b := rl
        subst rl
        exact hk d v b' w1 H1 S1 rd ⟨t, s, r, S', e, p⟩
  obtain ⟨b, e, kk⟩ := h2.lift
  cases q : rsv ρ S1 d with
  | none => rw [q] at e; cases e
  | some d' =>
    rw [q] at e
    exact ⟨b, truth_ok h1.t.sub (Rs.of h1.t h1.s rd q) e, kk b H1 w1 (Grow.refl h1.t.sub) rfl rfl⟩
def m_and (ma mb : M D) : M D := ma.bind fun a => (M.lift fun ρ S => (rsv ρ S a).bind truth).bind fun k => if k = true then mb else M.pure a
def m_or (ma mb : M D) : M D := ma.bind fun a => (M.lift fun ρ S => (rsv ρ S a).bind truth).bind fun k => if k = true then M.pure a else mb
def m_not (ma : M D) : M D := ma.bind fun a => (M.lift fun ρ S => (rsv ρ S a).bind truth).bind fun k => M.pure (.bl (!k))
def mt_and (ma mb : M Bool) : M Bool := ma.bind fun k => if k = true then mb else M.pure false
def mt_or (ma mb : M Bool) : M Bool := ma.bind fun k => if k = true then M.pure true else mb
def mt_not (ma : M Bool) : M Bool := ma.bind fun k => M.pure (!k)
def m_if (mt : M Bool) (ma mb : M D) : M D := mt.bind fun k => if k = true then ma else mb
variable {rest : List Expr} {e : Expr} {mt mu : M Bool}
theorem pd_one {op : BoolOp} (h : PD X W z a ma) : PD X W z (.BoolOp op [a] pos) ma := pe_one h
theorem pd_and (ha : PD X W z a ma) (hb : PD X W z (.BoolOp .And (b :: rest) pos) mb) : PD X W z (.BoolOp .And (a :: b :: rest) pos) (m_and ma mb) :=
  pe_mono (pe_andT ha hb) fun σ H Q h => by
    obtain ⟨w, ρ, S, h⟩ := h
    refine tru_go (k := fun x b H1 => if b = true then tD X.K X.mg W z mb σ H1 Q else Q x H1) h fun d v b w1 H1 S1 rd h1 => ?_
    cases b with
    | true => exact ⟨w1, ρ, S1, h1⟩
    | false => exact h1.pure v rd
theorem pd_or (ha : PD X W z a ma) (hb : PD X W z (.BoolOp .Or (b :: rest) pos) mb) : PD X W z (.BoolOp .Or (a :: b :: rest) pos) (m_or ma mb) :=
  pe_mono (pe_orT ha hb) fun σ H Q h => by
    obtain ⟨w, ρ, S, h⟩ := h
    refine tru_go (k := fun x b H1 => if b = true then Q x H1 else tD X.K X.mg W z mb σ H1 Q) h fun d v b w1 H1 S1 rd h1 => ?_
    cases b with
    | true => exact h1.pure v rd
    | false => exact ⟨w1, ρ, S1, h1⟩
theorem pd_not (ha : PD X W z a ma) : PD X W z (.UnaryOp .Not a pos) (m_not ma) :=
  pe_mono (pe_notT ha) fun σ H Q h => by
    obtain ⟨w, ρ, S, h⟩ := h
    exact tru_go (k := fun x b H1 => Q (.bl (!b)) H1) h fun d v b w1 H1 S1 rd h1 => h1.pure _ (.inl (.bl _))
theorem pdt_val (ha : PD X W z a ma) (he : ∀ whole, isTrue a X.env whole = (do let v ← whole; standAt a.pos; holding [v] (truthy v)) := by intro _; rfl) : PDT X W z a (m_tr ma) :=
  pt_mono (pt_truth ha he) fun σ H Q h => by
    obtain ⟨w, ρ, S, h⟩ := h
    have h' : Do X.K X.mg W z relB w σ H ρ S (ma.bind fun d => (M.lift fun ρ S => (rsv ρ S d).bind truth).bind fun b => M.pure b) Q := by
      obtain ⟨t, s, r, S', e, p⟩ := h
      refine ⟨t, s, r, S', ?_, p⟩
      rw [← e]
      unfold m_tr M.bind
      cases ma ρ S with
      | none => rfl
      | some x =>
        obtain ⟨r1, S1⟩ := x
        cases r1 with
        | er c fs => rfl
        | ok d =>
          dsimp only [M.lift, M.pure]
          cases (rsv ρ S1 d).bind truth <;> rfl
    exact tru_go (k := fun x b H1 => Q b H1) h' fun d v b w1 H1 S1 rd h1 => h1.pure _ rfl
theorem pdw_and1 (ha : PDT X W z a mt) : PDW X W z (.BoolOp .And [a] pos) mt := pw_and1 ha
theorem pdw_or1 (ha : PDT X W z a mt) : PDW X W z (.BoolOp .Or [a] pos) mt := pw_or1 ha
theorem pdw_and (ha : PDT X W z a mt) (hb : PDW X W z (.BoolOp .And (b :: rest) pos) mu) : PDW X W z (.BoolOp .And (a :: b :: rest) pos) (mt_and mt mu) :=
  pw_mono (pw_and ha hb) fun σ H Q h => by
    obtain ⟨w, ρ, S, h⟩ := h
    refine ⟨w, ρ, S, h.bind (rel1 := relB) fun k k' w1 H1 S1 st rk h1 => ?_⟩
    have rk : k' = k := rk
    subst rk
    cases k' with
    | true => exact ⟨w1, ρ, S1, h1⟩
    | false => exact h1.pure _ rfl
theorem pdw_or (ha : PDT X W z a mt) (hb : PDW X W z (.BoolOp .Or (b :: rest) pos) mu) : PDW X W z (.BoolOp .Or (a :: b :: rest) pos) (mt_or mt mu) :=
  pw_mono (pw_or ha hb) fun σ H Q h => by
    obtain ⟨w, ρ, S, h⟩ := h
    refine ⟨w, ρ, S, h.bind (rel1 := relB) fun k k' w1 H1 S1 st rk h1 => ?_⟩
    have rk : k' = k := rk
    subst rk
    cases k' with
    | true => exact h1.pure _ rfl
    | false => exact ⟨w1, ρ, S1, h1⟩
theorem pdt_bool (h : PDW X W z e mt) : PDT X W z e mt := h.pt
theorem pdt_not (ha : PDT X W z a mt) : PDT X W z (.UnaryOp .Not a pos) (mt_not mt) :=
  pt_mono (pt_not ha) fun σ H Q h => by
    obtain ⟨w, ρ, S, h⟩ := h
    refine ⟨w, ρ, S, h.bind (rel1 := relB) fun k k' w1 H1 S1 st rk h1 => ?_⟩
    have rk : k' = k := rk
    subst rk
    exact h1.pure _ rfl
theorem pd_if {ct : Expr} (hc : PDT X W z ct mt) (ha : PD X W z a ma) (hb : PD X W z b mb) : PD X W z (.IfExp ct a b pos) (m_if mt ma mb) :=
  pe_mono (pe_ifExp hc ha hb) fun σ H Q h => by
    obtain ⟨w, ρ, S, h⟩ := h
    refine ⟨w, ρ, S, h.bind (rel1 := relB) fun k k' w1 H1 S1 st rk h1 => ?_⟩
    have rk : k' = k := rk
    subst rk
    cases k' with
    | true => exact ⟨w1, ρ, S1, h1⟩
    | false => exact ⟨w1, ρ, S1, h1⟩

/-! ### argument lists, tuples, lists -/
def ma_nil : M (List D) := M.pure []
def ma_cons (m : M D) (ms : M (List D)) : M (List D) := m.bind fun d => ms.bind fun ds => M.pure (d :: ds)
variable {es : List Expr} {ms : M (List D)}
theorem pda_nil : PDA X W z [] ma_nil := pa_mono pa_nil fun σ H Q h => by
  obtain ⟨w, ρ, S, h⟩ := h
  exact h.pure [] .nil
theorem pda_cons (ha : PD X W z e ma) (hr : PDA X W z es ms) (hs : starEach (e :: es) X.env = (false, eval e X.env) :: starEach es X.env := by rfl) : PDA X W z (e :: es) (ma_cons ma ms) :=
  pa_mono (pa_cons ha hr hs) fun σ H Q h => by
    obtain ⟨w, ρ, S, h⟩ := h
    refine ⟨w, ρ, S, h.bind fun d v w1 H1 S1 st1 rd h1 => ⟨w1, ρ, S1, h1.bind (rel1 := relA X.K X.mg σ ρ) fun ds vs w2 H2 S2 st2 rds h2 => ?_⟩⟩
    exact h2.pure (v :: vs) (.cons (Rr.mono st2.le rd) rds)
/-- no list that still changes -/
def fixed : D → Bool
  | .loc _ => false
  | _ => true
theorem RrA.fix {vs : List V} {ds : List D} (h : RrA K mg w σ ρ vs ds) (f : ds.all fixed = true) : DtA K mg w vs ds := by
  induction h with
  | nil => exact .nil
  | cons h hs ih =>
    simp only [List.all_cons, Bool.and_eq_true] at f
    refine .cons ?_ (ih f.2)
    rcases h with h | ⟨i, o, rfl, _⟩
    · exact h
    · exact absurd f.1 (by simp [fixed])
def m_tup (ms : M (List D)) : M D := ms.bind fun ds => M.lift fun _ _ => if ds.all fixed = true ∧ ds.length ≤ sizeLine then some (.tup ds) else none
def m_lst (ms : M (List D)) : M D := ms.bind fun ds => M.lift fun _ _ => if ds.all fixed = true ∧ ds.length ≤ sizeLine then some (.lst ds) else none
theorem pd_tup {k : Nat} (h : PDA X W z es ms) : PD X W z (.Tuple es k pos) (m_tup ms) :=
  pe_mono (pe_tup h) fun σ H Q h => by
    obtain ⟨w, ρ, S, h⟩ := h
    refine ⟨w, ρ, S, h.bind (rel1 := relA X.K X.mg σ ρ) fun ds vs w1 H1 S1 st rds h1 => ?_⟩
    obtain ⟨d, e, k⟩ := h1.lift
    split at e
    · rename_i c
      cases e
      have hd := rds.fix c.1
      refine ⟨by rw [hd.length]; exact c.2, fun p np => ?_⟩
      have g := Grow.new (o := .tup vs) h1.t.sub np
      exact k _ _ _ g (.inl (.tup (st_of upd_same) (hd.mono g.le)))
    · cases e
theorem pd_lst (h : PDA X W z es ms) : PD X W z (.List es pos) (m_lst ms) :=
  pe_mono (pe_lst h) fun σ H Q h => by
    obtain ⟨w, ρ, S, h⟩ := h
    refine ⟨w, ρ, S, h.bind (rel1 := relA X.K X.mg σ ρ) fun ds vs w1 H1 S1 st rds h1 => ?_⟩
    obtain ⟨d, e, k⟩ := h1.lift
    split at e
    · rename_i c
      cases e
      have hd := rds.fix c.1
      refine ⟨by rw [hd.length]; exact c.2, fun p np => ?_⟩
      have g := Grow.new (o := .lst vs) h1.t.sub np
      exact k _ _ _ g (.inl (.lst (Rd.of upd_same) (hd.mono g.le)))
    · cases e
end
end Pd

/-! Statements whose meaning is a function of data. -/
namespace Pd
open PySem L2 Evl Hg

theorem ps_mono {X : Cx} {st : Stmt} {t t' : TS} (h : PS X st t) (k : ∀ D σ H, t' D σ H → t D σ H) : PS X st t' := ⟨fun pins s σ H D I w => h.run pins s σ H D I (k D σ H w)⟩
theorem pss_mono {X : Cx} {st : List Stmt} {t t' : TS} (h : PSs X st t) (k : ∀ D σ H, t' D σ H → t D σ H) : PSs X st t' := ⟨fun pins s σ H D I w => h.run pins s σ H D I (k D σ H w)⟩
theorem pg_mono {X : Cx} {e : Expr} {t t' : TG} (h : PG X e t) (k : ∀ v σ H Q, t' v σ H Q → t v σ H Q) : PG X e t' := ⟨fun pins s σ H v u Q I r w => h.run pins s σ H v u Q I r (k v σ H Q w)⟩
theorem pgs_mono {X : Cx} {e : List Expr} {t t' : TGs} (h : PGs X e t) (k : ∀ v σ H Q, t' v σ H Q → t v σ H Q) : PGs X e t' := ⟨fun pins s σ H v u Q I r w => h.run pins s σ H v u Q I r (k v σ H Q w)⟩

inductive Fl where
  | nx | bk | ct | rt (d : D) | er (c : Str) (fs : List (Str × D))
abbrev SM := Rho → Sto → Option (Fl × Rho × Sto)
def M.toS {α : Type} (m : M α) (f : α → SM) : SM := fun ρ S =>
  match m ρ S with
  | some (.ok a, S1) => f a ρ S1
  | some (.er c fs, S1) => some (.er c fs, ρ, S1)
  | none => none
/-- the world and the heap at a def's entry -/
structure W0 where
  w : Wd
  h : Hp
section
variable (K : PySem.W.Frag) (mg : Str → Option Value) (W : WX) (z : Option Zi) (w0 : W0)
structure StS (w : Wd) (σ : L2.St) (H : Hp) (ρ : Rho) (S : Sto) : Prop where
  t : At K mg w H S
  s : Sl K mg z w H σ ρ
  lo : ∀ (i : Nat) (o : Mo) (a : Addr), ρ[i]? = some (Sv.m o) → σ[i]? = some (some (.ref a)) → w0.h a = none
  st : Stp w0.w w w0.h H
def Pss (w : Wd) (fl : Fl) (ρ' : Rho) (S' : Sto) (Dn : Ends) : Prop :=
  match fl with
  | .nx => ∀ σ' H' w', Le w w' → StS K mg z w0 w' σ' H' ρ' S' → Dn.nx σ' H'
  | .bk => ∀ σ' H' w', Le w w' → StS K mg z w0 w' σ' H' ρ' S' → Dn.bk σ' H'
  | .ct => ∀ σ' H' w', Le w w' → StS K mg z w0 w' σ' H' ρ' S' → Dn.ct σ' H'
  | .rt d => ∀ v σ' H' w', Le w w' → StS K mg z w0 w' σ' H' ρ' S' → Dt K mg w' v d → Dn.rt v H'
  | .er c fs => ∀ σ' H' w' cls dx, Le w w' → StS K mg z w0 w' σ' H' ρ' S' → Xr K mg w' cls dx c fs → W cls dx σ' H'
structure DoS (w : Wd) (σ : L2.St) (H : Hp) (ρ : Rho) (S : Sto) (m : SM) (Dn : Ends) : Prop where
  st : StS K mg z w0 w σ H ρ S
  go : ∃ fl ρ' S', m ρ S = some (fl, ρ', S') ∧ Pss K mg W z w0 w fl ρ' S' Dn
def tS (m : SM) : TS := fun Dn σ H => ∃ w ρ S, DoS K mg W z w0 w σ H ρ S m Dn
end
section
variable (X : Cx) (W : WX) (z : Option Zi) (w0 : W0)
abbrev PDS (st : Stmt) (m : SM) : Prop := PS X st (tS X.K X.mg W z w0 m)
abbrev PDSs (sts : List Stmt) (m : SM) : Prop := PSs X sts (tS X.K X.mg W z w0 m)
/-- the slots of tv alone are other ones -/
structure Sam (tv : List Nat) (σ σ' : L2.St) (ρ ρ' : Rho) : Prop where
  l : ρ'.length = ρ.length
  σ : ∀ i, i ∉ tv → σ'[i]? = σ[i]?
  ρ : ∀ (i : Nat) (o : Mo), ρ'[i]? = some (Sv.m o) → i ∉ tv ∧ ρ[i]? = some (Sv.m o)
/-- a target's meaning -/
def tG (K : PySem.W.Frag) (mg : Str → Option Value) (z : Option Zi) (tv : List Nat) (g : D → Rho → Option Rho) : TG := fun v σ H Q => ∃ w ρ S d ρ', At K mg w H S ∧ Sl K mg z w H σ ρ ∧ Dt K mg w v d ∧ g d ρ = some ρ' ∧ ∀ σ', Sl K mg z w H σ' ρ' → Sam tv σ σ' ρ ρ' → Q σ' H
def tGs (K : PySem.W.Frag) (mg : Str → Option Value) (z : Option Zi) (tv : List Nat) (g : List D → Rho → Option Rho) : TGs := fun vs σ H Q => ∃ w ρ S ds ρ', At K mg w H S ∧ Sl K mg z w H σ ρ ∧ DtA K mg w vs ds ∧ g ds ρ = some ρ' ∧ ∀ σ', Sl K mg z w H σ' ρ' → Sam tv σ σ' ρ ρ' → Q σ' H
abbrev PDG (tv : List Nat) (e : Expr) (g : D → Rho → Option Rho) : Prop := PG X e (tG X.K X.mg z tv g)
abbrev PDGs (tv : List Nat) (es : List Expr) (g : List D → Rho → Option Rho) : Prop := PGs X es (tGs X.K X.mg z tv g)
end
section
variable {X : Cx} {W : WX} {z : Option Zi} {w0 : W0} {w w' : Wd} {σ : L2.St} {H H' : Hp} {ρ ρ' : Rho} {S S' : Sto} {Dn : Ends}
theorem Pss.mono {K : PySem.W.Frag} {mg : Str → Option Value} {fl : Fl} (l : Le w w') (p : Pss K mg W z w0 w fl ρ' S' Dn) : Pss K mg W z w0 w' fl ρ' S' Dn := by
  cases fl with
  | nx => exact fun σ' H' w2 l2 s => p σ' H' w2 (l.trans l2) s
  | bk => exact fun σ' H' w2 l2 s => p σ' H' w2 (l.trans l2) s
  | ct => exact fun σ' H' w2 l2 s => p σ' H' w2 (l.trans l2) s
  | rt d => exact fun v σ' H' w2 l2 s => p v σ' H' w2 (l.trans l2) s
  | er c fs => exact fun σ' H' w2 cls dx l2 s => p σ' H' w2 cls dx (l.trans l2) s
theorem StS.step (s : StS X.K X.mg z w0 w σ H ρ S) (x : Stp w w' H H') (t : At X.K X.mg w' H' S') : StS X.K X.mg z w0 w' σ H' ρ S' := ⟨t, s.s.step x, s.lo, s.st.trans x⟩
theorem DoS.bind {α β : Type} {rel : Rel β α} {m : M α} {f : α → SM} {k : β → Hp → Prop} (h : DoS X.K X.mg W z w0 w σ H ρ S (m.toS f) Dn)
    (hk : ∀ a v w1 H1 S1, Stp w w1 H H1 → rel w1 H1 v a → DoS X.K X.mg W z w0 w1 σ H1 ρ S1 (f a) Dn → k v H1) : Do X.K X.mg W z rel w σ H ρ S m k := by
  obtain ⟨st, fl, ρ', S', e, p⟩ := h
  refine ⟨st.t, st.s, ?_⟩
  unfold M.toS at e
  cases q : m ρ S with
  | none => rw [q] at e; cases e
  | some x =>
    obtain ⟨r1, S1⟩ := x
    rw [q] at e
    refine ⟨r1, S1, rfl, ?_⟩
    cases r1 with
    | er c fs =>
      cases e
      exact fun H' w' cls dx x t' xr => p σ H' w' cls dx x.le (st.step x t') xr
    | ok a =>
      intro v H1 w1 x t1 rl
      exact hk a v w1 H1 S1 x rl ⟨st.step x t1, fl, ρ', S', e, p.mono x.le⟩

/-! ### rows of statements -/
def s_nx : SM := fun ρ S => some (.nx, ρ, S)
def s_seq (m n : SM) : SM := fun ρ S =>
  match m ρ S with
  | some (.nx, ρ1, S1) => n ρ1 S1
  | r => r
theorem DoS.nx (h : DoS X.K X.mg W z w0 w σ H ρ S s_nx Dn) : Dn.nx σ H := by
  obtain ⟨st, fl, ρ', S', e, p⟩ := h
  cases e
  exact p σ H w (Le.refl w) st
theorem DoS.seq {m n : SM} (h : DoS X.K X.mg W z w0 w σ H ρ S (s_seq m n) Dn) : DoS X.K X.mg W z w0 w σ H ρ S m { Dn with nx := tS X.K X.mg W z w0 n Dn } := by
  obtain ⟨st, fl, ρ', S', e, p⟩ := h
  refine ⟨st, ?_⟩
  unfold s_seq at e
  cases q : m ρ S with
  | none => rw [q] at e; cases e
  | some x =>
    obtain ⟨f1, ρ1, S1⟩ := x
    rw [q] at e
    refine ⟨f1, ρ1, S1, rfl, ?_⟩
    cases f1 with
    | nx => exact fun σ1 H1 w1 l s1 => ⟨w1, ρ1, S1, s1, fl, ρ', S', e, p.mono l⟩
    | bk => cases e; exact p
    | ct => cases e; exact p
    | rt d => cases e; exact p
    | er c fs => cases e; exact p
variable {st : Stmt} {rest : List Stmt} {m n : SM} {e : Expr} {me : M D} {pos : Pos}
theorem pds_nil : PDSs X W z w0 [] s_nx := pss_mono pss_nil fun Dn σ H h => by
  obtain ⟨w, ρ, S, h⟩ := h
  exact h.nx
theorem pds_cons (h1 : PDS X W z w0 st m) (h2 : PDSs X W z w0 rest n) : PDSs X W z w0 (st :: rest) (s_seq m n) := pss_mono (pss_cons h1 h2) fun Dn σ H h => by
  obtain ⟨w, ρ, S, h⟩ := h
  exact ⟨w, ρ, S, h.seq⟩
theorem pds_onE (h1 : PDS X W z w0 st m) : PDSs X W z w0 [st] m := pss_one h1
def s_bk : SM := fun ρ S => some (.bk, ρ, S)
def s_ct : SM := fun ρ S => some (.ct, ρ, S)
theorem pds_pass : PDS X W z w0 (.Pass pos) s_nx := ps_mono ps_pass fun Dn σ H h => by
  obtain ⟨w, ρ, S, h⟩ := h
  exact h.nx
theorem pds_break : PDS X W z w0 (.Break pos) s_bk := ps_mono ps_break fun Dn σ H h => by
  obtain ⟨w, ρ, S, st, fl, ρ', S', e, p⟩ := h
  cases e
  exact p σ H w (Le.refl w) st
theorem pds_continue : PDS X W z w0 (.Continue pos) s_ct := ps_mono ps_continue fun Dn σ H h => by
  obtain ⟨w, ρ, S, st, fl, ρ', S', e, p⟩ := h
  cases e
  exact p σ H w (Le.refl w) st
/-- an expression, dropped -/
def s_ex (me : M D) : SM := me.toS fun _ => s_nx
theorem pds_expr (he : PD X W z e me) (hs : swapsWith e none pos.line X.env = pure false := by rfl) : PDS X W z w0 (.Expr e pos) (s_ex me) := ps_mono (ps_expr he hs) fun Dn σ H h => by
  obtain ⟨w, ρ, S, h⟩ := h
  exact ⟨w, ρ, S, h.bind fun d v w1 H1 S1 x rd h1 => h1.nx⟩
def s_ret (me : M D) : SM := me.toS fun d ρ S => if fixed d = true then some (.rt d, ρ, S) else none
theorem pds_ret (he : PD X W z e me) : PDS X W z w0 (.Return (some e) pos) (s_ret me) := ps_mono (ps_ret he) fun Dn σ H h => by
  obtain ⟨w, ρ, S, h⟩ := h
  refine ⟨w, ρ, S, h.bind fun d v w1 H1 S1 x rd h1 => ?_⟩
  obtain ⟨st, fl, ρ', S', e, p⟩ := h1
  split at e
  · rename_i f
    cases e
    rcases rd with rd | ⟨i, o, rfl, _⟩
    · exact p v σ H1 w1 (Le.refl _) st rd
    · exact absurd f (by simp [fixed])
  · cases e
def s_retN : SM := fun ρ S => some (.rt .non, ρ, S)
theorem pds_retN : PDS X W z w0 (.Return none pos) s_retN := ps_mono ps_retN fun Dn σ H h => by
  obtain ⟨w, ρ, S, st, fl, ρ', S', e, p⟩ := h
  cases e
  exact p .non σ H w (Le.refl w) st .non
def s_if (mt : M Bool) (m n : SM) : SM := mt.toS fun b => if b = true then m else n
theorem pds_if {c : Expr} {a b : List Stmt} {mt : M Bool} (hc : PDT X W z c mt) (ha : PDSs X W z w0 a m) (hb : PDSs X W z w0 b n) : PDS X W z w0 (.If c a b pos) (s_if mt m n) := ps_mono (ps_if hc ha hb) fun Dn σ H h => by
  obtain ⟨w, ρ, S, h⟩ := h
  refine ⟨w, ρ, S, h.bind (rel := relB) fun k k' w1 H1 S1 x rk h1 => ?_⟩
  have rk : k' = k := rk
  subst rk
  cases k' with
  | true => exact ⟨w1, ρ, S1, h1⟩
  | false => exact ⟨w1, ρ, S1, h1⟩

/-! ### slots -/
theorem set_get {α : Type} {l : List α} {i j : Nat} {a b : α} (h : (l.set i a)[j]? = some b) : (j = i ∧ b = a) ∨ (j ≠ i ∧ l[j]? = some b) := by
  by_cases e : j = i
  · subst e
    have := (List.getElem?_eq_some_iff.mp h).1
    rw [List.length_set] at this
    rw [List.getElem?_set_self this] at h
    exact .inl ⟨rfl, (Option.some.inj h).symm⟩
  · rw [List.getElem?_set_ne (Ne.symm e)] at h
    exact .inr ⟨e, h⟩
/-- slot i gets a datum -/
theorem Sl.set {v : V} {d : D} {i : Nat} (s : Sl X.K X.mg z w H σ ρ) (h : Dt X.K X.mg w v d) (hz : ∀ zi : Zi, z = some zi → zi.i ≠ i) : Sl X.K X.mg z w H (σ.set i (some v)) (ρ.set i (.d d)) := by
  refine ⟨by simp [s.len], fun j d' e => ?_, fun j o e => ?_, fun j k oj ok a e1 e2 e3 e4 => ?_, fun zi e => ?_⟩
  · rcases set_get e with ⟨rfl, e2⟩ | ⟨n, e2⟩
    · cases e2
      refine ⟨v, List.getElem?_set_self ?_, h⟩
      have := (List.getElem?_eq_some_iff.mp e).1
      rw [s.len]
      simpa using this
    · obtain ⟨u, e', r⟩ := s.dat j d' e2
      exact ⟨u, by rw [List.getElem?_set_ne (Ne.symm n)]; exact e', r⟩
  · rcases set_get e with ⟨rfl, e2⟩ | ⟨n, e2⟩
    · cases e2
    · obtain ⟨a, e', r⟩ := s.mt j o e2
      exact ⟨a, by rw [List.getElem?_set_ne (Ne.symm n)]; exact e', r⟩
  · rcases set_get e1 with ⟨_, e⟩ | ⟨n1, e1⟩
    · cases e
    rcases set_get e2 with ⟨_, e⟩ | ⟨n2, e2⟩
    · cases e
    rw [List.getElem?_set_ne (Ne.symm n1)] at e3
    rw [List.getElem?_set_ne (Ne.symm n2)] at e4
    exact s.sep j k oj ok a e1 e2 e3 e4
  · rw [List.getElem?_set_ne (Ne.symm (hz zi e))]
    exact s.exc zi e
theorem StS.set {v : V} {d : D} {i : Nat} (s : StS X.K X.mg z w0 w σ H ρ S) (h : Dt X.K X.mg w v d) (hz : ∀ zi : Zi, z = some zi → zi.i ≠ i) : StS X.K X.mg z w0 w (σ.set i (some v)) H (ρ.set i (.d d)) S := by
  refine ⟨s.t, s.s.set h hz, fun j o a e1 e2 => ?_, s.st⟩
  rcases set_get e1 with ⟨_, e⟩ | ⟨n, e1⟩
  · cases e
  rw [List.getElem?_set_ne (Ne.symm n)] at e2
  exact s.lo j o a e1 e2
/-- slot i gets a new thing that may change -/
theorem StS.setM {o : Mo} {a : Addr} {i : Nat} (s : StS X.K X.mg z w0 w σ H ρ S) (hg : w.G a = none) (hn : a ∉ w.al) (hm : MoOk X.K X.mg w H a o) (h0 : w0.h a = none) (hz : ∀ zi : Zi, z = some zi → zi.i ≠ i)
    (hf : ∀ (j : Nat) (o' : Mo), j ≠ i → ρ[j]? = some (Sv.m o') → σ[j]? ≠ some (some (.ref a))) : StS X.K X.mg z w0 w (σ.set i (some (.ref a))) H (ρ.set i (.m o)) S := by
  refine ⟨s.t, ⟨by simp [s.s.len], fun j d' e => ?_, fun j o e => ?_, fun j k oj ok b e1 e2 e3 e4 => ?_, fun zi e => ?_⟩, fun j o' b e1 e2 => ?_, s.st⟩
  · rcases set_get e with ⟨_, e⟩ | ⟨n, e⟩
    · cases e
    · obtain ⟨u, e', r⟩ := s.s.dat j d' e
      exact ⟨u, by rw [List.getElem?_set_ne (Ne.symm n)]; exact e', r⟩
  · rcases set_get e with ⟨rfl, e2⟩ | ⟨n, e⟩
    · cases e2
      refine ⟨a, List.getElem?_set_self ?_, hg, hn, hm⟩
      have := (List.getElem?_eq_some_iff.mp e).1
      rw [s.s.len]
      simpa using this
    · obtain ⟨b, e', r⟩ := s.s.mt j o e
      exact ⟨b, by rw [List.getElem?_set_ne (Ne.symm n)]; exact e', r⟩
  · rcases set_get e1 with ⟨rfl, _⟩ | ⟨n1, f1⟩
    · rcases set_get e2 with ⟨rfl, _⟩ | ⟨n2, f2⟩
      · rfl
      · rw [List.getElem?_set_ne (Ne.symm n2)] at e4
        rcases set_get e3 with ⟨_, e⟩ | ⟨n, _⟩
        · cases e
          exact absurd e4 (hf k ok n2 f2)
        · exact absurd rfl n
    · rw [List.getElem?_set_ne (Ne.symm n1)] at e3
      rcases set_get e2 with ⟨rfl, _⟩ | ⟨n2, f2⟩
      · rcases set_get e4 with ⟨_, e⟩ | ⟨n, _⟩
        · cases e
          exact absurd e3 (hf j oj n1 f1)
        · exact absurd rfl n
      · rw [List.getElem?_set_ne (Ne.symm n2)] at e4
        exact s.s.sep j k oj ok b f1 f2 e3 e4
  · rw [List.getElem?_set_ne (Ne.symm (hz zi e))]
    exact s.s.exc zi e
  · rcases set_get e1 with ⟨rfl, _⟩ | ⟨n, e1⟩
    · rcases set_get e2 with ⟨_, e⟩ | ⟨n, _⟩
      · cases e
        exact h0
      · exact absurd rfl n
    · rw [List.getElem?_set_ne (Ne.symm n)] at e2
      exact s.lo j o' b e1 e2
/-! ### targets -/
def g_name (i : Nat) : D → Rho → Option Rho := fun d ρ => some (ρ.set i (.d d))
theorem Sam.trans {t1 t2 : List Nat} {σ1 σ2 : L2.St} {ρ1 ρ2 : Rho} (x : Sam t1 σ σ1 ρ ρ1) (y : Sam t2 σ1 σ2 ρ1 ρ2) : Sam (t1 ++ t2) σ σ2 ρ ρ2 := by
  refine ⟨y.l.trans x.l, fun i h => ?_, fun i o h => ?_⟩
  · simp only [List.mem_append, not_or] at h
    exact (y.σ i h.2).trans (x.σ i h.1)
  · obtain ⟨n2, h2⟩ := y.ρ i o h
    obtain ⟨n1, h1⟩ := x.ρ i o h2
    exact ⟨by simp only [List.mem_append, not_or]; exact ⟨n1, n2⟩, h1⟩
theorem Sam.set (i : Nat) (v : V) (d : D) : Sam [i] σ (σ.set i (some v)) ρ (ρ.set i (.d d)) := by
  refine ⟨by simp, fun j h => List.getElem?_set_ne (fun e => h (by simp [e])), fun j o e => ?_⟩
  rcases set_get e with ⟨_, e⟩ | ⟨n, e⟩
  · cases e
  · exact ⟨by simpa using n, e⟩
theorem StS.sam {tv : List Nat} {σ' : L2.St} (s : StS X.K X.mg z w0 w σ H ρ S) (q : Sl X.K X.mg z w H σ' ρ') (h : Sam tv σ σ' ρ ρ') : StS X.K X.mg z w0 w σ' H ρ' S := by
  refine ⟨s.t, q, fun i o a e1 e2 => ?_, s.st⟩
  obtain ⟨n, e⟩ := h.ρ i o e1
  exact s.lo i o a e (by rw [← h.σ i n]; exact e2)
theorem pdg_name {i : Nat} {x : Str} (h : PG X (.Name x pos) (gName i)) (hz : ∀ zi : Zi, z = some zi → zi.i ≠ i) : PDG X z [i] (.Name x pos) (g_name i) := pg_mono h fun v σ H Q hq => by
  obtain ⟨w, ρ, S, d, ρ', t, s, hd, e, k⟩ := hq
  cases e
  exact k _ (s.set hd hz) (.set i v d)
def g_nil : List D → Rho → Option Rho := fun ds ρ => if ds.isEmpty = true then some ρ else none
def g_cons (g : D → Rho → Option Rho) (gs : List D → Rho → Option Rho) : List D → Rho → Option Rho := fun ds ρ =>
  match ds with
  | d :: r => match g d ρ with
    | some ρ1 => gs r ρ1
    | none => none
  | [] => none
variable {es : List Expr} {g : D → Rho → Option Rho} {gs : List D → Rho → Option Rho} {tv tvs : List Nat}
theorem pdg_nil : PDGs X z [] [] g_nil := pgs_mono pgs_nil fun v σ H Q hq => by
  obtain ⟨w, ρ, S, d, ρ', t, s, hd, e, k⟩ := hq
  cases hd with
  | nil => cases e; exact ⟨rfl, k σ s ⟨rfl, fun _ _ => rfl, fun _ _ e => ⟨by simp, e⟩⟩⟩
  | cons _ _ => cases e
theorem pdg_cons (h1 : PDG X z tv e g) (h2 : PDGs X z tvs es gs) (hs : (assignEach (e :: es) X.env).map (·.2) = assign e X.env :: (assignEach es X.env).map (·.2) := by rfl) : PDGs X z (tv ++ tvs) (e :: es) (g_cons g gs) :=
  pgs_mono (pgs_cons h1 h2 hs) fun v σ H Q hq => by
    obtain ⟨w, ρ, S, ds, ρ', t, s, hd, e, k⟩ := hq
    cases hd with
    | nil => cases e
    | cons h hs =>
      rename_i v vs d ds
      have e : (match g d ρ with
        | some ρ1 => gs ds ρ1
        | none => none) = some ρ' := e
      cases q : g d ρ with
      | none => rw [q] at e; cases e
      | some ρ1 =>
        rw [q] at e
        exact ⟨v, vs, rfl, w, ρ, S, d, ρ1, t, s, h, q, fun σ1 s1 y1 => ⟨w, ρ1, S, ds, ρ', t, s1, hs, e, fun σ2 s2 y2 => k σ2 s2 (y1.trans y2)⟩⟩
def g_tup (n : Nat) (gs : List D → Rho → Option Rho) : D → Rho → Option Rho := fun d ρ =>
  match d with
  | .tup ds => if ds.length = n then gs ds ρ else none
  | _ => none
theorem pdg_tupK {n k : Nat} (K : PySem.W.Frag) (hc : X.calm = true) (h : PDGs X z tv es gs) (hn : (assignEach es X.env).length = n := by rfl) (hst : (assignEach es X.env).findIdx? (·.1) = none := by rfl) : PDG X z tv (.Tuple es k pos) (g_tup n gs) :=
  pg_mono (pg_tup hc h hn hst) fun v σ H Q hq => by
    obtain ⟨w, ρ, S, d, ρ', t, s, hd, e, k⟩ := hq
    cases hd with
    | tup ht hs =>
      rename_i a xs ds
      have e : (if ds.length = n then gs ds ρ else none) = some ρ' := e
      split at e
      · rename_i hl
        exact ⟨a, xs, rfl, ex_t t.sub ht, by rw [hs.length]; exact hl, w, ρ, S, ds, ρ', t, s, hs, e, k⟩
      · cases e
    | _ => cases e
/-- target = e -/
def s_asg (g : D → Rho → Option Rho) (me : M D) : SM := me.toS fun d ρ S => if fixed d = true then match g d ρ with
  | some ρ' => some (.nx, ρ', S)
  | none => none else none
theorem asg_go {tg : TG} (hg : ∀ v σ H Q, tG X.K X.mg z tv g v σ H Q → tg v σ H Q) (h : tS X.K X.mg W z w0 (s_asg g me) Dn σ H) : tAsg (tD X.K X.mg W z me) tg Dn σ H := by
  obtain ⟨w, ρ, S, h⟩ := h
  refine ⟨w, ρ, S, h.bind fun d v w1 H1 S1 x rd h1 => hg _ _ _ _ ?_⟩
  obtain ⟨st, fl, ρ', S', e, p⟩ := h1
  split at e
  · rename_i f
    cases q : g d ρ with
    | none => rw [q] at e; cases e
    | some ρ1 =>
      rw [q] at e
      cases e
      rcases rd with rd | ⟨i, o, rfl, _⟩
      · exact ⟨w1, ρ, S1, d, _, st.t, st.s, rd, q, fun σ' s' y => p σ' H1 w1 (Le.refl _) (st.sam s' y)⟩
      · exact absurd f (by simp [fixed])
  · cases e
theorem pds_asg {tg : Expr} (he : PD X W z e me) (hg : PDG X z tv tg g) (hs : swapsWithSole [tg] e pos.line X.env = pure false := by rfl) (hw : swappedStores [tg] e X.env = pure none := by rfl)
    (h1 : (assignEach [tg] X.env).map (·.2) = [assign tg X.env] := by rfl) : PDS X W z w0 (.Assign [tg] e pos) (s_asg g me) :=
  ps_mono (ps_asg he hg hs hw h1) fun Dn σ H h => asg_go (fun _ _ _ _ q => q) h
/-- any statement that reads as tAsg .. (gName i) -/
theorem pds_set {i : Nat} (h : PS X st (tAsg (tD X.K X.mg W z me) (gName i))) (hz : ∀ zi : Zi, z = some zi → zi.i ≠ i) : PDS X W z w0 st (s_asg (g_name i) me) :=
  ps_mono h fun Dn σ H h => asg_go (tv := [i]) (fun v σ H Q hq => by
    obtain ⟨w, ρ, S, d, ρ', t, s, hd, e, k⟩ := hq
    cases e
    exact k _ (s.set hd hz) (.set i v d)) h
/-- a, b = x, y -/
def s_par (i j : Nat) (ms : M (List D)) : SM := ms.toS fun ds ρ S => match ds with
  | [a, b] => if fixed a = true ∧ fixed b = true then some (.nx, (ρ.set i (.d a)).set j (.d b), S) else none
  | _ => none
def s_par3 (i j l : Nat) (ms : M (List D)) : SM := ms.toS fun ds ρ S => match ds with
  | [a, b, c] => if fixed a = true ∧ fixed b = true ∧ fixed c = true then some (.nx, ((ρ.set i (.d a)).set j (.d b)).set l (.d c), S) else none
  | _ => none
theorem Rr.dt {K : PySem.W.Frag} {mg : Str → Option Value} {v : V} {d : D} (h : Rr K mg w σ ρ v d) (f : fixed d = true) : Dt K mg w v d := by
  rcases h with h | ⟨i, o, rfl, _⟩
  · exact h
  · exact absurd f (by simp [fixed])
theorem pds_par {i j : Nat} {ms : M (List D)} (h : PS X st (tPar i j (tA X.K X.mg W z ms))) (hz : ∀ zi : Zi, z = some zi → zi.i ≠ i ∧ zi.i ≠ j) : PDS X W z w0 st (s_par i j ms) :=
  ps_mono h fun Dn σ H h => by
    obtain ⟨w, ρ, S, h⟩ := h
    refine ⟨w, ρ, S, h.bind (rel := relA X.K X.mg σ ρ) fun ds vs w1 H1 S1 x rds h1 => ?_⟩
    obtain ⟨st, fl, ρ', S', e, p⟩ := h1
    cases rds with
    | nil => cases e
    | cons r1 rds =>
      cases rds with
      | nil => cases e
      | cons r2 rds =>
        cases rds with
        | cons _ _ => cases e
        | nil =>
          dsimp only at e
          split at e
          · rename_i f
            cases e
            exact ⟨_, _, rfl, p _ H1 w1 (Le.refl _) ((st.set (r1.dt f.1) fun zi e => (hz zi e).1).set (r2.dt f.2) fun zi e => (hz zi e).2)⟩
          · cases e
theorem pds_par3 {i j l : Nat} {ms : M (List D)} (h : PS X st (tPar3 i j l (tA X.K X.mg W z ms))) (hz : ∀ zi : Zi, z = some zi → zi.i ≠ i ∧ zi.i ≠ j ∧ zi.i ≠ l) : PDS X W z w0 st (s_par3 i j l ms) :=
  ps_mono h fun Dn σ H h => by
    obtain ⟨w, ρ, S, h⟩ := h
    refine ⟨w, ρ, S, h.bind (rel := relA X.K X.mg σ ρ) fun ds vs w1 H1 S1 x rds h1 => ?_⟩
    obtain ⟨st, fl, ρ', S', e, p⟩ := h1
    cases rds with
    | nil => cases e
    | cons r1 rds =>
      cases rds with
      | nil => cases e
      | cons r2 rds =>
        cases rds with
        | nil => cases e
        | cons r3 rds =>
          cases rds with
          | cons _ _ => cases e
          | nil =>
            dsimp only at e
            split at e
            · rename_i f
              cases e
              exact ⟨_, _, _, rfl, p _ H1 w1 (Le.refl _) (((st.set (r1.dt f.1) fun zi e => (hz zi e).1).set (r2.dt f.2.1) fun zi e => (hz zi e).2.1).set (r3.dt f.2.2) fun zi e => (hz zi e).2.2)⟩
            · cases e
/-- i op= e -/
def s_aug (i : Nat) (f : D → D → Option D) (me : M D) : SM := fun ρ S => match ρ[i]? with
  | some (.d x) => (me.toS fun y ρ S => match f x y with
    | some d => some (.nx, ρ.set i (.d d), S)
    | none => none) ρ S
  | _ => none
theorem pds_augI {i : Nat} {f : Int → Int → Int} (h : PS X st (tAug i (tD X.K X.mg W z me) (ipI f))) (hz : ∀ zi : Zi, z = some zi → zi.i ≠ i) :
    PDS X W z w0 st (s_aug i (fun a b => match a, b with | .int i, .int j => some (.int (f i j)) | _, _ => none) me) :=
  ps_mono h fun Dn σ H h => by
    obtain ⟨w, ρ, S, st, fl, ρ', S', e, p⟩ := h
    unfold s_aug at e
    cases q : ρ[i]? with
    | none => rw [q] at e; cases e
    | some sv =>
      rw [q] at e
      cases sv with
      | un => cases e
      | m o => cases e
      | d x =>
        obtain ⟨v, e1, hv⟩ := st.s.dat i x q
        have h' : DoS X.K X.mg W z w0 w σ H ρ S (me.toS fun y ρ S => match (match x, y with | .int i, .int j => some (Pd.D.int (f i j)) | _, _ => none) with
          | some d => some (.nx, ρ.set i (.d d), S)
          | none => none) Dn := ⟨st, fl, ρ', S', e, p⟩
        refine ⟨v, e1, w, ρ, S, h'.bind fun y u w1 H1 S1 x1 rd h1 => ?_⟩
        obtain ⟨st1, fl, ρ', S', e, p⟩ := h1
        split at e
        · rename_i d q2
          cases e
          split at q2
          · rename_i i1 j1
            cases q2
            cases hv
            rcases rd with rd | ⟨_, _, z, _⟩
            · cases rd
              exact ⟨i1, j1, rfl, rfl, p _ H1 w1 (Le.refl _) (st1.set (.int _) hz)⟩
            · cases z
          · cases q2
        · cases e
/-! ### what slot i holds changes no more -/
def frz1 (i : Nat) (ρ : Rho) : Rho := match ρ[i]? with
  | some (.m o) => ρ.set i (.d o.d)
  | _ => ρ
def s_frz (i : Nat) (m : SM) : SM := fun ρ S => m (frz1 i ρ) S
theorem StS.freeze {K : PySem.W.Frag} {mg : Str → Option Value} {i : Nat} (s : StS K mg z w0 w σ H ρ S) : ∃ w', Le w w' ∧ StS K mg z w0 w' σ H (frz1 i ρ) S := by
  unfold frz1
  cases q : ρ[i]? with
  | none => exact ⟨w, Le.refl _, s⟩
  | some sv =>
    cases sv with
    | un => exact ⟨w, Le.refl _, s⟩
    | d d => exact ⟨w, Le.refl _, s⟩
    | m o =>
      show ∃ w', Le w w' ∧ StS K mg z w0 w' σ H (ρ.set i (.d o.d)) S
      obtain ⟨a, e1, g1, n1, m1⟩ := s.s.mt i o q
      obtain ⟨u, hu⟩ := m1.there
      have h0 := s.lo i o a q e1
      have exG : Ex w.G (upd w.G a u) := Ex.new g1
      have le : Le w ⟨upd w.G a u, w.al⟩ := ⟨exG, List.prefix_refl _⟩
      have dt : Dt K mg ⟨upd w.G a u, w.al⟩ (.ref a) o.d := by
        cases o with
        | lst ds =>
          obtain ⟨xs, e, h⟩ := m1
          rw [e] at hu
          cases hu
          exact .lst (Rd.of upd_same) (h.mono le)
        | dct ds =>
          obtain ⟨xs, e, h, h2⟩ := m1
          rw [e] at hu
          cases hu
          exact .dct (Rd.of upd_same) h (h2.mono le)
        | ins c fs =>
          obtain ⟨C, dx, vs, ec, e, h, h2⟩ := m1
          rw [e] at hu
          cases hu
          exact .ins ec upd_same h (h2.mono le)
      refine ⟨⟨upd w.G a u, w.al⟩, le, ⟨⟨fun b v hb => ?_, s.t.len, s.t.nd, fun b hb => ?_, fun k b o' hk ho => ?_⟩, ⟨by simp [s.s.len], fun j d' e => ?_, fun j o' e => ?_, fun j k oj ok b f1 f2 f3 f4 => ?_, fun zi e => ⟨(s.s.exc zi e).1, (s.s.exc zi e).2.mono le⟩⟩, fun j o' b f1 f2 => ?_, ⟨?_, s.st.fr, s.st.nw, fun b v hb => ?_⟩⟩⟩
      · have hb : upd w.G a u b = some v := hb
        by_cases e : b = a
        · subst e
          rw [upd_same] at hb
          rw [← hb]
          exact hu
        · rw [upd_ne e] at hb
          exact s.t.sub b v hb
      · show upd w.G a u b = none
        rw [upd_ne (fun e : b = a => n1 (by rw [← e]; exact hb))]
        exact s.t.off b hb
      · exact (s.t.obj k b o' hk ho).stay rfl le
      · rcases set_get e with ⟨rfl, e3⟩ | ⟨n, e3⟩
        · cases e3
          exact ⟨_, e1, dt⟩
        · obtain ⟨v, e2, h2⟩ := s.s.dat j d' e3
          exact ⟨v, e2, h2.mono le⟩
      · rcases set_get e with ⟨_, e3⟩ | ⟨n, e⟩
        · cases e3
        · obtain ⟨b, e2, g2, n2, m2⟩ := s.s.mt j o' e
          refine ⟨b, e2, ?_, n2, m2.stay rfl le⟩
          show upd w.G a u b = none
          rw [upd_ne ?_]
          · exact g2
          · intro z
            subst z
            exact n (s.s.sep j i o' o b e q e2 e1)
      · rcases set_get f1 with ⟨_, e⟩ | ⟨_, f1⟩
        · cases e
        rcases set_get f2 with ⟨_, e⟩ | ⟨_, f2⟩
        · cases e
        exact s.s.sep j k oj ok b f1 f2 f3 f4
      · rcases set_get f1 with ⟨_, e⟩ | ⟨_, f1⟩
        · cases e
        exact s.lo j o' b f1 f2
      · exact s.st.le.trans le
      · have hb : upd w.G a u b = some v := hb
        by_cases e : b = a
        · subst e
          exact .inr (.inl h0)
        · rw [upd_ne e] at hb
          exact s.st.gn b v hb
theorem frz_go {i : Nat} {t : TS} (h : ∀ Dn σ H, tS X.K X.mg W z w0 m Dn σ H → t Dn σ H) (q : tS X.K X.mg W z w0 (s_frz i m) Dn σ H) : t Dn σ H := by
  obtain ⟨w, ρ, S, st, fl, ρ', S', e, p⟩ := q
  obtain ⟨w', le, st'⟩ := st.freeze (i := i)
  exact h _ _ _ ⟨w', _, S, st', fl, ρ', S', e, p.mono le⟩
theorem pds_frz {i : Nat} (h : PDS X W z w0 st m) : PDS X W z w0 st (s_frz i m) := ps_mono h fun Dn σ H q => frz_go (fun _ _ _ q => q) q
theorem pdss_frz {i : Nat} {sts : List Stmt} (h : PDSs X W z w0 sts m) : PDSs X W z w0 sts (s_frz i m) := pss_mono h fun Dn σ H q => frz_go (fun _ _ _ q => q) q
end
end Pd

/-! Loops and comprehensions over data. -/
namespace Pd
open PySem L2 Evl Hg

theorem pi_mono {X : Cx} {tg e : Expr} {t t' : TI} (h : PI X tg e t) (k : ∀ σ H Q, t' σ H Q → t σ H Q) : PI X tg e t' := ⟨fun pins s σ H Q I w => h.run pins s σ H Q I (k σ H Q w)⟩
theorem pi_or {X : Cx} {tg e : Expr} {t t' : TI} (h : PI X tg e t) (h' : PI X tg e t') : PI X tg e (fun σ H R => t σ H R ∨ t' σ H R) := ⟨fun pins s σ H R I q => q.elim (h.run pins s σ H R I) (h'.run pins s σ H R I)⟩
theorem pts_mono {X : Cx} {e : List Expr} {t t' : TT} (h : PTs X e t) (k : ∀ σ H Q, t' σ H Q → t σ H Q) : PTs X e t' := ⟨fun pins s σ H Q I w => h.run pins s σ H Q I (k σ H Q w)⟩

section
variable (K : PySem.W.Frag) (mg : Str → Option Value)
/-- a walk over ds -/
structure WkD (w : Wd) (J : It) (ds : List D) : Prop where
  goes : ∀ i H2 w2, i < ds.length → Le w w2 → Ex w2.G H2 → J.go i H2
  stops : ∀ H2 w2, Le w w2 → Ex w2.G H2 → J.stop ds.length H2
  gives : ∀ i H2 v H3 w2, i < ds.length → Le w w2 → Ex w2.G H2 → J.yld i H2 v H3 → ∃ d w3, ds[i]? = some d ∧ Grow w2 w3 H2 H3 ∧ Dt K mg w3 v d
end
section
variable (K : PySem.W.Frag) (mg : Str → Option Value) (W : WX) (z : Option Zi)
def relI : Rel It (List D) := fun w _ J ds => WkD K mg w J ds
def tI (m : M (List D)) : TI := fun σ H R => ∃ w ρ S, Do K mg W z (relI K mg) w σ H ρ S m R
/-- a new list that nobody holds as yet -/
def relF (Fp : Addr → Prop) : Rel V (List D) := fun w' H' v ds => ∃ p xs, v = .ref p ∧ Fp p ∧ w'.G p = none ∧ p ∉ w'.al ∧ H' p = some (.lst xs) ∧ DtA K mg w' xs ds
def tF (m : M (List D)) : TE := fun σ H Q => ∃ w ρ S, Do K mg W z (relF K mg fun p => H p = none) w σ H ρ S m Q
end
section
variable (X : Cx) (W : WX) (z : Option Zi)
abbrev PDI (tg e : Expr) (m : M (List D)) : Prop := PI X tg e (tI X.K X.mg W z m)
abbrev PDTs (es : List Expr) (m : M Bool) : Prop := PTs X es (tT X.K X.mg W z m)
abbrev PF (e : Expr) (m : M (List D)) : Prop := PE X e (tF X.K X.mg W z m)
end
section
variable {X : Cx} {W : WX} {z : Option Zi} {w0 : W0} {w w' w1 : Wd} {σ : L2.St} {H H' H1 : Hp} {ρ ρ' : Rho} {S S' S1 : Sto} {Dn : Ends} {K : PySem.W.Frag} {mg : Str → Option Value} {p : Addr} {o : HO}
theorem Stp.fresh (x : Stp w w1 H H1) (t : At K mg w1 H1 S1) (n : H1 p = none) : H p = none := by
  cases q : H p with
  | none => rfl
  | some u =>
    by_cases h : p ∈ w.al
    · obtain ⟨k, hk⟩ := List.mem_iff_getElem?.mp h
      obtain ⟨u, hu⟩ := t.alive (List.mem_of_getElem? (pre_get x.le.a hk))
      rw [hu] at n; cases n
    · rw [x.fr p u q h] at n; cases n
theorem At.gone (t : At K mg w H S) (n : H p = none) : w.G p = none ∧ p ∉ w.al := by
  refine ⟨?_, fun h => ?_⟩
  · cases q : w.G p with
    | none => rfl
    | some u => rw [t.sub p u q] at n; cases n
  · obtain ⟨u, hu⟩ := t.alive h
    rw [hu] at n; cases n
/-- what is not known changes -/
theorem At.upd (t : At K mg w H S) (g : w.G p = none) (n : p ∉ w.al) : At K mg w (upd H p o) S := by
  refine ⟨fun a u h => ?_, t.len, t.nd, t.off, fun k a o' hk ho => ?_⟩
  · rw [upd_ne (ne_of_none h g)]
    exact t.sub a u h
  · refine (t.obj k a o' hk ho).stay (upd_ne ?_) (Le.refl w)
    intro e
    subst e
    exact n (List.mem_of_getElem? hk)
theorem Stp.upd (x : Stp w w1 H H1) (n : H p = none) : Stp w w1 H (upd H1 p o) := ⟨x.le, fun a u h na => by rw [upd_ne (ne_of_none h n)]; exact x.fr a u h na, x.nw, x.gn⟩
/-- what nobody holds is known from now on -/
theorem keep_new (x : Stp w w1 H H1) (t : At K mg w1 H1 S1) (n : H p = none) (g : w1.G p = none) (a : p ∉ w1.al) (e : H1 p = some o) : Stp w (w1.new p o) H H1 ∧ At K mg (w1.new p o) H1 S1 := by
  have le : Le w1 (w1.new p o) := ⟨Ex.new g, List.prefix_refl _⟩
  refine ⟨⟨x.le.trans le, x.fr, x.nw, fun b u h => ?_⟩, ⟨fun b u h => ?_, t.len, t.nd, fun b h => ?_, fun k b o' hk ho => (t.obj k b o' hk ho).stay rfl le⟩⟩
  · have h : L2.upd w1.G p o b = some u := h
    by_cases q : b = p
    · subst q
      exact .inr (.inl n)
    · rw [upd_ne q] at h
      exact x.gn b u h
  · have h : L2.upd w1.G p o b = some u := h
    by_cases q : b = p
    · subst q
      rw [upd_same] at h
      rw [← h]
      exact e
    · rw [upd_ne q] at h
      exact t.sub b u h
  · show L2.upd w1.G p o b = none
    rw [upd_ne (fun q : b = p => a (by rw [← q]; exact h))]
    exact t.off b h
def m_fz (m : M (List D)) : M D := m.bind fun ds => M.pure (.lst ds)
theorem fz_go {m : M (List D)} {Q : VK} (h : tD K mg W z (m_fz m) σ H Q) : tF K mg W z m σ H Q := by
  obtain ⟨w, ρ, S, t, s, r, S', e, k⟩ := h
  refine ⟨w, ρ, S, t, s, ?_⟩
  unfold m_fz M.bind at e
  cases q : m ρ S with
  | none => rw [q] at e; cases e
  | some x =>
    obtain ⟨r1, S1⟩ := x
    rw [q] at e
    refine ⟨r1, S1, rfl, ?_⟩
    cases r1 with
    | er c fs => cases e; exact k
    | ok ds =>
      cases e
      intro v H1 w1 st t1 rl
      obtain ⟨p, xs, rfl, n, g, a, e1, hd⟩ := rl
      obtain ⟨st2, t2⟩ := keep_new st t1 n g a e1
      have le : Le w1 (w1.new p (.lst xs)) := ⟨Ex.new g, List.prefix_refl _⟩
      exact k (.ref p) H1 _ st2 t2 (.inl (.lst (Rd.of upd_same) (hd.mono le)))
theorem pd_pf {e : Expr} {m : M (List D)} (h : PF X W z e m) : PD X W z e (m_fz m) := pe_mono h fun σ H Q h => fz_go h
variable {e : Expr} {es : List Expr} {pos : Pos} {st : Stmt} {me : M D} {ms : M (List D)}
def mf_lst (ms : M (List D)) : M (List D) := ms.bind fun ds => M.lift fun _ _ => if ds.all fixed = true ∧ ds.length ≤ sizeLine then some ds else none
theorem pf_lst (h : PDA X W z es ms) : PF X W z (.List es pos) (mf_lst ms) :=
  pe_mono (pe_lst h) fun σ H Q h => by
    obtain ⟨w, ρ, S, h⟩ := h
    refine ⟨w, ρ, S, h.bind (rel1 := relA X.K X.mg σ ρ) fun ds vs w1 H1 S1 st rds h1 => ?_⟩
    obtain ⟨t1, s1, r, S', e, k⟩ := h1
    unfold M.lift at e
    split at e
    · rename_i a q
      cases e
      split at q
      · rename_i c
        cases q
        have hd := rds.fix c.1
        refine ⟨by rw [hd.length]; exact c.2, fun p np => ?_⟩
        obtain ⟨g, a⟩ := t1.gone np
        exact k (.ref p) _ w1 ((Stp.refl _ _).upd np) (t1.upd g a) ⟨p, vs, rfl, st.fresh t1 np, g, a, upd_same, hd⟩
      · cases q
    · cases e
/-- name = a new list that may change -/
def s_setL (i : Nat) (m : M (List D)) : SM := m.toS fun ds ρ S => some (.nx, ρ.set i (.m (.lst ds)), S)
theorem pds_setL {i : Nat} (h : PS X st (tAsg (tF X.K X.mg W z ms) (gName i))) (hz : ∀ zi : Zi, z = some zi → zi.i ≠ i) : PDS X W z w0 st (s_setL i ms) :=
  ps_mono h fun Dn σ H h => by
    obtain ⟨w, ρ, S, h⟩ := h
    refine ⟨w, ρ, S, h.bind fun ds v w1 H1 S1 x rl h1 => ?_⟩
    obtain ⟨st1, fl, ρ', S', e, k⟩ := h1
    cases e
    obtain ⟨p, xs, rfl, n, g, a, e1, hd⟩ := rl
    refine k _ H1 w1 (Le.refl _) (st1.setM g a ⟨xs, e1, hd⟩ ?_ hz ?_)
    · exact h.st.st.fresh h.st.t n
    · intro j o' _ hj hs
      obtain ⟨b, eb, _, _, m⟩ := h.st.s.mt j o' hj
      rw [hs] at eb
      cases eb
      obtain ⟨u, hu⟩ := m.there
      rw [n] at hu
      cases hu

/-! ### what is walked -/
def items : D → Option (List D)
  | .tup ds => some ds
  | .lst ds => some ds
  | .str x => some (x.cps.toList.map fun c => .str ⟨#[c]⟩)
  | _ => none
def mi_of (m : M D) : M (List D) := m.bind fun d => M.lift fun _ _ => items d
theorem grow_same (s : Ex w.G H) : Grow w w H H := Grow.refl s
theorem wk_tup {a : Addr} {xs : List V} {ds : List D} (h : SqT K w.G a xs) (hd : DtA K mg w xs ds) : WkD K mg w (Itt K a) ds := by
  have wk := walk_tup (K := K) (a := a) (xs := xs)
  refine ⟨fun i H2 w2 hi l s => wk.goes i H2 (by rw [hd.length]; exact hi) (ex_t (l.g.trans s) h), fun H2 w2 l s => by rw [← hd.length]; exact wk.stops H2 (ex_t (l.g.trans s) h), fun i H2 v H3 w2 hi l s y => ?_⟩
  obtain ⟨rfl, e⟩ := wk.yields i H2 v H3 (by rw [hd.length]; exact hi) (ex_t (l.g.trans s) h) y
  obtain ⟨d, e1, h1⟩ := hd.getV e
  exact ⟨d, w2, e1, Grow.refl s, h1.mono l⟩
theorem wk_lst {a : Addr} {xs : List V} {ds : List D} (h0 : Rd w.G a (.lst xs)) (hd : DtA K mg w xs ds) : WkD K mg w (Itl K a) ds := by
  have wk := walk_list (K := K) (a := a) (xs := xs)
  have h : SqL K w.G a xs := .inl h0
  refine ⟨fun i H2 w2 hi l s => wk.goes i H2 (by rw [hd.length]; exact hi) (ex_l (l.g.trans s) h), fun H2 w2 l s => by rw [← hd.length]; exact wk.stops H2 (ex_l (l.g.trans s) h), fun i H2 v H3 w2 hi l s y => ?_⟩
  obtain ⟨rfl, e⟩ := wk.yields i H2 v H3 (by rw [hd.length]; exact hi) (ex_l (l.g.trans s) h) y
  obtain ⟨d, e1, h1⟩ := hd.getV e
  exact ⟨d, w2, e1, Grow.refl s, h1.mono l⟩
theorem wk_str {x : Str} : WkD K mg w (Its x) (x.cps.toList.map fun c => .str ⟨#[c]⟩) := by
  have wk := walk_str (z := x)
  have hl : (x.cps.toList.map fun c => D.str ⟨#[c]⟩).length = x.cps.size := by simp
  refine ⟨fun i H2 w2 hi l s => wk.goes i H2 (by rw [← hl]; exact hi) trivial, fun H2 w2 l s => by rw [hl]; exact wk.stops H2 trivial, fun i H2 v H3 w2 hi l s y => ?_⟩
  obtain ⟨rfl, c, e, rfl⟩ := wk.yields i H2 v H3 (by rw [← hl]; exact hi) trivial y
  exact ⟨.str ⟨#[c]⟩, w2, by rw [List.getElem?_map, Array.getElem?_toList, e]; rfl, Grow.refl s, .str _⟩
theorem pdi_any {tg : Expr} (he : PD X W z e me) : PDI X W z tg e (mi_of me) :=
  pi_mono (pi_or (pi_tup he) (pi_or (pi_list he) (pi_str he))) fun σ H R h => by
    obtain ⟨w, ρ, S, t, s, r, S', e, p⟩ := h
    unfold mi_of M.bind at e
    cases q : me ρ S with
    | none => rw [q] at e; cases e
    | some x =>
      obtain ⟨r1, S1⟩ := x
      rw [q] at e
      cases r1 with
      | er c fs =>
        cases e
        exact .inl ⟨w, ρ, S, t, s, _, _, q, p⟩
      | ok d =>
        unfold M.lift at e
        dsimp only at e
        cases q2 : items d with
        | none => rw [q2] at e; cases e
        | some ds =>
          rw [q2] at e
          cases e
          cases d with
          | tup es =>
            cases q2
            refine .inl ⟨w, ρ, S, t, s, _, _, q, fun v H1 w1 st t1 rd => ?_⟩
            rcases rd with rd | ⟨i, o, z, _⟩
            · cases rd with
              | tup hx hd => exact ⟨_, rfl, ⟨_, ex_t t1.sub hx⟩, p _ H1 w1 st t1 (wk_tup hx hd)⟩
            · cases z
          | lst es =>
            cases q2
            refine .inr (.inl ⟨w, ρ, S, t, s, _, _, q, fun v H1 w1 st t1 rd => ?_⟩)
            rcases rd with rd | ⟨i, o, z, _⟩
            · cases rd with
              | lst hx hd => exact ⟨_, rfl, ⟨_, .inl (ex_rd t1.sub hx)⟩, p _ H1 w1 st t1 (wk_lst hx hd)⟩
            · cases z
          | str x =>
            cases q2
            refine .inr (.inr ⟨w, ρ, S, t, s, _, _, q, fun v H1 w1 st t1 rd => ?_⟩)
            rcases rd with rd | ⟨i, o, z, _⟩
            · cases rd
              exact ⟨x, rfl, p _ H1 w1 st t1 wk_str⟩
            · cases z
          | _ => cases q2
/-! ### range, enumerate, zip -/
def rangeD (lo : Int) (n : Nat) : List D := (List.range n).map fun i : Nat => D.int (lo + (i : Int))
theorem rangeD_len (lo : Int) (n : Nat) : (rangeD lo n).length = n := by simp [rangeD]
theorem rangeD_get {lo : Int} {n i : Nat} (h : i < n) : (rangeD lo n)[i]? = some (.int (lo + (i : Int))) := by simp [rangeD, h]
theorem wk_range {lo : Int} {n : Nat} : WkD K mg w (Itr lo n) (rangeD lo n) := by
  have wk := walk_range (lo := lo) (n := n)
  have hl := rangeD_len lo n
  refine ⟨fun i H2 w2 hi l s => wk.goes i H2 (by rw [hl] at hi; exact hi) trivial, fun H2 w2 l s => by rw [hl]; exact wk.stops H2 trivial, fun i H2 v H3 w2 hi l s y => ?_⟩
  rw [hl] at hi
  obtain ⟨rfl, rfl⟩ := wk.yields i H2 v H3 hi trivial y
  exact ⟨_, w2, rangeD_get hi, Grow.refl s, .int _⟩
def mi_range1 (ms : M (List D)) : M (List D) := ms.bind fun ds => M.lift fun _ _ => match ds with
  | [.int j] => if -(2 ^ 62) ≤ j ∧ j < 2 ^ 62 then some (rangeD 0 j.toNat) else none
  | _ => none
def mi_range2 (ms : M (List D)) : M (List D) := ms.bind fun ds => M.lift fun _ _ => match ds with
  | [.int i, .int j] => if -(2 ^ 62) ≤ i ∧ i < 2 ^ 62 ∧ -(2 ^ 62) ≤ j ∧ j < 2 ^ 62 then some (rangeD i (j - i).toNat) else none
  | _ => none
theorem rr_int {v : V} {i : Int} (h : Rr K mg w σ ρ v (.int i)) : v = .int i := by
  rcases h with h | ⟨_, _, z, _⟩
  · cases h; rfl
  · cases z
theorem pdi_range1 {tg a : Expr} {p pos : Pos} (hg : Gl X "range") (hm : X.mg "range" = none) (ha : PDA X W z [a] ms) (hs : starEach [a] X.env = [(false, eval a X.env)] := by rfl) : PDI X W z tg (.Call (.Name "range" p) [a] [] pos) (mi_range1 ms) :=
  pi_mono (pi_range1 hg hm ha hs) fun σ H R h => by
    obtain ⟨w, ρ, S, h⟩ := h
    refine ⟨w, ρ, S, h.bind (rel1 := relA X.K X.mg σ ρ) fun ds vs w1 H1 S1 st rds h1 => ?_⟩
    obtain ⟨ys, e, k⟩ := h1.lift
    split at e
    · rename_i j
      cases rds with
      | cons r1 r2 =>
        cases r2
        obtain rfl := rr_int r1
        split at e
        · rename_i c
          cases e
          exact ⟨j, rfl, c.1, c.2, k _ H1 w1 (Grow.refl h1.t.sub) wk_range⟩
        · cases e
    · cases e
theorem pdi_range2 {tg a b : Expr} {p pos : Pos} (hg : Gl X "range") (hm : X.mg "range" = none) (ha : PDA X W z [a, b] ms) (hs : starEach [a, b] X.env = [(false, eval a X.env), (false, eval b X.env)] := by rfl) (hs2 : starEach [b] X.env = [(false, eval b X.env)] := by rfl) :
    PDI X W z tg (.Call (.Name "range" p) [a, b] [] pos) (mi_range2 ms) :=
  pi_mono (pi_range2 hg hm ha hs hs2) fun σ H R h => by
    obtain ⟨w, ρ, S, h⟩ := h
    refine ⟨w, ρ, S, h.bind (rel1 := relA X.K X.mg σ ρ) fun ds vs w1 H1 S1 st rds h1 => ?_⟩
    obtain ⟨ys, e, k⟩ := h1.lift
    split at e
    · rename_i i j
      cases rds with
      | cons r1 r2 =>
        cases r2 with
        | cons r2 r3 =>
          cases r3
          obtain rfl := rr_int r1
          obtain rfl := rr_int r2
          split at e
          · rename_i c
            cases e
            exact ⟨i, j, rfl, c, k _ H1 w1 (Grow.refl h1.t.sub) wk_range⟩
          · cases e
    · cases e
/-- new pairs -/
theorem wk_pair {J : It} {n : Nat} {G : Hp → Prop} {xs ys : Nat → Option V} {as bs : List D} (wk : Walk J n G (YPair xs ys)) (hG : ∀ H w2, Le w w2 → Ex w2.G H → G H) (ha : as.length = n) (hb : bs.length = n)
    (hx : ∀ i x, i < n → xs i = some x → ∃ d, as[i]? = some d ∧ Dt K mg w x d) (hy : ∀ i y, i < n → ys i = some y → ∃ d, bs[i]? = some d ∧ Dt K mg w y d) :
    WkD K mg w J (List.zipWith (fun a b => D.tup [a, b]) as bs) := by
  have hl : (List.zipWith (fun a b => D.tup [a, b]) as bs).length = n := by simp [ha, hb]
  refine ⟨fun i H2 w2 hi l s => wk.goes i H2 (by rw [← hl]; exact hi) (hG _ _ l s), fun H2 w2 l s => by rw [hl]; exact wk.stops H2 (hG _ _ l s), fun i H2 v H3 w2 hi l s y => ?_⟩
  rw [hl] at hi
  obtain ⟨T, x, u, rfl, n, rfl, e1, e2⟩ := wk.yields i H2 v H3 hi (hG _ _ l s) y
  obtain ⟨d1, f1, h1⟩ := hx i x hi e1
  obtain ⟨d2, f2, h2⟩ := hy i u hi e2
  have g := Grow.new (o := .tup [x, u]) s n
  refine ⟨.tup [d1, d2], _, ?_, g, .tup (st_of upd_same) (.cons ((h1.mono l).mono g.le) (.cons ((h2.mono l).mono g.le) .nil))⟩
  rw [List.getElem?_zipWith, f1, f2]
def enumD (ds : List D) : List D := List.zipWith (fun a b => D.tup [a, b]) (rangeD 0 ds.length) ds
theorem wk_nums {n : Nat} : ∀ (i : Nat) (x : V), i < n → some (V.int (i : Nat)) = some x → ∃ d, (rangeD 0 n)[i]? = some d ∧ Dt K mg w x d := fun i x hi e => by
  cases e
  exact ⟨_, rangeD_get hi, by rw [Int.zero_add]; exact .int _⟩
theorem wk_vals {xs : List V} {ds : List D} (hd : DtA K mg w xs ds) : ∀ (i : Nat) (x : V), i < ds.length → xs[i]? = some x → ∃ d, ds[i]? = some d ∧ Dt K mg w x d := fun i x hi e => hd.getV e
def mi_enum (ms : M (List D)) : M (List D) := ms.bind fun ds => M.lift fun _ _ => match ds with
  | [.tup xs] => some (enumD xs)
  | [.lst xs] => some (enumD xs)
  | _ => none
theorem pdi_enum {elts : List Expr} {kk : Nat} {tpos p pos : Pos} (hg : Gl X "enumerate") (hm : X.mg "enumerate" = none) (ha : PDA X W z [e] ms) (hs : starEach [e] X.env = [(false, eval e X.env)] := by rfl) :
    PDI X W z (.Tuple elts kk tpos) (.Call (.Name "enumerate" p) [e] [] pos) (mi_enum ms) :=
  pi_mono (pi_or (pi_enumT hg hm ha hs) (pi_enum hg hm ha hs)) fun σ H R h => by
    obtain ⟨w, ρ, S, t, s, r, S', e, k⟩ := h
    unfold mi_enum M.bind at e
    cases q : ms ρ S with
    | none => rw [q] at e; cases e
    | some x =>
      obtain ⟨r1, S1⟩ := x
      rw [q] at e
      cases r1 with
      | er c fs =>
        cases e
        exact .inl ⟨w, ρ, S, t, s, _, _, q, k⟩
      | ok ds =>
        unfold M.lift at e
        dsimp only at e
        split at e
        · rename_i ys q2
          split at q2
          · rename_i xs
            cases q2
            cases e
            refine .inl ⟨w, ρ, S, t, s, _, _, q, fun vs H1 w1 st t1 rd => ?_⟩
            cases rd with
            | cons r1 r2 =>
              cases r2
              rcases r1 with r1 | ⟨i, o, z, _⟩
              · cases r1 with
                | tup hx hd => exact ⟨_, _, rfl, ex_t t1.sub hx, k _ H1 w1 st t1 (wk_pair walk_enumT (fun H w2 l s => ex_t (l.g.trans s) hx) (by rw [rangeD_len, hd.length]) hd.length.symm (by rw [← hd.length]; exact wk_nums) (by rw [hd.length]; exact wk_vals hd))⟩
              · cases z
          · rename_i xs
            cases q2
            cases e
            refine .inr ⟨w, ρ, S, t, s, _, _, q, fun vs H1 w1 st t1 rd => ?_⟩
            cases rd with
            | cons r1 r2 =>
              cases r2
              rcases r1 with r1 | ⟨i, o, z, _⟩
              · cases r1 with
                | lst hx hd => exact ⟨_, _, rfl, .inl (ex_rd t1.sub hx), k _ H1 w1 st t1 (wk_pair walk_enum (fun H w2 l s => .inl (ex_rd (l.g.trans s) hx)) (by rw [rangeD_len, hd.length]) hd.length.symm (by rw [← hd.length]; exact wk_nums) (by rw [hd.length]; exact wk_vals hd))⟩
              · cases z
          · cases q2
        · cases e
end
end Pd

namespace Pd
open PySem L2 Evl Hg
section
variable {X : Cx} {W : WX} {z : Option Zi} {w0 : W0} {w w' w1 : Wd} {σ : L2.St} {H H' H1 : Hp} {ρ ρ' : Rho} {S S' S1 : Sto} {Dn : Ends} {K : PySem.W.Frag} {mg : Str → Option Value} {p : Addr} {o : HO}
variable {e : Expr} {es : List Expr} {pos : Pos} {st : Stmt} {me : M D} {ms : M (List D)} {m : SM} {g : D → Rho → Option Rho} {tv : List Nat} {mt : M Bool}
/-! ### for -/
def s_forD (g : D → Rho → Option Rho) (body : SM) : List D → SM
  | [] => fun ρ S => some (.nx, ρ, S)
  | d :: ds => fun ρ S =>
    match g d ρ with
    | none => none
    | some ρ1 =>
      match body ρ1 S with
      | some (.nx, ρ2, S2) => s_forD g body ds ρ2 S2
      | some (.ct, ρ2, S2) => s_forD g body ds ρ2 S2
      | some (.bk, ρ2, S2) => some (.nx, ρ2, S2)
      | r => r
def s_for (mi : M (List D)) (g : D → Rho → Option Rho) (body : SM) : SM := mi.toS fun ds => s_forD g body ds
theorem StS.grow (s : StS X.K X.mg z w0 w σ H ρ S) (g : Grow w w' H H') : StS X.K X.mg z w0 w' σ H' ρ S := s.step g.stp (s.t.grow g)
theorem pds_for {tg iter : Expr} {body : List Stmt} {mi : M (List D)} (hp : PassesOwn (model X.prog X.w) X.A X.env X.xe) (hc : X.calm = true) (hi : PDI X W z tg iter mi) (hg : PDG X z tv tg g) (hb : PDSs X W z w0 body m)
    (hs : ∀ x, foldedSetIterable iter X.env x = pure x := by intro _; rfl) : PDS X W z w0 (.For tg iter body [] pos) (s_for mi g m) :=
  ps_mono (ps_for hp hc hi hg hb hs) fun Dn σ H h => by
    obtain ⟨w, ρ, S, h⟩ := h
    refine ⟨w, ρ, S, h.bind fun ds J w1 H1 S1 x wk h1 => ?_⟩
    obtain ⟨st1, fl, ρ', S', e, p⟩ := h1
    refine ⟨fun i k σ H => k = ds.length - i ∧ i ≤ ds.length ∧ ∃ w2 ρ2 S2, Le w1 w2 ∧ StS X.K X.mg z w0 w2 σ H ρ2 S2 ∧ s_forD g m (ds.drop i) ρ2 S2 = some (fl, ρ', S'), ⟨ds.length, rfl, Nat.zero_le _, w1, ρ, S1, Le.refl _, st1, e⟩, ?_⟩
    rintro i k σ2 H2 ⟨rfl, hi, w2, ρ2, S2, l2, st2, e2⟩
    by_cases hlt : i < ds.length
    · refine .inr ⟨wk.goes i H2 w2 hlt l2 st2.t.sub, fun σ3 H3 => ∃ w3 ρ3 S3, Le w1 w3 ∧ StS X.K X.mg z w0 w3 σ3 H3 ρ3 S3 ∧ s_forD g m (ds.drop (i + 1)) ρ3 S3 = some (fl, ρ', S'), fun σ3 H3 q => ?_, fun v H3 y => ?_⟩
      · obtain ⟨w3, ρ3, S3, l3, st3, e3⟩ := q
        exact ⟨ds.length - (i + 1), by omega, rfl, hlt, w3, ρ3, S3, l3, st3, e3⟩
      · obtain ⟨d, w3, ed, gr, hd⟩ := wk.gives i H2 v H3 w2 hlt l2 st2.t.sub y
        have l3 := l2.trans gr.le
        have st3 := st2.grow gr
        have edrop : ds.drop i = d :: ds.drop (i + 1) := by
          have := (List.getElem?_eq_some_iff.mp ed)
          obtain ⟨h1, h2⟩ := this
          rw [List.drop_eq_getElem_cons h1, h2]
        rw [edrop] at e2
        unfold s_forD at e2
        cases q : g d ρ2 with
        | none => rw [q] at e2; cases e2
        | some ρ3 =>
          rw [q] at e2
          dsimp only at e2
          refine ⟨w3, ρ2, S2, d, ρ3, st3.t, st3.s, hd, q, fun σ3 s3 sm => ⟨w3, ρ3, S2, st3.sam s3 sm, ?_⟩⟩
          cases q2 : m ρ3 S2 with
          | none => rw [q2] at e2; cases e2
          | some r =>
            obtain ⟨f4, ρ4, S4⟩ := r
            rw [q2] at e2
            refine ⟨f4, ρ4, S4, rfl, ?_⟩
            cases f4 with
            | nx => exact fun σ5 H5 w5 l5 st5 => ⟨w5, ρ4, S4, l3.trans l5, st5, e2⟩
            | ct => exact fun σ5 H5 w5 l5 st5 => ⟨w5, ρ4, S4, l3.trans l5, st5, e2⟩
            | bk => cases e2; exact fun σ5 H5 w5 l5 st5 => p σ5 H5 w5 (l3.trans l5) st5
            | rt d => cases e2; exact fun v σ5 H5 w5 l5 st5 => p v σ5 H5 w5 (l3.trans l5) st5
            | er c fs => cases e2; exact fun σ5 H5 w5 cls dx l5 st5 => p σ5 H5 w5 cls dx (l3.trans l5) st5
    · have ei : i = ds.length := by omega
      subst ei
      rw [List.drop_length] at e2
      cases e2
      exact .inl ⟨wk.stops H2 w2 l2 st2.t.sub, p σ2 H2 w2 l2 st2⟩
/-! ### while -/
def s_whileN (mt : M Bool) (body : SM) : Nat → SM
  | 0 => fun _ _ => none
  | n + 1 => mt.toS fun b ρ S => if b = true then
      match body ρ S with
      | some (.nx, ρ2, S2) => s_whileN mt body n ρ2 S2
      | some (.ct, ρ2, S2) => s_whileN mt body n ρ2 S2
      | some (.bk, ρ2, S2) => some (.nx, ρ2, S2)
      | r => r
    else some (.nx, ρ, S)
theorem pds_while {c : Expr} {body : List Stmt} (n : Nat) (hp : PassesOwn (model X.prog X.w) X.A X.env X.xe) (hc : PDT X W z c mt) (hb : PDSs X W z w0 body m) : PDS X W z w0 (.While c body [] pos) (s_whileN mt m n) :=
  ps_mono (ps_while hp hc hb) fun Dn σ H h => by
    obtain ⟨w, ρ, S, h⟩ := h
    refine ⟨fun k σ H => ∃ w2 ρ2 S2, DoS X.K X.mg W z w0 w2 σ H ρ2 S2 (s_whileN mt m k) Dn, ⟨n, w, ρ, S, h⟩, ?_⟩
    rintro k σ2 H2 ⟨w2, ρ2, S2, h2⟩
    cases k with
    | zero =>
      obtain ⟨_, _, _, _, e2, _⟩ := h2
      cases e2
    | succ k =>
      unfold s_whileN at h2
      refine ⟨w2, ρ2, S2, h2.bind (rel := relB) fun b b' w3 H3 S3 x rk h3 => ?_⟩
      have rk : b' = b := rk
      subst rk
      obtain ⟨st3, fl3, ρ3, S3', e3, p3⟩ := h3
      cases b' with
      | false =>
        cases e3
        exact p3 σ2 H3 w3 (Le.refl _) st3
      | true =>
        refine ⟨fun σ5 H5 => ∃ w5 ρ5 S5, DoS X.K X.mg W z w0 w5 σ5 H5 ρ5 S5 (s_whileN mt m k) Dn, fun σ5 H5 q => ⟨k, Nat.lt_succ_self _, q⟩, w3, ρ2, S3, st3, ?_⟩
        have e3 : (match m ρ2 S3 with
          | some (.nx, ρ2, S2) => s_whileN mt m k ρ2 S2
          | some (.ct, ρ2, S2) => s_whileN mt m k ρ2 S2
          | some (.bk, ρ2, S2) => some (.nx, ρ2, S2)
          | r => r) = some (fl3, ρ3, S3') := e3
        cases q2 : m ρ2 S3 with
        | none => rw [q2] at e3; cases e3
        | some r =>
          obtain ⟨f4, ρ4, S4⟩ := r
          rw [q2] at e3
          refine ⟨f4, ρ4, S4, rfl, ?_⟩
          cases f4 with
          | nx => exact fun σ5 H5 w5 l5 st5 => ⟨w5, ρ4, S4, st5, fl3, ρ3, S3', e3, p3.mono l5⟩
          | ct => exact fun σ5 H5 w5 l5 st5 => ⟨w5, ρ4, S4, st5, fl3, ρ3, S3', e3, p3.mono l5⟩
          | bk => cases e3; exact fun σ5 H5 w5 l5 st5 => p3 σ5 H5 w5 l5 st5
          | rt d => cases e3; exact fun v σ5 H5 w5 l5 st5 => p3 v σ5 H5 w5 l5 st5
          | er c fs => cases e3; exact fun σ5 H5 w5 cls dx l5 st5 => p3 σ5 H5 w5 cls dx l5 st5

/-! ### comprehensions -/
def wipeR (ρ : Rho) : List Nat → Rho
  | [] => ρ
  | v :: vs => (wipeR ρ vs).set v .un
def m_lcD (vs : List Nat) (g : D → Rho → Option Rho) (mt : M Bool) (me : M D) (ρ : Rho) : List D → List D → Sto → Option (List D × Sto)
  | [], acc, S => some (acc, S)
  | d :: ds, acc, S =>
    match g d (wipeR ρ vs) with
    | none => none
    | some ρ1 =>
      match mt ρ1 S with
      | some (.ok true, S1) =>
        match me ρ1 S1 with
        | some (.ok y, S2) => if fixed y = true ∧ acc.length < sizeLine then m_lcD vs g mt me ρ ds (acc ++ [y]) S2 else none
        | _ => none
      | some (.ok false, S1) => m_lcD vs g mt me ρ ds acc S1
      | _ => none
def mf_lc (mi : M (List D)) (vs : List Nat) (g : D → Rho → Option Rho) (mt : M Bool) (me : M D) : M (List D) := mi.bind fun ds ρ S =>
  match m_lcD vs g mt me ρ ds [] S with
  | some (ys, S') => some (.ok ys, S')
  | none => none
theorem wipe_get {σ : L2.St} {i : Nat} : ∀ {vs : List Nat}, i ∉ vs → (wipe σ vs)[i]? = σ[i]?
  | [], _ => rfl
  | v :: vs, h => by
    simp only [List.mem_cons, not_or] at h
    unfold wipe
    rw [List.getElem?_set_ne (Ne.symm h.1)]
    exact wipe_get h.2
theorem wipe_in {σ : L2.St} {i : Nat} {x : Option V} : ∀ {vs : List Nat}, i ∈ vs → (wipe σ vs)[i]? = some x → x = none
  | v :: vs, h, e => by
    unfold wipe at e
    rcases set_get e with ⟨_, e⟩ | ⟨n, e⟩
    · exact e
    · rcases List.mem_cons.mp h with h | h
      · exact absurd h n
      · exact wipe_in h e
theorem wipe_ext {σ σ' : L2.St} {vs : List Nat} (hl : σ'.length = σ.length) (h : ∀ i, i ∉ vs → σ'[i]? = σ[i]?) : wipe σ' vs = wipe σ vs := by
  apply List.ext_getElem?
  intro i
  by_cases hi : i ∈ vs
  · have l1 := wipe_length σ' vs
    have l2 := wipe_length σ vs
    by_cases hb : i < σ.length
    · have h1 : i < (wipe σ' vs).length := by omega
      have h2 : i < (wipe σ vs).length := by omega
      have a1 := List.getElem?_eq_getElem h1
      have a2 := List.getElem?_eq_getElem h2
      rw [a1, a2, wipe_in hi a1, wipe_in hi a2]
    · rw [List.getElem?_eq_none (by omega), List.getElem?_eq_none (by omega)]
  · rw [wipe_get hi, wipe_get hi, h i hi]
theorem wipe_two {σ : L2.St} {vs : List Nat} : wipe (wipe σ vs) vs = wipe σ vs := wipe_ext (wipe_length σ vs) fun i h => wipe_get h
theorem wipeR_length (ρ : Rho) : ∀ vs : List Nat, (wipeR ρ vs).length = ρ.length
  | [] => rfl
  | v :: vs => by unfold wipeR; rw [List.length_set, wipeR_length ρ vs]
theorem wipeR_get {i : Nat} {s : Sv} (n : s ≠ .un) : ∀ {vs : List Nat}, (wipeR ρ vs)[i]? = some s → ρ[i]? = some s ∧ i ∉ vs
  | [], h => ⟨h, by simp⟩
  | v :: vs, h => by
    unfold wipeR at h
    rcases set_get h with ⟨_, e⟩ | ⟨n1, e⟩
    · exact absurd e n
    · obtain ⟨a, b⟩ := wipeR_get n e
      exact ⟨a, by simp only [List.mem_cons, not_or]; exact ⟨n1, b⟩⟩
theorem Sl.wipe {vs : List Nat} (s : Sl K mg z w H σ ρ) : Sl K mg none w H (L2.wipe σ vs) (wipeR ρ vs) := by
  refine ⟨by rw [wipe_length, wipeR_length]; exact s.len, fun i d h => ?_, fun i o h => ?_, fun i j oi oj a h1 h2 h3 h4 => ?_, fun zi h => nomatch h⟩
  · obtain ⟨e, n⟩ := wipeR_get (s := Sv.d d) (by intro q; cases q) h
    rw [wipe_get n]
    exact s.dat i d e
  · obtain ⟨e, n⟩ := wipeR_get (s := Sv.m o) (by intro q; cases q) h
    rw [wipe_get n]
    exact s.mt i o e
  · obtain ⟨e1, n1⟩ := wipeR_get (s := Sv.m oi) (by intro q; cases q) h1
    obtain ⟨e2, n2⟩ := wipeR_get (s := Sv.m oj) (by intro q; cases q) h2
    rw [wipe_get n1] at h3
    rw [wipe_get n2] at h4
    exact s.sep i j oi oj a e1 e2 h3 h4
theorem Do.weakT {α β : Type} {rel : Rel β α} {m : M α} {Q : β → Hp → Prop} (t : At K mg w H S) (s : Sl K mg z w H σ ρ) {a : α} {S' : Sto} (e : m ρ S = some (.ok a, S'))
    (k : ∀ v H' w', Stp w w' H H' → At K mg w' H' S' → rel w' H' v a → Q v H') : Do K mg W z rel w σ H ρ S m Q := ⟨t, s, _, _, e, k⟩
/-- nothing is raised -/
abbrev WNo : WX := fun _ _ _ _ => False
theorem lc_go {wi : TI} {gg : TG} {tt : TT} {te : TE} {vs : List Nat} {mi : M (List D)} {Q : VK} (hv : ∀ i ∈ tv, i ∈ vs)
    (hi : ∀ σ H R, tI X.K X.mg W z mi σ H R → wi σ H R) (hg : ∀ v σ H Q, tG X.K X.mg none tv g v σ H Q → gg v σ H Q) (ht : ∀ σ H Q, tT X.K X.mg WNo none mt σ H Q → tt σ H Q) (he : ∀ σ H Q, tD X.K X.mg WNo none me σ H Q → te σ H Q)
    (h : Do X.K X.mg W z (relF X.K X.mg fun p => H p = none) w σ H ρ S (mf_lc mi vs g mt me) Q) : tLc wi gg tt te vs σ H Q := by
  refine hi _ _ _ ⟨w, ρ, S, h.bind fun ds J w1 H1 S1 st1 wk h1 => ?_⟩
  obtain ⟨t1, s1, r, S', e, p⟩ := h1
  cases q : m_lcD vs g mt me ρ ds [] S1 with
  | none => simp only [q] at e; cases e
  | some ys =>
    obtain ⟨ys, S9⟩ := ys
    simp only [q] at e
    cases e
    intro Dl hD
    obtain ⟨gD, aD⟩ := t1.gone hD
    refine ⟨fun i k H2 => k = ds.length - i ∧ i ≤ ds.length ∧ ∃ w2 S2 acc xs, Stp w1 w2 H1 H2 ∧ At X.K X.mg w2 H2 S2 ∧ H2 Dl = some (.lst xs) ∧ DtA X.K X.mg w2 xs acc ∧ w2.G Dl = none ∧ Dl ∉ w2.al ∧ m_lcD vs g mt me ρ (ds.drop i) acc S2 = some (ys, S'),
      ⟨ds.length, rfl, Nat.zero_le _, w1, S1, [], [], (Stp.refl _ _).upd hD, t1.upd gD aD, upd_same, .nil, gD, aD, q⟩, ?_⟩
    rintro i k H2 ⟨rfl, hi, w2, S2, acc, xs, st2, t2, e2, hd2, g2, a2, q2⟩
    have s2 := s1.step st2
    by_cases hlt : i < ds.length
    · refine .inr ⟨wk.goes i H2 w2 hlt st2.le t2.sub, fun H3 => ∃ w2 S2 acc xs, Stp w1 w2 H1 H3 ∧ At X.K X.mg w2 H3 S2 ∧ H3 Dl = some (.lst xs) ∧ DtA X.K X.mg w2 xs acc ∧ w2.G Dl = none ∧ Dl ∉ w2.al ∧ m_lcD vs g mt me ρ (ds.drop (i + 1)) acc S2 = some (ys, S'), fun H3 q => ?_, fun v H3 y => ?_⟩
      · exact ⟨ds.length - (i + 1), by omega, rfl, hlt, q⟩
      · obtain ⟨d, w3, ed, gr, hd⟩ := wk.gives i H2 v H3 w2 hlt st2.le t2.sub y
        have t3 := t2.grow gr
        have st3 := st2.trans gr.stp
        have s3 : Sl X.K X.mg none w3 H3 (wipe σ vs) (wipeR ρ vs) := (s1.step st3).wipe
        have e3 : H3 Dl = some (.lst xs) := gr.h _ _ e2
        have g3 : w3.G Dl = none := by
          cases q : w3.G Dl with
          | none => rfl
          | some u =>
            rcases gr.gn Dl u q with z | z
            · rw [g2] at z; cases z
            · rw [e2] at z; cases z
        have a3 : Dl ∉ w3.al := by rw [gr.a]; exact a2
        have edrop : ds.drop i = d :: ds.drop (i + 1) := by
          obtain ⟨h1, h2⟩ := List.getElem?_eq_some_iff.mp ed
          rw [List.drop_eq_getElem_cons h1, h2]
        rw [edrop] at q2
        unfold m_lcD at q2
        cases q3 : g d (wipeR ρ vs) with
        | none => rw [q3] at q2; cases q2
        | some ρ3 =>
          rw [q3] at q2
          dsimp only at q2
          refine hg _ _ _ _ ⟨w3, wipeR ρ vs, S2, d, ρ3, t3, s3, hd, q3, fun σ4 s4 sm => ⟨?_, ?_⟩⟩
          · have hl : σ4.length = (wipe σ vs).length := by
              rw [s4.len, s3.len, sm.l]
            exact (wipe_ext hl fun i hi => sm.σ i fun z => hi (hv i z)).trans wipe_two
          · cases q4 : mt ρ3 S2 with
            | none => rw [q4] at q2; cases q2
            | some r4 =>
              obtain ⟨r4, S4⟩ := r4
              rw [q4] at q2
              cases r4 with
              | er c fs => cases q2
              | ok b =>
                refine ht _ _ _ ⟨w3, ρ3, S2, Do.weakT t3 s4 q4 fun b' H5 w5 x5 t5 rb => ?_⟩
                have rb : b' = b := rb
                subst rb
                have e5 : H5 Dl = some (.lst xs) := x5.fr _ _ e3 a3
                have g5 : w5.G Dl = none := by
                  cases q : w5.G Dl with
                  | none => rfl
                  | some u =>
                    rcases x5.gn Dl u q with z | z | z
                    · rw [g3] at z; cases z
                    · rw [e3] at z; cases z
                    · exact absurd z a3
                have a5 : Dl ∉ w5.al := fun z => by
                  have := x5.nw Dl z a3
                  rw [e3] at this
                  cases this
                cases b' with
                | false =>
                  show ∃ w2 S2 acc xs, _
                  exact ⟨w5, S4, acc, xs, st3.trans x5, t5, e5, (hd2.mono gr.le).mono x5.le, g5, a5, q2⟩
                | true =>
                  dsimp only at q2
                  show te σ4 H5 _
                  cases q5 : me ρ3 S4 with
                  | none => rw [q5] at q2; cases q2
                  | some r5 =>
                    obtain ⟨r5, S5⟩ := r5
                    rw [q5] at q2
                    cases r5 with
                    | er c fs => cases q2
                    | ok y =>
                      dsimp only at q2
                      split at q2
                      · rename_i cf
                        refine he _ _ _ ⟨w5, ρ3, S4, Do.weakT t5 (s4.step x5) q5 fun v6 H6 w6 x6 t6 rv => ?_⟩
                        have e6 : H6 Dl = some (.lst xs) := x6.fr _ _ e5 a5
                        have g6 : w6.G Dl = none := by
                          cases q : w6.G Dl with
                          | none => rfl
                          | some u =>
                            rcases x6.gn Dl u q with z | z | z
                            · rw [g5] at z; cases z
                            · rw [e5] at z; cases z
                            · exact absurd z a5
                        have a6 : Dl ∉ w6.al := fun z => by
                          have := x6.nw Dl z a5
                          rw [e5] at this
                          cases this
                        have hd6 := ((hd2.mono gr.le).mono x5.le).mono x6.le
                        refine ⟨xs, e6, by rw [hd2.length]; exact cf.2, w6, S5, acc ++ [y], xs ++ [v6], ((st3.trans x5).trans x6).upd hD, t6.upd g6 a6, upd_same, hd6.append (.cons (rv.dt cf.1) .nil), g6, a6, q2⟩
                      · cases q2
    · have ei : i = ds.length := by omega
      subst ei
      rw [List.drop_length] at q2
      cases q2
      exact .inl ⟨wk.stops H2 w2 st2.le t2.sub, p (.ref Dl) H2 w2 st2 t2 ⟨Dl, xs, rfl, st1.fresh t1 hD, g2, a2, e2, hd2⟩⟩
end
end Pd

/-! Comprehensions as rules; defs and their calls. -/
namespace Pd
open PySem L2 Evl Hg
open PySem.Spec PyProof.Rows
section
variable {X : Cx} {W : WX} {z : Option Zi} {w0 : W0} {w w' w1 : Wd} {σ : L2.St} {H H' H1 : Hp} {ρ ρ' : Rho} {S S' S1 : Sto} {Dn : Ends} {K : PySem.W.Frag} {mg : Str → Option Value}
variable {e : Expr} {es : List Expr} {pos : Pos} {st : Stmt} {me : M D} {ms : M (List D)} {m : SM} {g : D → Rho → Option Rho} {tv : List Nat} {mt : M Bool} {mi : M (List D)}
theorem pdts_nil : PDTs X W z [] (M.pure true) := pts_mono pts_nil fun σ H Q h => by
  obtain ⟨w, ρ, S, h⟩ := h
  exact h.pure true rfl
theorem pdts_one {c : Expr} (h : PDT X W z c mt) : PDTs X W z [c] mt := pts_one h
theorem pf_lc {elt tg iter : Expr} {ifs : List Expr} {scope : Scope} {own : List (Str × Nat)} (hc : X.calm = true) (hN : X.N.Nodup) (hi : PDI X W z tg iter mi) (ok : BlkOk X.N X.env.scope scope own)
    (hg : ∀ (s : Shared) (H : Hp) (C : Addr) (cl : List (Str × Addr)) (fp : List Addr), PG (X.blk s H scope (compEnvC scope cl C X.env) fp) tg (tG X.K X.mg none tv g))
    (ht : ∀ (s : Shared) (H : Hp) (C : Addr) (cl : List (Str × Addr)) (fp : List Addr), PTs (X.blk s H scope (compEnvC scope cl C X.env) fp) ifs (tT X.K X.mg WNo none mt))
    (he : ∀ (s : Shared) (H : Hp) (C : Addr) (cl : List (Str × Addr)) (fp : List Addr), PE (X.blk s H scope (compEnvC scope cl C X.env) fp) elt (tD X.K X.mg WNo none me)) (hv : ∀ i ∈ tv, i ∈ own.map (·.2) := by decide)
    (hs : ∀ x, foldedSetIterable iter X.env x = pure x := by intro _; rfl) :
    PF X W z (.ListComp elt [⟨tg, iter, ifs, 0⟩] scope pos) (mf_lc mi (own.map (·.2)) g mt me) :=
  pe_mono (pe_lc hc hN hi ok hg ht he hs) fun σ H Q h => by
    obtain ⟨w, ρ, S, h⟩ := h
    exact lc_go hv (fun _ _ _ q => q) (fun _ _ _ _ q => q) (fun _ _ _ q => q) (fun _ _ _ q => q) h
/-- name = [..], kept as a list that changes, and not -/
theorem ps_lcF {i : Nat} {y : Str} {py : Pos} {elt tg iter : Expr} {ifs : List Expr} {scope : Scope} {own : List (Str × Nat)} {spos : Pos} (hc : X.calm = true) (hN : X.N.Nodup) (hy : X.N[i]? = some y) (hyl : X.env.scope.names.lookup y = some .local)
    (hsw : swapsWith (.ListComp elt [⟨tg, iter, ifs, 0⟩] scope pos) (some (.Name y py)) spos.line X.env = pure true) (hi : PDI X W z tg iter mi) (ok : BlkOk X.N X.env.scope scope own)
    (hg : ∀ (s : Shared) (H : Hp) (C : Addr) (cl : List (Str × Addr)) (fp : List Addr), PG (X.blk s H scope (compEnvC scope cl C X.env) fp) tg (tG X.K X.mg none tv g))
    (ht : ∀ (s : Shared) (H : Hp) (C : Addr) (cl : List (Str × Addr)) (fp : List Addr), PTs (X.blk s H scope (compEnvC scope cl C X.env) fp) ifs (tT X.K X.mg WNo none mt))
    (he : ∀ (s : Shared) (H : Hp) (C : Addr) (cl : List (Str × Addr)) (fp : List Addr), PE (X.blk s H scope (compEnvC scope cl C X.env) fp) elt (tD X.K X.mg WNo none me)) (hv : ∀ i ∈ tv, i ∈ own.map (·.2) := by decide)
    (hs : ∀ x, foldedSetIterable iter X.env x = pure x := by intro _; rfl) :
    PS X (.Assign [.Name y py] (.ListComp elt [⟨tg, iter, ifs, 0⟩] scope pos) spos) (tAsg (tF X.K X.mg W z (mf_lc mi (own.map (·.2)) g mt me)) (gName i)) :=
  ps_mono (ps_setLc hc hN hy hyl hsw hi ok hg ht he hs) fun Dn σ H h => by
    obtain ⟨w, ρ, S, h⟩ := h
    exact lc_go (Q := fun x H1 => gName i x σ H1 Dn.nx) hv (fun _ _ _ q => q) (fun _ _ _ _ q => q) (fun _ _ _ q => q) (fun _ _ _ q => q) h
theorem ps_fz {i : Nat} {m : M (List D)} (h : PS X st (tAsg (tF X.K X.mg W z m) (gName i))) : PS X st (tAsg (tD X.K X.mg W z (m_fz m)) (gName i)) := ps_mono h fun Dn σ H h => fz_go h

/-! ### defs -/
/-- a promise by a function of data -/
def spD (K : PySem.W.Frag) (mg : Str → Option Value) (n : Nat) (F : List D → Sto → Option (R D × Sto)) : Sp := fun vs H Q E =>
  ∃ w S ds, At K mg w H S ∧ DtA K mg w vs ds ∧ ds.length = n ∧ ∃ r S', F ds S = some (r, S') ∧
    (∀ d, r = .ok d → ∀ v H' w', Stp w w' H H' → At K mg w' H' S' → Dt K mg w' v d → Q v H') ∧
    (∀ c fs, r = .er c fs → ∀ H' w' cls dx, Stp w w' H H' → At K mg w' H' S' → Xr K mg w' cls dx c fs → E cls dx H')
def runD (n : Nat) (body : SM) : List D → Sto → Option (R D × Sto) := fun ds S =>
  match body (ds.map Sv.d ++ List.replicate (n - ds.length) .un) S with
  | some (.nx, _, S') => some (.ok .non, S')
  | some (.rt d, _, S') => some (.ok d, S')
  | some (.er c fs, _, S') => some (.er c fs, S')
  | _ => none
theorem start_sl {N : List Str} {vs : List V} {ds : List D} (h : DtA K mg w vs ds) : Sl K mg none w H (L2.start N vs) (ds.map Sv.d ++ List.replicate (N.length - ds.length) .un) := by
  have hl := h.length
  have nom : ∀ (i : Nat) (o : Mo), (ds.map Sv.d ++ List.replicate (N.length - ds.length) .un)[i]? ≠ some (Sv.m o) := by
    intro i o e
    rcases List.mem_append.mp (List.mem_of_getElem? e) with h | h
    · obtain ⟨_, _, h⟩ := List.mem_map.mp h
      cases h
    · cases (List.mem_replicate.mp h).2
  refine ⟨by simp [L2.start, hl], fun i d e => ?_, fun i o e => absurd e (nom i o), fun i j oi oj a e _ _ _ => absurd e (nom i oi), fun zi e => nomatch e⟩
  by_cases hi : i < ds.length
  · rw [List.getElem?_append_left (by simpa using hi), List.getElem?_map] at e
    cases q : ds[i]? with
    | none => rw [q] at e; cases e
    | some d' =>
      rw [q] at e
      cases e
      obtain ⟨v, ev, hv⟩ := h.get q
      refine ⟨v, ?_, hv⟩
      unfold L2.start
      rw [List.getElem?_append_left (by simp [hl, hi]), List.getElem?_map, ev]
      rfl
  · rw [List.getElem?_append_right (by simpa using hi)] at e
    cases (List.mem_replicate.mp (List.mem_of_getElem? e)).2
section
variable {P : Program} {wo : World} {base : Heap}
/-- the wish of a def's body about what is raised -/
abbrev WE0 (E : XK) : WX := fun cls d _ H' => E cls d H'
theorem fnD {k : Nat} {f : Addr} {x q : Str} {fd : FuncData} {N ps : List Str} {body : SM}
    (F : Fun K x q st f fd) (Sc : FnScope N ps (defScope st))
    (hb : ∀ (cdv : Value) (A : Around) (out : List Env) (s : Shared) (H : Hp) (E : XK) (w0 : W0), Quiet A → Room k (A.deeper (envOfC q (defScope st) s.heap.objs.size f cdv)) →
      PDSs (cxOf (L2.CX P wo) P wo K mg base N q (defScope st) f cdv A out s H E) (WE0 E) none w0 (defBody st) body) :
    FnG P wo K mg base (L2.CX P wo) (k + 1) f fd ps (spD K mg ps.length (runD N.length body)) := by
  refine fnG F Sc (fun vs H Q E h => ?_) fun cdv A out s H vs Q E qa hr h => ⟨_, hb cdv A out s H E ⟨Classical.choose h, H⟩ qa hr, ?_⟩
  · obtain ⟨w, S, ds, _, hd, hl, _⟩ := h
    rw [hd.length, hl]
  · obtain ⟨S, ds, t, hd, hl, r, S', e, k1, k2⟩ := Classical.choose_spec h
    unfold runD at e
    have st0 : StS K mg none ⟨Classical.choose h, H⟩ (Classical.choose h) (L2.start N vs) H (ds.map Sv.d ++ List.replicate (N.length - ds.length) .un) S := by
      refine ⟨t, start_sl hd, fun i o a e1 => ?_, Stp.refl _ _⟩
      rcases List.mem_append.mp (List.mem_of_getElem? e1) with h | h
      · obtain ⟨_, _, h⟩ := List.mem_map.mp h
        cases h
      · cases (List.mem_replicate.mp h).2
    cases q2 : body (ds.map Sv.d ++ List.replicate (N.length - ds.length) .un) S with
    | none => rw [q2] at e; cases e
    | some x =>
      obtain ⟨fl, ρ1, S1⟩ := x
      rw [q2] at e
      refine ⟨_, _, S, st0, fl, ρ1, S1, q2, ?_⟩
      cases fl with
      | nx =>
        cases e
        exact fun σ' H' w' l s' => k1 .non rfl .non H' w' s'.st s'.t .non
      | rt d =>
        cases e
        exact fun v σ' H' w' l s' hd' => k1 d rfl v H' w' s'.st s'.t hd'
      | er c fs =>
        cases e
        exact fun σ' H' w' cls dx l s' x => k2 c fs rfl H' w' cls dx s'.st s'.t x
      | bk => cases e
      | ct => cases e
end
/-! ### calls -/
def m_call (n : Nat) (F : List D → Sto → Option (R D × Sto)) (ms : M (List D)) : M D := ms.bind fun ds _ S => if ds.all fixed = true ∧ ds.length = n then F ds S else none
variable {k j n : Nat} {f : Addr} {fd : FuncData} {ps : List Str} {sp : Sp} {E : L2.St → XK} {x : Str} {p : Pos} {F : List D → Sto → Option (R D × Sto)}
/-- the callee runs, what it raises is wished for at the caller's slots -/
theorem runGS {CX : CXT} {pins : List (Addr × Obj)} {s : Shared} {Q : VK} {us : List Value} {vs : List V}
    (F : FnG X.prog X.w X.K X.mg X.base CX k f fd ps sp) (g : Quiet X.A) (hr : Room k X.A) (hb : Binds X.K fd ps []) (hx : PassesAt CX X σ (E σ))
    (I : Inv X pins σ H s) (r : Vals vs us) (h : sp vs H Q (E σ)) :
    wpAny (model X.prog X.w) X.A (call (.ref f) us) (EP X pins σ Q) X.xe s := by
  have hl : (us ++ []).length = ps.length := by rw [List.append_nil, ← r.length]; exact F.len vs H Q (E σ) h
  have b := hb s us I.kIn hl
  rw [List.append_nil] at b
  refine wpAny_call (codeAny_mono (F.go X.A X.stack s H ⟨us, []⟩ us vs Q (E σ) g hr I.env0 b r h) ?_)
  intro res s' hq
  match res, hq with
  | .error er, hq => exact hx pins H s er s' I hq
  | .ok (.ret u), hq => exact I.after hq
  | .ok .next, hq => exact hq.elim
  | .ok .brk, hq => exact hq.elim
  | .ok .cont, hq => exact hq.elim
theorem pe_gS {CX : CXT} {t : TA} (c : Cal X.prog X.w X.K X.mg X.base CX k x sp) (g : Quiet X.A) (hr : Room j X.A) (hk : k ≤ j) (hg : Gl X x) (hx : ∀ σ, PassesAt CX X σ (E σ))
    (ha : PA X (e :: es) t) (hdb : (x == ("__debug__" : Str)) = false := by decide)
    (he : starEach (e :: es) X.env = (false, eval e X.env) :: starEach es X.env := by rfl)
    (hpl : (backTo pos (starEach es X.env)).any (·.1) = false := by rfl) :
    PE X (.Call (.Name x p) (e :: es) [] pos) (fun σ H Q => t σ H fun vs H1 => sp vs H1 Q (E σ)) := by
  obtain ⟨f, fd, ps, F, hm, kp, b⟩ := c.ex
  refine ⟨fun pins s σ H Q I h => wpAny_Call_Name_kw (ld_glob I hg hm ?_ hdb)⟩
  refine PySem.W.callWith_K (h₀ := X.base) I.ok.mod.kin kp (thn (ha.run pos pins s σ H _ I h) ?_) he hpl
  rintro us s1 ⟨vs, H1, I1, r, q⟩
  exact ⟨I1.kIn, runGS F g (hr.mono hk) b (hx σ) I1 r q⟩
theorem call_go {Q : VK} (h : tD K mg W z (m_call n F ms) σ H Q) : tA K mg W z ms σ H fun vs H1 => spD K mg n F vs H1 Q (WE W σ) := by
  obtain ⟨w, ρ, S, h⟩ := h
  refine ⟨w, ρ, S, h.bind (rel1 := relA K mg σ ρ) fun ds vs w1 H1 S1 st rds h1 => ?_⟩
  obtain ⟨t1, s1, r, S', e, p⟩ := h1
  split at e
  · rename_i c
    refine ⟨w1, S1, ds, t1, rds.fix c.1, c.2, r, S', e, fun d hd v H' w' st' t' hv => ?_, fun c fs hd H' w' cls dx st' t' x => ?_⟩
    · subst hd
      exact p v H' w' st' t' (.inl hv)
    · subst hd
      exact p H' w' cls dx st' t' x
  · cases e
theorem pd_call (c : Cal X.prog X.w X.K X.mg X.base (L2.CX X.prog X.w) k x (spD X.K X.mg n F)) (g : Quiet X.A) (hr : Room j X.A) (hk : k ≤ j) (hg : Gl X x) (tk : Takes X W)
    (ha : PDA X W z (e :: es) ms) (hdb : (x == ("__debug__" : Str)) = false := by decide)
    (he : starEach (e :: es) X.env = (false, eval e X.env) :: starEach es X.env := by rfl)
    (hpl : (backTo pos (starEach es X.env)).any (·.1) = false := by rfl) :
    PD X W z (.Call (.Name x p) (e :: es) [] pos) (m_call n F ms) :=
  pe_mono (pe_gS (E := WE W) c g hr hk hg (fun σ => passAt tk σ) ha hdb he hpl) fun σ H Q h => call_go h
end
end Pd

/-! t[::-1], t a tuple. -/
namespace Hv
open PySem PySem.Spec PyProof.Rows HT
section
variable {prog : Program} {w : World} {A : Around} {E : Value → Shared → Prop} {s : Shared}
theorem app_rev {sl : Addr} {u0 u1 u2 : Value} {n : Nat} {R : Int × Int × Nat → Shared → Prop} (h0 : s.heap.IsSliceOf sl u0 u1 u2) (q0 : IsPart u0 none) (q1 : IsPart u1 none) (q2 : IsPart u2 (some (-1)))
    (h : R ((n : Int) - 1, -1, n) s) : wpAny (model prog w) A (Builtin.Slice.sliceApplied (.ref sl) (pure (n : Int))) R E s := by
  obtain ⟨o3, g1, g2, g3⟩ := id h0
  unfold Builtin.Slice.sliceApplied
  unfold Builtin.Slice.sliceFields
  refine wpAny_bind (wpAny_bind (wpAny_field g1 g3 (x := u0) rfl (wpAny_bind (wpAny_field g1 g3 (x := u1) rfl (wpAny_bind (wpAny_field g1 g3 (x := u2) rfl (wpAny_pure ?_)))))))
  refine wpAny_bind (HT.slicePart_ q2 ?_)
  show wpAny _ _ (if ((-1 : Int) == 0) = true then _ else _) _ _ s
  rw [if_neg (show ¬ (((-1 : Int) == 0) = true) by decide)]
  refine wpAny_bind (HT.slicePart_ q0 (wpAny_bind (HT.slicePart_ q1 (wpAny_bind (wpAny_pure (wpAny_pure ?_))))))
  have e : Builtin.Slice.slicePlaces ((n : Int) - 1) (-1) (-1) = n := by
    unfold Builtin.Slice.slicePlaces
    rw [if_neg (show ¬ ((-1 : Int) > 0) by decide)]
    by_cases hn : (n : Int) - 1 > -1
    · rw [if_pos hn, show (- -1 : Int) = 1 by decide, Int.ediv_one]
      omega
    · rw [if_neg hn]
      have : (n : Int) = 0 := by omega
      simp
      omega
  show R ((n : Int) - 1, -1, Builtin.Slice.slicePlaces ((n : Int) - 1) (-1) (-1)) s
  rw [e]
  exact h
theorem pick_rev (xs : Array Value) : ((List.range xs.size).filterMap fun (k : Nat) => xs[(((xs.size : Int) - 1) + (k : Int) * (-1)).toNat]?).toArray = xs.toList.reverse.toArray := by
  have e : (fun (k : Nat) => xs[(((xs.size : Int) - 1) + (k : Int) * (-1)).toNat]?) = (xs[·]?) ∘ fun (k : Nat) => (((xs.size : Int) - 1) + (k : Int) * (-1)).toNat := rfl
  rw [e, ← List.filterMap_map]
  have e2 : (List.range xs.size).map (fun (k : Nat) => (((xs.size : Int) - 1) + (k : Int) * (-1)).toNat) = (List.range xs.size).map fun k => xs.size - 1 - k := by
    refine List.map_congr_left fun k hk => ?_
    have := List.mem_range.mp hk
    omega
  rw [e2, PySem.W.krv_range, List.filterMap_reverse, PySem.W.krv_all]
theorem get_rev {t sl : Addr} {xs : Array Value} {u0 u1 u2 : Value} {R : Value → Shared → Prop} (ht : IsTup s.heap t xs) (h0 : s.heap.IsSliceOf sl u0 u1 u2) (q0 : IsPart u0 none) (q1 : IsPart u1 none) (q2 : IsPart u2 (some (-1)))
    (h : R (.ref s.heap.objs.size) { s with heap := s.heap.push { cls := .type "tuple", data := .seq xs.toList.reverse.toArray } }) (hz : xs.size ≤ sizeLine) : wpAny (model prog w) A (getItem (.ref t) (.ref sl)) R E s := by
  have hk : sizeOk (.seq xs.toList.reverse.toArray) := by
    show xs.toList.reverse.toArray.size ≤ sizeLine
    simpa using hz
  obtain ⟨o3, g1, g2, g3⟩ := id h0
  have hS : s.TypeIs (.ref sl) "slice" := ⟨o3, g1, g2⟩
  unfold getItem
  try with_reducible
    refine wpAny_holding ?_
  first
  | refine wpAny_bind (wpAny_pure ?_)
  | skip
  refine wpAny_bind (wpAny_sequenceKey
    ht.typeIs (by decide) ?_)
  refine wpAny_bind (wpAny_callSpecial?_slot (name := Str.ofString "__getitem__")
    ht.typeIs PyProof.Rows.slot_tuple_getitem (wpAny_call_entry PyProof.Rows.slot_tuple_getitem
      ht.typeIs entry_tuple_getitem ?_ (args_tuple_getitem _ _)))
  show wpAny _ _ (Builtin.Tuple.tupleItemsOf (.ref t) >>= _)
    _ _ s
  refine wpAny_bind (tupleItemsOf_ ht (wpAny_bind (wpAny_typeOf hS ?_)))
  rw [if_pos (by decide)]
  refine wpAny_bind (app_rev h0 q0 q1 q2 ?_)
  have hno : ¬ ((((xs.size : Int) - 1) == 0 && (-1 : Int) == 1 && xs.size == xs.size) = true) := by
    intro q
    rw [Bool.and_eq_true, Bool.and_eq_true] at q
    exact absurd q.1.2 (by decide)
  show wpAny _ _ (if (((xs.size : Int) - 1) == 0 && (-1 : Int) == 1 && xs.size == xs.size) = true then _ else _) _ _ s
  rw [if_neg hno, pick_rev]
  first
    | exact wpAny_bind (m := Builtin.Tuple.tupleExact _) (wpAny_newObj_type
        (wpAny_pure ⟨_, rfl, wpAny_pure h⟩) hk)
    | exact wpAny_bind (m := Builtin.Tuple.tupleExact _) (wpAny_newObj_type
        (wpAny_bind (wpAny_pure (wpAny_pure ⟨_, rfl, wpAny_pure h⟩))) hk)
    | exact wpAny_bind (wpAny_bind (m := Builtin.Tuple.tupleExact _) (wpAny_newObj_type
        (wpAny_pure (wpAny_pure ⟨_, rfl, wpAny_pure h⟩)) hk))
    | exact wpAny_bind (wpAny_bind (m := Builtin.Tuple.tupleExact _) (wpAny_newObj_type
        (wpAny_pure ⟨_, rfl, wpAny_pure h⟩) hk))
end
end Hv
namespace Hg
open PySem L2
open PySem.Spec PyProof.Rows
section
variable {X : Cx}
def tRevT (K : PySem.W.Frag) (te : TE) : TE := fun σ H Q => te σ H fun x H1 => ∃ a xs, x = .ref a ∧ SqT K H1 a xs ∧ ∀ p, H1 p = none → Q (.ref p) (upd H1 p (.tup xs.reverse))
theorem pe_revT {e : Expr} {te : TE} {k : Nat} {p1 p2 p3 pos : Pos} (he : PE X e te) : PE X (.Subscript e (.Slice none none (some (.UnaryOp .USub (.Constant (.int 1) k p1) p2)) p3) pos) (tRevT X.K te) := by
  refine ⟨fun pins s σ H Q I h => ?_⟩
  refine Subscript_ (thn (he.run pins s σ H _ I h) fun v s1 ⟨x, H1, I1, r1, q1⟩ => ?_)
  obtain ⟨a, xs, rfl, hx, q⟩ := q1
  cases r1
  have hst : PO X (some (.UnaryOp .USub (.Constant (.int 1) k p1) p2)) (tPart (tUn (rU fun i => .int (-i)) (tC (.int 1)))) := po_some
    (pe_un un_neg pe_int)
  refine wpAny_Slice (thn (po_none.run pins s1 σ H1 (fun o G => o = none ∧ G = H1) I1 ⟨rfl, rfl⟩) fun ul s2 ⟨l, H2, I2, pl, el, e2⟩ => ?_)
  subst el e2
  refine thn (po_none.run pins s2 σ H2 (fun o G => o = none ∧ G = H2) I2 ⟨rfl, rfl⟩) fun uu s3 ⟨u, H3, I3, pu, eu, e3⟩ => ?_
  subst eu e3
  refine thn (hst.run pins s3 σ H3 (fun o G => o = some (-1) ∧ G = H3) I3 ⟨1, rfl, -1, rfl, rfl, rfl⟩) fun us s4 ⟨o, H4, I4, ps, eo, e4⟩ => ?_
  subst eo e4
  have I5 : Inv X pins σ H4 { s4 with heap := s4.heap.push { cls := .type "slice", data := .fields #[ul, uu, us] } } := I4.kept (t' := s4.toks) fun b ob q => Heap.get?_push_of_some _ q
  obtain ⟨its, r, ht, hz⟩ := I5.tuple hx
  have hlen := r.length
  show wpAny (model X.prog X.w) X.A (subscriptTail e (.Slice none none (some (.UnaryOp .USub (.Constant (.int 1) k p1) p2)) p3) (.ref a) (.ref s4.heap.objs.size)) (EP X pins σ Q) X.xe { s4 with heap := s4.heap.push { cls := .type "slice", data := .fields #[ul, uu, us] } }
  refine tail_any (ops := [.ref a, .ref s4.heap.objs.size]) ht.typeIs (PyProof.Rows.slot_tuple_getitem.lookup) ?_ (by with_unfolding_all rfl)
  refine Hv.get_rev ht (Heap.IsSliceOf.new _ ul uu us) pl pu ps ?_ (by rw [List.size_toArray]; omega)
  refine ⟨.ref _, _, I5.laid (t' := s4.toks) (o := .tup xs.reverse) (fun b ob q => Heap.get?_push_of_some _ q) (Nat.le_refl _) ?_, rfl, q _ (I5.hok.fresh (Nat.le_refl _))⟩
  exact ⟨by rw [List.length_reverse]; exact hz, _, r.reverse, IsTup.new _ _⟩
end
end Hg

/-! Operations on data. -/
namespace Pd
open PySem L2 Evl Hg
section
variable {X : Cx} {W : WX} {z : Option Zi} {w w' w1 : Wd} {σ : L2.St} {H H' H1 : Hp} {ρ ρ' : Rho} {S S' S1 : Sto} {K : PySem.W.Frag} {mg : Str → Option Value}
variable {e a b : Expr} {es : List Expr} {pos : Pos} {me ma mb : M D} {ms : M (List D)}
/-! ### arithmetic -/
def addD : D → D → Option D
  | .int i, .int j => some (.int (i + j))
  | .str x, .str y => if x.length + y.length ≤ sizeLine then some (.str (x ++ y)) else none
  | .tup xs, .tup ys => if xs.length + ys.length ≤ sizeLine then some (.tup (xs ++ ys)) else none
  | .lst xs, .lst ys => if xs.length + ys.length ≤ sizeLine then some (.lst (xs ++ ys)) else none
  | _, _ => none
def rAddD (K : PySem.W.Frag) : R2 := fun x y H Q => rI0 (fun i j => .int (i + j)) x y H Q ∨ (∃ i j, x = .str i ∧ y = .str j ∧ i.length + j.length ≤ sizeLine ∧ Q (.str (i ++ j)) H) ∨ rCatA K x y H Q ∨
  (∃ a b xs ys, x = .ref a ∧ y = .ref b ∧ Rd H a (.lst xs) ∧ Rd H b (.lst ys) ∧ xs.length + ys.length ≤ sizeLine ∧ ∀ p, H p = none → Q (.ref p) (upd H p (.lst (xs ++ ys))))
theorem op_catR : OpR X (binaryOp .Add) (fun x y H Q => ∃ a b xs ys, x = .ref a ∧ y = .ref b ∧ Rd H a (.lst xs) ∧ Rd H b (.lst ys) ∧ xs.length + ys.length ≤ sizeLine ∧ ∀ p, H p = none → Q (.ref p) (upd H p (.lst (xs ++ ys)))) := by
  intro pins s σ H x y v u Q I rx ry h
  obtain ⟨l, b, xs, zs, rfl, rfl, hH, hB, hz, q⟩ := h
  cases rx
  cases ry
  obtain ⟨z, its, n, r, e⟩ := hH.ok I.hok
  obtain ⟨z2, its2, n2, r2, e2⟩ := hB.ok I.hok
  have hl := r.length
  have hl2 := r2.length
  refine PySem.P.add_list e e2 ?_ (by rw [List.size_toArray, List.size_toArray]; omega)
  have ea : its.toArray ++ its2.toArray = (its ++ its2).toArray := by simp
  rw [ea]
  exact ⟨.ref _, _, I.lnew (t' := s.toks) (r.append r2) (by rw [List.length_append]; omega), rfl, q _ I.fresh⟩
theorem op_addD : OpR X (binaryOp .Add) (rAddD X.K) := OpR.or op_add (OpR.or op_add_str (OpR.or op_catA op_catR))
theorem o2_add : Op2 X (rAddD X.K) addD := by
  intro w H x y a b d s ra rb e Q q
  have g := Grow.refl s
  cases a <;> cases b <;> first | (exfalso; simp [addD] at e; done) | skip
  · cases ra; cases rb; cases e
    exact .inl ⟨_, _, rfl, rfl, q _ _ _ g (.int _)⟩
  · cases ra; cases rb
    simp only [addD] at e
    split at e
    · cases e
      exact .inr (.inl ⟨_, _, rfl, rfl, by assumption, q _ _ _ g (.str _)⟩)
    · cases e
  · obtain ⟨a, xs, rfl, ha, hx⟩ := ra
    obtain ⟨b, ys, rfl, hb, hy⟩ := rb
    simp only [addD] at e
    split at e
    · rename_i c
      cases e
      refine .inr (.inr (.inl ⟨a, b, xs, ys, rfl, rfl, ex_t s ha, ex_t s hb, by rw [hx.length, hy.length]; exact c, ?_, ?_, ?_⟩))
      · rintro rfl
        cases hx
        exact q _ _ _ g (.tup hb hy)
      · rintro _ rfl
        cases hy
        rw [List.append_nil] at q
        exact q _ _ _ g (.tup ha hx)
      · intro _ _ p np
        have gn := Grow.new (o := .tup (xs ++ ys)) s np
        exact q _ _ _ gn (.tup (st_of upd_same) ((hx.mono gn.le).append (hy.mono gn.le)))
    · cases e
  · obtain ⟨a, xs, rfl, ha, hx⟩ := ra
    obtain ⟨b, ys, rfl, hb, hy⟩ := rb
    simp only [addD] at e
    split at e
    · rename_i c
      cases e
      refine .inr (.inr (.inr ⟨a, b, xs, ys, rfl, rfl, ha, hb, by rw [hx.length, hy.length]; exact c, ?_⟩))
      intro p np
      have gn := Grow.new (o := .lst (xs ++ ys)) s np
      exact q _ _ _ gn (.lst (Rd.of upd_same) ((hx.mono gn.le).append (hy.mono gn.le)))
    · cases e
def intD (f : Int → Int → Option Int) : D → D → Option D
  | .int i, .int j => (f i j).map D.int
  | _, _ => none
theorem o2_int {C : Int → Int → Prop} {f : Int → Int → Int} {g : Int → Int → Option Int} (h : ∀ i j k, g i j = some k → C i j ∧ k = f i j) : Op2 X (rI C fun i j => .int (f i j)) (intD g) := by
  intro w H x y a b d s ra rb e Q q
  cases a <;> cases b <;> first | (exfalso; simp [intD] at e; done) | skip
  rename_i i j
  cases ra; cases rb
  simp only [intD] at e
  cases q1 : g i j with
  | none => rw [q1] at e; cases e
  | some k =>
    rw [q1] at e
    cases e
    obtain ⟨c, rfl⟩ := h i j k q1
    exact ⟨i, j, rfl, rfl, c, q _ _ _ (Grow.refl s) (.int _)⟩
theorem o2_int0 {f : Int → Int → Int} : Op2 X (rI0 fun i j => .int (f i j)) (intD fun i j => some (f i j)) := by
  intro w H x y a b d s ra rb e Q q
  cases a <;> cases b <;> first | (exfalso; simp [intD] at e; done) | skip
  cases ra; cases rb; cases e
  exact ⟨_, _, rfl, rfl, q _ _ _ (Grow.refl s) (.int _)⟩
def small64 (i : Int) : Bool := decide (-(2 ^ 64) < i) && decide (i < 2 ^ 64)
def mulD : D → D → Option D := intD fun i j => if (small64 i || small64 j) = true then some (i * j) else none
theorem o2_mul : Op2 X (rI CMul fun i j => .int (i * j)) mulD := o2_int fun i j k h => by
  split at h
  · rename_i c
    cases h
    refine ⟨?_, rfl⟩
    rcases Bool.or_eq_true_iff.mp c with c | c
    · simp only [small64, Bool.and_eq_true, decide_eq_true_eq] at c
      exact .inl c
    · simp only [small64, Bool.and_eq_true, decide_eq_true_eq] at c
      exact .inr c
  · cases h
def subD : D → D → Option D := intD fun i j => some (i - j)
def modD : D → D → Option D := intD fun i j => if 0 < j then some (i % j) else none
theorem o2_mod : Op2 X (rI (fun _ j => 0 < j) fun i j => .int (i % j)) modD := o2_int fun i j k h => by
  split at h
  · cases h; exact ⟨by assumption, rfl⟩
  · cases h
def fdivD : D → D → Option D := intD fun i j => if 0 < j ∧ j < 1073741824 then some (i / j) else none
theorem o2_fdiv : Op2 X (rI CDiv fun i j => .int (i / j)) fdivD := o2_int fun i j k h => by
  split at h
  · cases h; exact ⟨by assumption, rfl⟩
  · cases h
def powD : D → D → Option D := intD fun i j => if 0 ≤ j ∧ j ≤ 1000000 ∧ i.natAbs < 2 ^ 64 then some (i ^ j.toNat) else none
theorem o2_pow : Op2 X (rI CPow fun i j => .int (i ^ j.toNat)) powD := o2_int fun i j k h => by
  split at h
  · cases h; exact ⟨by assumption, rfl⟩
  · cases h
theorem pd_add (ha : PD X W z a ma) (hb : PD X W z b mb) : PD X W z (.BinOp a .Add b pos) (m_op addD ma mb) := pd_op op_addD o2_add ha hb
theorem pd_sub (ha : PD X W z a ma) (hb : PD X W z b mb) : PD X W z (.BinOp a .Sub b pos) (m_op subD ma mb) := pd_op op_sub o2_int0 ha hb
theorem pd_mul (ha : PD X W z a ma) (hb : PD X W z b mb) : PD X W z (.BinOp a .Mult b pos) (m_op mulD ma mb) := pd_op op_mul o2_mul ha hb
theorem pd_mod (ha : PD X W z a ma) (hb : PD X W z b mb) : PD X W z (.BinOp a .Mod b pos) (m_op modD ma mb) := pd_op op_mod o2_mod ha hb
theorem pd_fdiv (ha : PD X W z a ma) (hb : PD X W z b mb) : PD X W z (.BinOp a .FloorDiv b pos) (m_op fdivD ma mb) := pd_op op_fdiv o2_fdiv ha hb
theorem pd_pow (ha : PD X W z a ma) (hb : PD X W z b mb) : PD X W z (.BinOp a .Pow b pos) (m_op powD ma mb) := pd_op op_pow o2_pow ha hb
def m_neg (m : M D) : M D := m.bind fun d => M.lift fun _ _ => match d with
  | .int i => some (.int (-i))
  | _ => none
theorem pd_neg (ha : PD X W z a ma) : PD X W z (.UnaryOp .USub a pos) (m_neg ma) := pe_mono (pe_un un_neg ha) fun σ H Q h => by
  obtain ⟨w, ρ, S, h⟩ := h
  refine ⟨w, ρ, S, h.bind fun d v w1 H1 S1 st rd h1 => ?_⟩
  obtain ⟨x, e, k⟩ := h1.lift
  cases d <;> first | (exfalso; simp at e; done) | skip
  cases e
  obtain rfl := rr_int rd
  exact ⟨_, rfl, k _ H1 w1 (Grow.refl h1.t.sub) (.inl (.int _))⟩

/-! ### order -/
def ltD : D → D → Option Bool
  | .int i, .int j => some (decide (i < j))
  | .str x, .str y => some (decide (x.cps.toList < y.cps.toList))
  | _, _ => none
def leD : D → D → Option Bool
  | .int i, .int j => some (decide (i ≤ j))
  | .str x, .str y => some (!decide (y.cps.toList < x.cps.toList))
  | _, _ => none
def gtD : D → D → Option Bool
  | .int i, .int j => some (decide (j < i))
  | _, _ => none
def geD : D → D → Option Bool
  | .int i, .int j => some (decide (j ≤ i))
  | _, _ => none
theorem op_ltD : OpR X (compareOp .Lt) (fun x y H Q => rI0 (fun i j => .bl (decide (i < j))) x y H Q ∨ ∃ i j, x = .str i ∧ y = .str j ∧ Q (.bl (decide (i.cps.toList < j.cps.toList))) H) := OpR.or op_lt op_lt_str
theorem op_leD : OpR X (compareOp .LtE) (fun x y H Q => rI0 (fun i j => .bl (decide (i ≤ j))) x y H Q ∨ ∃ i j, x = .str i ∧ y = .str j ∧ Q (.bl (!decide (j.cps.toList < i.cps.toList))) H) := OpR.or op_le op_le_str
theorem c2_lt : Cm2 X (fun x y H Q => rI0 (fun i j => .bl (decide (i < j))) x y H Q ∨ ∃ i j, x = .str i ∧ y = .str j ∧ Q (.bl (decide (i.cps.toList < j.cps.toList))) H) ltD := by
  intro w H x y a b c s ra rb e Q q
  cases a <;> cases b <;> first | (exfalso; simp [ltD] at e; done) | skip
  · cases ra; cases rb; cases e
    exact .inl ⟨_, _, rfl, rfl, q H (Ex.refl _)⟩
  · cases ra; cases rb; cases e
    exact .inr ⟨_, _, rfl, rfl, q H (Ex.refl _)⟩
theorem c2_le : Cm2 X (fun x y H Q => rI0 (fun i j => .bl (decide (i ≤ j))) x y H Q ∨ ∃ i j, x = .str i ∧ y = .str j ∧ Q (.bl (!decide (j.cps.toList < i.cps.toList))) H) leD := by
  intro w H x y a b c s ra rb e Q q
  cases a <;> cases b <;> first | (exfalso; simp [leD] at e; done) | skip
  · cases ra; cases rb; cases e
    exact .inl ⟨_, _, rfl, rfl, q H (Ex.refl _)⟩
  · cases ra; cases rb; cases e
    exact .inr ⟨_, _, rfl, rfl, q H (Ex.refl _)⟩
theorem c2_gt : Cm2 X (rI0 (fun i j => .bl (decide (j < i)))) gtD := by
  intro w H x y a b c s ra rb e Q q
  cases a <;> cases b <;> first | (exfalso; simp [gtD] at e; done) | skip
  cases ra; cases rb; cases e
  exact ⟨_, _, rfl, rfl, q H (Ex.refl _)⟩
theorem c2_ge : Cm2 X (rI0 (fun i j => .bl (decide (j ≤ i)))) geD := by
  intro w H x y a b c s ra rb e Q q
  cases a <;> cases b <;> first | (exfalso; simp [geD] at e; done) | skip
  cases ra; cases rb; cases e
  exact ⟨_, _, rfl, rfl, q H (Ex.refl _)⟩

/-! ### data that are shown and compared -/
mutual
def D.py : D → Option PyData
  | .non => some .none
  | .bl b => some (.bool b)
  | .int i => some (.int i)
  | .str x => some (.str x)
  | .tup ds => match pyA ds with
    | some ps => some (.tuple ps)
    | none => none
  | .lst ds => match pyA ds with
    | some ps => some (.list ps)
    | none => none
  | .dct kvs => match pyK kvs with
    | some ps => some (.dict ((kvs.map fun p => keyD p.1).zip ps))
    | none => none
  | _ => none
def pyA : List D → Option (List PyData)
  | [] => some []
  | d :: ds => match d.py, pyA ds with
    | some p, some ps => some (p :: ps)
    | _, _ => none
def pyK : List (Key × D) → Option (List PyData)
  | [] => some []
  | (_, d) :: ds => match d.py, pyK ds with
    | some p, some ps => some (p :: ps)
    | _, _ => none
end
theorem pyK_map : ∀ kvs : List (Key × D), pyK kvs = pyA (kvs.map (·.2))
  | [] => by simp [pyK, pyA]
  | (k, d) :: r => by simp [pyK, pyA, pyK_map r]
theorem pyA_cons {d : D} {ds : List D} {ps : List PyData} (e : pyA (d :: ds) = some ps) : ∃ p qs, ps = p :: qs ∧ d.py = some p ∧ pyA ds = some qs := by
  simp only [pyA] at e
  cases h1 : d.py with
  | none => rw [h1] at e; cases e
  | some p =>
    cases h2 : pyA ds with
    | none => rw [h1, h2] at e; cases e
    | some qs =>
      rw [h1, h2] at e
      cases e
      exact ⟨p, qs, rfl, rfl, rfl⟩
mutual
theorem Dt.dd : ∀ {v : V} {d : D} {p : PyData}, Dt K mg w v d → d.py = some p → Dd K w.G v p
  | _, _, _, .non, e => by simp only [D.py] at e; cases e; exact .non
  | _, _, _, .bl b, e => by simp only [D.py] at e; cases e; exact .bl b
  | _, _, _, .int i, e => by simp only [D.py] at e; cases e; exact .int i
  | _, _, _, .str x, e => by simp only [D.py] at e; cases e; exact .str x
  | _, _, _, .tup (ds := ds) h hs, e => by
    simp only [D.py] at e
    cases q : pyA ds with
    | none => rw [q] at e; cases e
    | some ps =>
      rw [q] at e
      cases e
      exact .tup h (hs.dd q)
  | _, _, _, .lst (ds := ds) h hs, e => by
    simp only [D.py] at e
    cases q : pyA ds with
    | none => rw [q] at e; cases e
    | some ps =>
      rw [q] at e
      cases e
      exact .lst (.inl h) (hs.dd q)
  | _, _, _, .dct (kvs := kvs) (kds := kds) h ek hs, e => by
    simp only [D.py] at e
    cases q : pyK kds with
    | none => rw [q] at e; cases e
    | some ps =>
      rw [q] at e
      cases e
      rw [pyK_map] at q
      have e2 : (kds.map fun p => keyD p.1) = kvs.map fun p => keyD p.1 := by
        have : ∀ {α : Type} (l : List (Key × α)), (l.map fun p => keyD p.1) = (l.map (·.1)).map keyD := fun l => by rw [List.map_map]; rfl
        rw [this, this, ek]
      rw [e2]
      exact .dct h (hs.dd q)
  | _, _, _, .ins _ _ _ _, e => by simp [D.py] at e
  | _, _, _, .own _, e => by simp [D.py] at e
  | _, _, _, .cls _, e => by simp [D.py] at e
  | _, _, _, .scr _, e => by simp [D.py] at e
theorem DtA.dd : ∀ {vs : List V} {ds : List D} {ps : List PyData}, DtA K mg w vs ds → pyA ds = some ps → DdAll K w.G vs ps
  | _, _, _, .nil, e => by simp only [pyA] at e; cases e; exact .nil
  | _, _, _, .cons h hs, e => by
    obtain ⟨p, qs, rfl, e1, e2⟩ := pyA_cons e
    exact .cons (h.dd e1) (hs.dd e2)
end
theorem Rs.dd {x : V} {d : D} {p : PyData} (s : Ex w.G H) (r : Rs K mg w H x d) (e : d.py = some p) : Dd K H x p := by
  cases d with
  | non => cases r; simp only [D.py] at e; cases e; exact .non
  | bl b => cases r; simp only [D.py] at e; cases e; exact .bl b
  | int b => cases r; simp only [D.py] at e; cases e; exact .int b
  | str b => cases r; simp only [D.py] at e; cases e; exact .str b
  | tup ds =>
    obtain ⟨a, xs, rfl, h, hs⟩ := r
    exact ((Dt.tup h hs).dd e).ex s
  | lst ds =>
    obtain ⟨a, xs, rfl, h, hs⟩ := r
    simp only [D.py] at e
    cases q : pyA ds with
    | none => rw [q] at e; cases e
    | some ps =>
      rw [q] at e
      cases e
      exact .lst (.inl h) ((hs.dd q).ex s)
  | dct kds =>
    obtain ⟨a, kvs, rfl, h, ek, hs⟩ := r
    simp only [D.py] at e
    cases q : pyK kds with
    | none => rw [q] at e; cases e
    | some ps =>
      rw [q] at e
      cases e
      rw [pyK_map] at q
      have e2 : (kds.map fun p => keyD p.1) = kvs.map fun p => keyD p.1 := by
        have : ∀ {α : Type} (l : List (Key × α)), (l.map fun p => keyD p.1) = (l.map (·.1)).map keyD := fun l => by rw [List.map_map]; rfl
        rw [this, this, ek]
      rw [e2]
      exact .dct h ((hs.dd q).ex s)
  | _ => simp [D.py] at e
mutual
theorem Dd.dp : ∀ {v : V} {d : PyData}, Dd K H v d → d.canLay0 = true → Dp K H v d
  | _, _, .non, _ => .non
  | _, _, .bl b, _ => .bl b
  | _, _, .int i, _ => .int i
  | _, _, .str x, _ => .str x
  | _, _, .lst h ha, c => .lst h (DdAll.dp ha (by simpa [PyData.canLay0] using c))
  | _, _, .tup h ha, c => .tup h (DdAll.dp ha (by simpa [PyData.canLay0] using c))
  | _, _, .dct _ _, c => by simp [PyData.canLay0] at c
theorem DdAll.dp : ∀ {vs : List V} {ds : List PyData}, DdAll K H vs ds → PyData.canLayAll0 ds = true → DpAll K H vs ds
  | _, _, .nil, _ => .nil
  | _, _, .cons (d := d) (ds := ds) h ha, c => by
    have c' : (d.canLay0 && PyData.canLayAll0 ds) = true := by simpa only [PyData.canLayAll0] using c
    obtain ⟨c1, c2⟩ := Bool.and_eq_true_iff.mp c'
    exact .cons (Dd.dp h c1) (DdAll.dp ha c2)
end
/-- ==, of data that have no dicts -/
def eqP (a b : D) : Option Bool := match a.py, b.py with
  | some p, some q => if SeqAt.shaped p = true ∧ SeqAt.shaped q = true then some (PyData.eqv p q) else none
  | _, _ => none
theorem c2_eqP : Cm2 X (rEqD X.K) eqP := by
  intro w H x y a b c s ra rb e Q q
  unfold eqP at e
  cases e1 : a.py with
  | none => rw [e1] at e; cases e
  | some p =>
    cases e2 : b.py with
    | none => rw [e1, e2] at e; cases e
    | some p' =>
      rw [e1, e2] at e
      dsimp only at e
      split at e
      · rename_i c
        cases e
        exact ⟨p, p', Dd.dp (ra.dd s e1) (SeqAt.canLay_of_shaped c.1), Dd.dp (rb.dd s e2) (SeqAt.canLay_of_shaped c.2), c.1, c.2, q H (Ex.refl _)⟩
      · cases e
theorem c2_neP : Cm2 X (rNeD X.K) fun a b => (eqP a b).map (!·) := by
  intro w H x y a b c s ra rb e Q q
  dsimp only at e
  unfold eqP at e
  cases e1 : a.py with
  | none => rw [e1] at e; cases e
  | some p =>
    cases e2 : b.py with
    | none => rw [e1, e2] at e; cases e
    | some p' =>
      rw [e1, e2] at e
      dsimp only at e
      split at e
      · rename_i c
        cases e
        exact ⟨p, p', Dd.dp (ra.dd s e1) (SeqAt.canLay_of_shaped c.1), Dd.dp (rb.dd s e2) (SeqAt.canLay_of_shaped c.2), c.1, c.2, q H (Ex.refl _)⟩
      · cases e

/-- ==, of texts, of data -/
def eqF (a b : D) : Option Bool := match a, b with
  | .str x, .str y => some (decide (x = y))
  | a, b => eqP a b
theorem op_eqF (hu : X.A.units + 64 < cLine) : OpR X (compareOp .Eq) (fun x y H Q => rEq x y H Q ∨ rEqD X.K x y H Q) := OpR.or op_eq (op_eqD hu)
theorem op_neF (hu : X.A.units + 64 < cLine) : OpR X (compareOp .NotEq) (fun x y H Q => rNe x y H Q ∨ rNeD X.K x y H Q) := OpR.or op_ne (op_neD hu)
theorem eqF_cases {a b : D} {c : Bool} (e : eqF a b = some c) : (∃ x y, a = .str x ∧ b = .str y ∧ c = decide (x = y)) ∨ eqP a b = some c := by
  unfold eqF at e
  split at e
  · rename_i x y
    cases e
    exact .inl ⟨x, y, rfl, rfl, rfl⟩
  · exact .inr e
theorem c2_eq : Cm2 X (fun x y H Q => rEq x y H Q ∨ rEqD X.K x y H Q) eqF := by
  intro w H x y a b c s ra rb e Q q
  rcases eqF_cases e with ⟨u, v, rfl, rfl, rfl⟩ | e
  · cases ra; cases rb
    refine .inl ⟨rfl, ?_⟩
    rw [show decide (V.str u = V.str v) = decide (u = v) by simp]
    exact q H (Ex.refl _)
  · exact .inr (c2_eqP w H x y a b c s ra rb e Q q)
theorem c2_ne : Cm2 X (fun x y H Q => rNe x y H Q ∨ rNeD X.K x y H Q) fun a b => (eqF a b).map (!·) := by
  intro w H x y a b c s ra rb e Q q
  dsimp only at e
  cases q1 : eqF a b with
  | none => rw [q1] at e; cases e
  | some k =>
    rw [q1] at e
    cases e
    rcases eqF_cases q1 with ⟨u, v, rfl, rfl, rfl⟩ | e
    · cases ra; cases rb
      refine .inl ⟨rfl, ?_⟩
      rw [show decide (V.str u = V.str v) = decide (u = v) by simp]
      exact q H (Ex.refl _)
    · exact .inr (c2_neP w H x y a b _ s ra rb (by dsimp only; rw [e]; rfl) Q q)

/-! ### subscripts, slices -/
def ixD : D → D → Option D
  | .tup ds, .int i => atI ds i
  | .lst ds, .int i => atI ds i
  | .str x, .int i => if x.length ≤ sizeLine then (atI x.cps.toList i).map fun c => .str ⟨#[c]⟩ else none
  | _, _ => none
theorem atI_dt {vs : List V} {ds : List D} {i : Int} {d : D} (h : DtA K mg w vs ds) (e : atI ds i = some d) : ∃ v, atI vs i = some v ∧ Dt K mg w v d := by
  unfold atI at e ⊢
  rw [h.length]
  cases q : ixN ds.length i with
  | none => rw [q] at e; cases e
  | some j =>
    rw [q] at e
    exact h.get e
theorem o2_ix : Op2 X (rIx X.K) ixD := by
  intro w H x y a b d s ra rb e Q q
  have g := Grow.refl s
  cases a <;> cases b <;> first | (exfalso; simp [ixD] at e; done) | skip
  · cases ra; cases rb
    simp only [ixD] at e
    split at e
    · rename_i z i c
      cases q1 : atI z.cps.toList i with
      | none => rw [q1] at e; cases e
      | some y =>
        rw [q1] at e
        cases e
        exact .inr (.inr ⟨_, _, y, rfl, rfl, c, q1, q _ _ _ g (.str _)⟩)
    · cases e
  · obtain ⟨a, xs, rfl, ha, hx⟩ := ra
    cases rb
    obtain ⟨v, e1, h1⟩ := atI_dt hx e
    exact .inr (.inl ⟨a, xs, _, v, rfl, rfl, ex_t s ha, e1, q _ _ _ g h1⟩)
  · obtain ⟨a, xs, rfl, ha, hx⟩ := ra
    cases rb
    obtain ⟨v, e1, h1⟩ := atI_dt hx e
    exact .inl ⟨a, xs, _, v, rfl, rfl, .inl ha, e1, q _ _ _ g h1⟩
theorem pd_ixD (ha : PD X W z a ma) (hb : PD X W z b mb) (hs : PlainIx b) : PD X W z (.Subscript a b pos) (m_op ixD ma mb) := pd_ix ix_seq o2_ix ha hb hs
/-- a slice's parts -/
def mo_none : M (Option Int) := M.pure none
def mo_some (m : M D) : M (Option Int) := m.bind fun d => M.lift fun _ _ => match d with
  | .int i => some (some i)
  | _ => none
def relO : Rel (Option Int) (Option Int) := fun _ _ a b => a = b
def tO (K : PySem.W.Frag) (mg : Str → Option Value) (W : WX) (z : Option Zi) (m : M (Option Int)) : TO := fun σ H Q => ∃ w ρ S, Do K mg W z relO w σ H ρ S m Q
theorem po_mono {X : Cx} {e : Option Expr} {t t' : TO} (h : PO X e t) (k : ∀ σ H Q, t' σ H Q → t σ H Q) : PO X e t' := ⟨fun pins s σ H Q I w => h.run pins s σ H Q I (k σ H Q w)⟩
abbrev PDO (X : Cx) (W : WX) (z : Option Zi) (e : Option Expr) (m : M (Option Int)) : Prop := PO X e (tO X.K X.mg W z m)
theorem pdo_none : PDO X W z none mo_none := po_mono po_none fun σ H Q h => by
  obtain ⟨w, ρ, S, h⟩ := h
  exact h.pure none rfl
theorem pdo_some (h : PD X W z e me) : PDO X W z (some e) (mo_some me) := po_mono (po_some h) fun σ H Q h => by
  obtain ⟨w, ρ, S, h⟩ := h
  refine ⟨w, ρ, S, h.bind fun d v w1 H1 S1 st rd h1 => ?_⟩
  obtain ⟨x, e, k⟩ := h1.lift
  cases d <;> first | (exfalso; simp at e; done) | skip
  cases e
  obtain rfl := rr_int rd
  exact ⟨_, rfl, k _ H1 w1 (Grow.refl h1.t.sub) rfl⟩
def cutD {α : Type} (xs : List α) (lo hi : Option Int) : List α := (xs.drop (HT.sIx xs.length 0 lo)).take (HT.sIx xs.length xs.length hi - HT.sIx xs.length 0 lo)
def sliceD (lo hi : Option Int) : D → Option D
  | .tup ds => some (.tup (cutD ds lo hi))
  | .lst ds => some (.lst (cutD ds lo hi))
  | .scr ns => some (.lst ((cutD ns lo hi).map D.int))
  | .str x => if x.length ≤ sizeLine then some (.str (cutS x lo hi)) else none
  | _ => none
def m_slice (m : M D) (ml mh : M (Option Int)) : M D := m.bind fun d => ml.bind fun lo => mh.bind fun hi => M.lift fun ρ S => (rsv ρ S d).bind (sliceD lo hi)
theorem cut_dt {vs : List V} {ds : List D} (lo hi : Option Int) (h : DtA K mg w vs ds) : DtA K mg w (cutV vs lo hi) (cutD ds lo hi) := by
  unfold cutV cutD
  rw [h.length]
  exact (h.drop _).take _
theorem dt_ints : ∀ ns : List Int, DtA K mg w (ns.map V.int) (ns.map D.int)
  | [] => .nil
  | n :: ns => .cons (.int n) (dt_ints ns)
theorem cut_map {α β : Type} (f : α → β) (xs : List α) (lo hi : Option Int) : cutD (xs.map f) lo hi = (cutD xs lo hi).map f := by
  unfold cutD
  rw [List.length_map, List.map_take, List.map_drop]
theorem sl_all : SlR X (fun x lo hi H Q => rSlA X.K x lo hi H Q ∨ rSlL X.K x lo hi H Q ∨ rSlS x lo hi H Q) := sl_tupA.or (sl_list.or sl_str)
theorem pd_slice {lo hi : Option Expr} {ml mh : M (Option Int)} {p2 : Pos} (he : PD X W z e me) (hl : PDO X W z lo ml) (hh : PDO X W z hi mh) : PD X W z (.Subscript e (.Slice lo hi none p2) pos) (m_slice me ml mh) :=
  pe_mono (pe_slice sl_all he hl hh) fun σ H Q h => by
    obtain ⟨w, ρ, S, h⟩ := h
    refine ⟨w, ρ, S, h.bind fun d v w1 H1 S1 st rd h1 => ⟨w1, ρ, S1, h1.bind (rel1 := relO) fun l l' w2 H2 S2 st2 rl h2 => ⟨w2, ρ, S2, h2.bind (rel1 := relO) fun u u' w3 H3 S3 st3 ru h3 => ?_⟩⟩⟩
    have rl : l' = l := rl
    have ru : u' = u := ru
    subst rl ru
    obtain ⟨x, e, k⟩ := h3.lift
    have rd3 : Rr X.K X.mg w3 σ ρ v d := Rr.mono (st2.le.trans st3.le) rd
    have s := h3.t.sub
    have g := Grow.refl s
    cases q1 : rsv ρ S3 d with
    | none => rw [q1] at e; cases e
    | some d' =>
      rw [q1] at e
      have r := Rs.of h3.t h3.s rd3 q1
      cases d' with
      | tup ds =>
        cases e
        obtain ⟨a, xs, rfl, ha, hx⟩ := r
        refine .inl ⟨a, xs, rfl, ex_t s ha, fun hw => ?_, fun _ p np => ?_⟩
        · have e1 : cutD ds l' u' = ds := by
            rw [hx.length] at hw
            unfold cutD
            rw [hw.1, hw.2]
            simp
          rw [e1] at k
          exact k _ H3 w3 g (.inl (.tup ha hx))
        · have gn := Grow.new (o := .tup (cutV xs l' u')) s np
          exact k _ _ _ gn (.inl (.tup (st_of upd_same) ((cut_dt l' u' hx).mono gn.le)))
      | lst ds =>
        cases e
        obtain ⟨a, xs, rfl, ha, hx⟩ := r
        refine .inr (.inl ⟨a, xs, rfl, .inl ha, fun p np => ?_⟩)
        have gn := Grow.new (o := .lst (cutV xs l' u')) s np
        exact k _ _ _ gn (.inl (.lst (Rd.of upd_same) ((cut_dt l' u' hx).mono gn.le)))
      | scr ns =>
        cases e
        obtain ⟨a, rfl, ha⟩ := r
        refine .inr (.inl ⟨a, _, rfl, ha, fun p np => ?_⟩)
        have gn := Grow.new (o := .lst (cutV (ns.map V.int) l' u')) s np
        have hd := cut_dt (K := X.K) (mg := X.mg) (w := w3) l' u' (dt_ints ns)
        rw [cut_map] at hd
        exact k _ _ _ gn (.inl (.lst (Rd.of upd_same) (hd.mono gn.le)))
      | str x =>
        cases r
        simp only [Option.bind_some, sliceD] at e
        split at e
        · rename_i c
          cases e
          exact .inr (.inr ⟨x, rfl, c, k _ H3 w3 g (.inl (.str _))⟩)
        · cases e
      | _ => cases e
end
end Pd

/-! Built-in functions and methods on data. -/
namespace Pd
open PySem L2 Evl Hg
open PySem.Spec PyProof.Rows
section
variable {X : Cx} {W : WX} {z : Option Zi} {w w' w1 : Wd} {σ : L2.St} {H H' H1 : Hp} {ρ ρ' : Rho} {S S' S1 : Sto} {K : PySem.W.Frag} {mg : Str → Option Value}
variable {e a b o : Expr} {es : List Expr} {pos : Pos} {me ma mb mo : M D} {ms : M (List D)}
inductive RsA (K : PySem.W.Frag) (mg : Str → Option Value) (w : Wd) (H : Hp) : List V → List D → Prop
  | nil : RsA K mg w H [] []
  | cons {v : V} {vs : List V} {d : D} {ds : List D} : Rs K mg w H v d → RsA K mg w H vs ds → RsA K mg w H (v :: vs) (d :: ds)
def rsvA (ρ : Rho) (S : Sto) : List D → Option (List D)
  | [] => some []
  | d :: ds => match rsv ρ S d, rsvA ρ S ds with
    | some d', some ds' => some (d' :: ds')
    | _, _ => none
theorem RsA.of {ds ds' : List D} {vs : List V} (t : At K mg w H S) (s : Sl K mg z w H σ ρ) (r : RrA K mg w σ ρ vs ds) (e : rsvA ρ S ds = some ds') : RsA K mg w H vs ds' := by
  induction r generalizing ds' with
  | nil => cases e; exact .nil
  | cons h hs ih =>
    rename_i v vs d ds
    simp only [rsvA] at e
    cases q1 : rsv ρ S d with
    | none => rw [q1] at e; cases e
    | some d' =>
      cases q2 : rsvA ρ S ds with
      | none => rw [q1, q2] at e; cases e
      | some r' =>
        rw [q1, q2] at e
        cases e
        exact .cons (Rs.of t s h q1) (ih q2)
def m_cb (f : List D → Option D) (ms : M (List D)) : M D := ms.bind fun ds => M.lift fun ρ S => (rsvA ρ S ds).bind f
variable (X) in
def OpA (r : List V → Hp → VK → Prop) (f : List D → Option D) : Prop := ∀ (w : Wd) (H : Hp) (vs : List V) (ds : List D) (d : D), Ex w.G H → RsA X.K X.mg w H vs ds → f ds = some d →
  ∀ Q : VK, (∀ v H' w', Grow w w' H H' → Dt X.K X.mg w' v d → Q v H') → r vs H Q
theorem cb_go {r : List V → Hp → VK → Prop} {f : List D → Option D} (hf : OpA X r f) {Q : VK} (h : tD X.K X.mg W z (m_cb f ms) σ H Q) : tCB r (tA X.K X.mg W z ms) σ H Q := by
  obtain ⟨w, ρ, S, h⟩ := h
  refine ⟨w, ρ, S, h.bind (rel1 := relA X.K X.mg σ ρ) fun ds vs w1 H1 S1 st rds h1 => ?_⟩
  obtain ⟨d, e, k⟩ := h1.lift
  cases q : rsvA ρ S1 ds with
  | none => rw [q] at e; cases e
  | some ds' =>
    rw [q] at e
    exact hf w1 H1 vs ds' d h1.t.sub (RsA.of h1.t h1.s rds q) e Q fun v H' w' g hd => k v H' w' g (.inl hd)
variable {x : Str} {p : Pos} {r : List V → Hp → VK → Prop} {f : List D → Option D}
theorem pd_callB {id : String} (hc : CallR X (.builtin id) r) (hf : OpA X r f) (hg : Gl X x) (hm : X.mg x = none) (hv : bootBuiltins x = some (.builtin id)) (ha : PDA X W z (e :: es) ms) (hn : x ≠ "__name__" := by decide) (hdb : (x == ("__debug__" : Str)) = false := by decide)
    (he : starEach (e :: es) X.env = (false, eval e X.env) :: starEach es X.env := by rfl) (hpl : (backTo pos (starEach es X.env)).any (·.1) = false := by rfl) : PD X W z (.Call (.Name x p) (e :: es) [] pos) (m_cb f ms) :=
  pe_mono (pe_callB hc hg hm hv ha hn hdb he hpl) fun _ _ _ h => cb_go hf h
theorem pd_callTy {T : String} (hc : CallR X (.type T) r) (hf : OpA X r f) (hg : Gl X x) (hm : X.mg x = none) (hv : bootBuiltins x = some (.type T)) (ha : PDA X W z (e :: es) ms) (hn : x ≠ "__name__" := by decide) (hdb : (x == ("__debug__" : Str)) = false := by decide)
    (he : starEach (e :: es) X.env = (false, eval e X.env) :: starEach es X.env := by rfl) (hpl : (backTo pos (starEach es X.env)).any (·.1) = false := by rfl) : PD X W z (.Call (.Name x p) (e :: es) [] pos) (m_cb f ms) :=
  pe_mono (pe_callTy hc hg hm hv ha hn hdb he hpl) fun _ _ _ h => cb_go hf h

/-! ### len, tuple, list, int, str, all, repr -/
def lenD : List D → Option D
  | [.str x] => if x.length ≤ sizeLine then some (.int x.length) else none
  | [.tup ds] => some (.int ds.length)
  | [.lst ds] => some (.int ds.length)
  | _ => none
theorem oa_len : OpA X (fun xs H Q => ∃ x n, xs = [x] ∧ LenV X.K x H n ∧ Q (.int n) H) lenD := by
  intro w H vs ds d s rs e Q q
  have g := Grow.refl s
  cases rs with
  | nil => cases e
  | cons h hs =>
    cases hs with
    | cons _ _ => simp [lenD] at e
    | nil =>
      rename_i v d0
      cases d0 <;> first | (exfalso; simp [lenD] at e; done) | skip
      · cases h
        simp only [lenD] at e
        split at e
        · rename_i x c
          cases e
          exact ⟨_, x.length, rfl, ⟨c, rfl⟩, q _ _ _ g (.int _)⟩
        · cases e
      · obtain ⟨a, xs, rfl, ha, hx⟩ := h
        cases e
        refine ⟨_, xs.length, rfl, .inr ⟨xs, ex_t s ha, rfl⟩, ?_⟩
        rw [hx.length]
        exact q _ _ _ g (.int _)
      · obtain ⟨a, xs, rfl, ha, hx⟩ := h
        cases e
        refine ⟨_, xs.length, rfl, .inl ⟨xs, .inl ha, rfl⟩, ?_⟩
        rw [hx.length]
        exact q _ _ _ g (.int _)
def tupleD : List D → Option D
  | [.tup ds] => some (.tup ds)
  | [.lst ds] => some (.tup ds)
  | _ => none
theorem oa_tuple : OpA X (fun xs H Q => ∃ p ys, xs = [.ref p] ∧ ((SqL X.K H p ys ∧ ∀ l, H l = none → Q (.ref l) (upd H l (.tup ys))) ∨ (SqT X.K H p ys ∧ Q (.ref p) H))) tupleD := by
  intro w H vs ds d s rs e Q q
  have g := Grow.refl s
  cases rs with
  | nil => cases e
  | cons h hs =>
    cases hs with
    | cons _ _ => simp [tupleD] at e
    | nil =>
      rename_i v d0
      cases d0 <;> first | (exfalso; simp [tupleD] at e; done) | skip
      · obtain ⟨a, xs, rfl, ha, hx⟩ := h
        cases e
        exact ⟨a, xs, rfl, .inr ⟨ex_t s ha, q _ _ _ g (.tup ha hx)⟩⟩
      · obtain ⟨a, xs, rfl, ha, hx⟩ := h
        cases e
        refine ⟨a, xs, rfl, .inl ⟨.inl ha, fun l nl => ?_⟩⟩
        have gn := Grow.new (o := .tup xs) s nl
        exact q _ _ _ gn (.tup (st_of upd_same) (hx.mono gn.le))
def listD : List D → Option D
  | [.tup ds] => some (.lst ds)
  | [.lst ds] => some (.lst ds)
  | _ => none
theorem oa_list : OpA X (fun xs H Q => ∃ p ys, xs = [.ref p] ∧ (SqL X.K H p ys ∨ SqT X.K H p ys) ∧ ∀ l, H l = none → Q (.ref l) (upd H l (.lst ys))) listD := by
  intro w H vs ds d s rs e Q q
  cases rs with
  | nil => cases e
  | cons h hs =>
    cases hs with
    | cons _ _ => simp [listD] at e
    | nil =>
      rename_i v d0
      cases d0 <;> first | (exfalso; simp [listD] at e; done) | skip
      · obtain ⟨a, xs, rfl, ha, hx⟩ := h
        cases e
        refine ⟨a, xs, rfl, .inr (ex_t s ha), fun l nl => ?_⟩
        have gn := Grow.new (o := .lst xs) s nl
        exact q _ _ _ gn (.lst (Rd.of upd_same) (hx.mono gn.le))
      · obtain ⟨a, xs, rfl, ha, hx⟩ := h
        cases e
        refine ⟨a, xs, rfl, .inl (.inl ha), fun l nl => ?_⟩
        have gn := Grow.new (o := .lst xs) s nl
        exact q _ _ _ gn (.lst (Rd.of upd_same) (hx.mono gn.le))
def intOf : List D → Option D
  | [.int i] => some (.int i)
  | [.bl k] => some (.int (if k then 1 else 0))
  | _ => none
theorem oa_int : OpA X (fun xs H Q => (∃ i, xs = [.int i] ∧ Q (.int i) H) ∨ ∃ k, xs = [.bl k] ∧ Q (.int (if k then 1 else 0)) H) intOf := by
  intro w H vs ds d s rs e Q q
  have g := Grow.refl s
  cases rs with
  | nil => cases e
  | cons h hs =>
    cases hs with
    | cons _ _ => simp [intOf] at e
    | nil =>
      rename_i v d0
      cases d0 <;> first | (exfalso; simp [intOf] at e; done) | skip
      · cases h; cases e
        exact .inr ⟨_, rfl, q _ _ _ g (.int _)⟩
      · cases h; cases e
        exact .inl ⟨_, rfl, q _ _ _ g (.int _)⟩
def strOf : List D → Option D
  | [.int i] => if i.natAbs.log2 < 1920 then some (.str (toString i)) else none
  | _ => none
theorem oa_str : OpA X (fun xs H Q => ∃ i, xs = [.int i] ∧ i.natAbs.log2 < 1920 ∧ Q (.str (toString i)) H) strOf := by
  intro w H vs ds d s rs e Q q
  have g := Grow.refl s
  cases rs with
  | nil => cases e
  | cons h hs =>
    cases hs with
    | cons _ _ => simp [strOf] at e
    | nil =>
      rename_i v d0
      cases d0 <;> first | (exfalso; simp [strOf] at e; done) | skip
      simp only [strOf] at e
      split at e
      · cases h; cases e
        exact ⟨_, rfl, by assumption, q _ _ _ g (.str _)⟩
      · cases e
def boolsD : List D → Option (List Bool)
  | [] => some []
  | .bl b :: r => (boolsD r).map (b :: ·)
  | _ => none
theorem bools_dt : ∀ {vs : List V} {ds : List D} {bs : List Bool}, DtA K mg w vs ds → boolsD ds = some bs → vs = bs.map V.bl
  | _, _, _, .nil, e => by cases e; rfl
  | _, _, _, .cons (d := d) (ds := ds) h hs, e => by
    cases d <;> first | (exfalso; simp [boolsD] at e; done) | skip
    simp only [boolsD] at e
    cases q : boolsD ds with
    | none => rw [q] at e; cases e
    | some r =>
      rw [q] at e
      cases e
      cases h
      rw [bools_dt hs q]
      rfl
def allD : List D → Option D
  | [.lst ds] => (boolsD ds).map fun bs => .bl (bs.all id)
  | _ => none
theorem oa_all : OpA X (rAll X.K) allD := by
  intro w H vs ds d s rs e Q q
  have g := Grow.refl s
  cases rs with
  | nil => cases e
  | cons h hs =>
    cases hs with
    | cons _ _ => simp [allD] at e
    | nil =>
      rename_i v d0
      cases d0 <;> first | (exfalso; simp [allD] at e; done) | skip
      obtain ⟨a, xs, rfl, ha, hx⟩ := h
      simp only [allD] at e
      cases q1 : boolsD _ with
      | none => rw [q1] at e; cases e
      | some bs =>
        rw [q1] at e
        cases e
        rw [bools_dt hx q1] at ha
        exact ⟨a, bs, rfl, .inl ha, q _ _ _ g (.bl _)⟩
/-- what may be shown -/
def showsB (p : PyData) : Bool := p.showable && (decide (p.depth ≤ 60) && decide (p.shown.length ≤ sizeLine))
def reprD : List D → Option D
  | [d] => match d.py with
    | some p => if showsB p = true then some (.str p.shown) else none
    | none => none
  | _ => none
theorem oa_repr : OpA X (fun xs H Q => ∃ v d, xs = [v] ∧ Dd X.K H v d ∧ Shows d ∧ Q (.str d.shown) H) reprD := by
  intro w H vs ds d s rs e Q q
  have g := Grow.refl s
  cases rs with
  | nil => cases e
  | cons h hs =>
    cases hs with
    | cons _ _ => simp [reprD] at e
    | nil =>
      rename_i v d0
      simp only [reprD] at e
      cases q1 : d0.py with
      | none => rw [q1] at e; cases e
      | some p =>
        rw [q1] at e
        dsimp only at e
        split at e
        · rename_i c
          cases e
          simp only [showsB, Bool.and_eq_true, decide_eq_true_eq] at c
          exact ⟨v, p, rfl, h.dd s q1, ⟨c.1, c.2.1, c.2.2⟩, q _ _ _ g (.str _)⟩
        · cases e

/-! ### isinstance, a built-in type -/
def tyN : D → Option String
  | .non => some "NoneType"
  | .bl _ => some "bool"
  | .int _ => some "int"
  | .str _ => some "str"
  | .tup _ => some "tuple"
  | .lst _ => some "list"
  | .dct _ => some "dict"
  | _ => none
theorem tyN_ok {v : V} {d : D} {n : String} (s : Ex w.G H) (h : Rs K mg w H v d) (e : tyN d = some n) : TyX K H v (.type n) := by
  cases d <;> first | (exfalso; simp [tyN] at e; done) | skip
  · cases h; cases e; exact .base .non
  · cases h; cases e; exact .base (.bl _)
  · cases h; cases e; exact .base (.int _)
  · cases h; cases e; exact .base (.str _)
  · obtain ⟨a, xs, rfl, h, _⟩ := h
    cases e
    rcases ex_t s h with (h | ⟨o, h⟩) | ⟨o, its, n, h, c, _⟩
    · exact .base (.tup h)
    · exact .fTuple h
    · exact .kTuple h c
  · obtain ⟨a, xs, rfl, h, _⟩ := h
    cases e
    rcases h with h | ⟨o, h⟩
    · exact .base (.lst h)
    · exact .base (.frz h)
  · obtain ⟨a, kvs, rfl, h, _⟩ := h
    cases e
    rcases h with h | ⟨o, h⟩
    · exact .base (.dK h)
    · exact .fDict h
def isTy (T : String) (d : D) : Option Bool := (tyN d).bind fun n => kitB n T
def m_isi (T : String) (m : M D) : M D := m.bind fun d => M.lift fun ρ S => ((rsv ρ S d).bind (isTy T)).map D.bl
theorem pd_isi {T : String} {p p2 : Pos} {xT : Str} (hg : Gl X "isinstance") (hm : X.mg "isinstance" = none) (he : PD X W z e me) (hT : PE X (.Name xT p2) (tC (.ty T)))
    (h1 : starEach [e, .Name xT p2] X.env = (false, eval e X.env) :: starEach [.Name xT p2] X.env := by rfl) (h2 : starEach [.Name xT p2] X.env = (false, eval (.Name xT p2) X.env) :: starEach [] X.env := by rfl)
    (hpl : (backTo pos (starEach [.Name xT p2] X.env)).any (·.1) = false := by rfl) : PD X W z (.Call (.Name "isinstance" p) [e, .Name xT p2] [] pos) (m_isi T me) :=
  pe_mono (pe_callB call_isi hg hm (by decide +kernel) (pa_cons he (pa_cons hT pa_nil h2) h1) (by decide) (by decide) h1 hpl) fun σ H Q h => by
    obtain ⟨w, ρ, S, h⟩ := h
    refine ⟨w, ρ, S, h.bind fun d v w1 H1 S1 st rd h1 => ?_⟩
    obtain ⟨y, e, k⟩ := h1.lift
    cases q1 : rsv ρ S1 d with
    | none => rw [q1] at e; cases e
    | some d' =>
      rw [q1] at e
      simp only [Option.bind_some, isTy] at e
      cases q2 : tyN d' with
      | none => rw [q2] at e; cases e
      | some n =>
        rw [q2] at e
        simp only [Option.bind_some] at e
        cases q3 : kitB n T with
        | none => rw [q3] at e; cases e
        | some b =>
          rw [q3] at e
          cases e
          exact ⟨v, .ty T, _, _, b, rfl, .ty T, tyN_ok h1.t.sub (Rs.of h1.t h1.s rd q1) q2, kit_ty q3, k _ H1 w1 (Grow.refl h1.t.sub) (.inl (.bl b))⟩

/-! ### x in .. -/
def flatD : D → Option V
  | .non => some .non
  | .bl b => some (.bl b)
  | .int i => some (.int i)
  | .str x => some (.str x)
  | _ => none
def flatsD : List D → Option (List V)
  | [] => some []
  | d :: r => match flatD d, flatsD r with
    | some v, some vs => some (v :: vs)
    | _, _ => none
theorem flat_dt {v u : V} {d : D} (h : Dt K mg w v d) (e : flatD d = some u) : v = u ∧ flatV u = true := by
  cases d <;> first | (exfalso; simp [flatD] at e; done) | skip
  all_goals (cases e; cases h; exact ⟨rfl, rfl⟩)
theorem flat_rs {v u : V} {d : D} (h : Rs K mg w H v d) (e : flatD d = some u) : v = u ∧ flatV u = true := by
  cases d <;> first | (exfalso; simp [flatD] at e; done) | skip
  all_goals (cases e; cases h; exact ⟨rfl, rfl⟩)
theorem flats_dt : ∀ {vs us : List V} {ds : List D}, DtA K mg w vs ds → flatsD ds = some us → vs = us ∧ us.all flatV = true
  | _, _, _, .nil, e => by cases e; exact ⟨rfl, rfl⟩
  | _, _, _, .cons (d := d) (ds := ds) h hs, e => by
    simp only [flatsD] at e
    cases q1 : flatD d with
    | none => rw [q1] at e; cases e
    | some u =>
      cases q2 : flatsD ds with
      | none => rw [q1, q2] at e; cases e
      | some us =>
        rw [q1, q2] at e
        cases e
        obtain ⟨rfl, h1⟩ := flat_dt h q1
        obtain ⟨rfl, h2⟩ := flats_dt hs q2
        exact ⟨rfl, by simp [h1, h2]⟩
def inD : D → D → Option Bool
  | d, .tup ds => match flatD d, flatsD ds with
    | some v, some vs => some (inV v vs)
    | _, _ => none
  | d, .lst ds => match flatD d, flatsD ds with
    | some v, some vs => some (inV v vs)
    | _, _ => none
  | .str i, .str j => some (!(Builtin.Str.occurrences j i 0 j.length 1).isEmpty)
  | _, _ => none
theorem c2_in : Cm2 X (fun x y H Q => rIn X.K false x y H Q ∨ ∃ i j, x = .str i ∧ y = .str j ∧ Q (.bl (!(Builtin.Str.occurrences j i 0 j.length 1).isEmpty)) H) inD := by
  intro w H x y a b c s ra rb e Q q
  cases b <;> first | (exfalso; simp [inD] at e; done) | skip
  · cases a <;> first | (exfalso; simp [inD] at e; done) | skip
    cases ra; cases rb; cases e
    exact .inr ⟨_, _, rfl, rfl, q H (Ex.refl _)⟩
  · obtain ⟨p, xs, rfl, hp, hx⟩ := rb
    simp only [inD] at e
    split at e
    · rename_i v vs q1 q2
      cases e
      obtain ⟨rfl, f1⟩ := flat_rs ra q1
      obtain ⟨rfl, f2⟩ := flats_dt hx q2
      exact .inl ⟨p, xs, rfl, .inr (ex_t s hp), f1, f2, q H (Ex.refl _)⟩
    · cases e
  · obtain ⟨p, xs, rfl, hp, hx⟩ := rb
    simp only [inD] at e
    split at e
    · rename_i v vs q1 q2
      cases e
      obtain ⟨rfl, f1⟩ := flat_rs ra q1
      obtain ⟨rfl, f2⟩ := flats_dt hx q2
      exact .inl ⟨p, xs, rfl, .inl (.inl hp), f1, f2, q H (Ex.refl _)⟩
    · cases e
theorem c2_nin : Cm2 X (fun x y H Q => rIn X.K true x y H Q ∨ ∃ i j, x = .str i ∧ y = .str j ∧ Q (.bl (!(!(Builtin.Str.occurrences j i 0 j.length 1).isEmpty))) H) fun a b => (inD a b).map (!·) := by
  intro w H x y a b c s ra rb e Q q
  dsimp only at e
  cases b <;> first | (exfalso; simp [inD] at e; done) | skip
  · cases a <;> first | (exfalso; simp [inD] at e; done) | skip
    cases ra; cases rb; cases e
    exact .inr ⟨_, _, rfl, rfl, q H (Ex.refl _)⟩
  · obtain ⟨p, xs, rfl, hp, hx⟩ := rb
    simp only [inD] at e
    split at e
    · rename_i v vs q1 q2
      cases e
      obtain ⟨rfl, f1⟩ := flat_rs ra q1
      obtain ⟨rfl, f2⟩ := flats_dt hx q2
      exact .inl ⟨p, xs, rfl, .inr (ex_t s hp), f1, f2, q H (Ex.refl _)⟩
    · cases e
  · obtain ⟨p, xs, rfl, hp, hx⟩ := rb
    simp only [inD] at e
    split at e
    · rename_i v vs q1 q2
      cases e
      obtain ⟨rfl, f1⟩ := flat_rs ra q1
      obtain ⟨rfl, f2⟩ := flats_dt hx q2
      exact .inl ⟨p, xs, rfl, .inl (.inl hp), f1, f2, q H (Ex.refl _)⟩
    · cases e
theorem op_inD2 : OpR X (compareOp .In) (fun x y H Q => rIn X.K false x y H Q ∨ ∃ i j, x = .str i ∧ y = .str j ∧ Q (.bl (!(Builtin.Str.occurrences j i 0 j.length 1).isEmpty)) H) := OpR.or op_in_seq op_in_str
theorem op_ninD2 : OpR X (compareOp .NotIn) (fun x y H Q => rIn X.K true x y H Q ∨ ∃ i j, x = .str i ∧ y = .str j ∧ Q (.bl (!(!(Builtin.Str.occurrences j i 0 j.length 1).isEmpty))) H) := OpR.or op_notIn_seq op_notIn_str
def isNonD : D → D → Option Bool
  | .non, .non => some true
  | .bl _, .non => some false
  | .int _, .non => some false
  | .str _, .non => some false
  | .tup _, .non => some false
  | .lst _, .non => some false
  | .dct _, .non => some false
  | .ins _ _, .non => some false
  | .exc _ _, .non => some false
  | _, _ => none
theorem c2_is : Cm2 X (fun x y H Q => y = .non ∧ Q (.bl (decide (x = .non))) H) isNonD := by
  intro w H x y a b c s ra rb e Q q
  cases b <;> first | (exfalso; simp [isNonD] at e; done) | skip
  cases rb
  refine ⟨rfl, ?_⟩
  have : decide (x = .non) = c := by
    cases a <;> simp only [isNonD] at e <;> cases e
    · cases ra; rfl
    · cases ra; rfl
    · cases ra; rfl
    · cases ra; rfl
    · obtain ⟨_, _, rfl, _⟩ := ra; rfl
    · obtain ⟨_, _, rfl, _⟩ := ra; rfl
    · obtain ⟨_, _, rfl, _⟩ := ra; rfl
    · obtain ⟨_, _, _, _, rfl, _⟩ := ra; rfl
    · obtain ⟨_, _, _, rfl, _⟩ := ra; rfl
  rw [this]
  exact q H (Ex.refl _)
theorem c2_isnot : Cm2 X (fun x y H Q => y = .non ∧ Q (.bl (!decide (x = .non))) H) fun a b => (isNonD a b).map (!·) := by
  intro w H x y a b c s ra rb e Q q
  dsimp only at e
  cases b <;> first | (exfalso; simp [isNonD] at e; done) | skip
  cases rb
  refine ⟨rfl, ?_⟩
  have : (!decide (x = .non)) = c := by
    cases a <;> simp only [isNonD] at e <;> cases e
    · cases ra; rfl
    · cases ra; rfl
    · cases ra; rfl
    · cases ra; rfl
    · obtain ⟨_, _, rfl, _⟩ := ra; rfl
    · obtain ⟨_, _, rfl, _⟩ := ra; rfl
    · obtain ⟨_, _, rfl, _⟩ := ra; rfl
    · obtain ⟨_, _, _, _, rfl, _⟩ := ra; rfl
    · obtain ⟨_, _, _, rfl, _⟩ := ra; rfl
  rw [this]
  exact q H (Ex.refl _)
end
end Pd

/-! Methods of texts, dicts, lists that change. -/
namespace Pd
open PySem L2 Evl Hg
open PySem.Spec PyProof.Rows
section
variable {X : Cx} {W : WX} {z : Option Zi} {w0 : W0} {w w' w1 : Wd} {σ : L2.St} {H H' H1 : Hp} {ρ ρ' : Rho} {S S' S1 : Sto} {K : PySem.W.Frag} {mg : Str → Option Value} {Dn : Ends}
variable {e a b o : Expr} {es : List Expr} {pos apos cpos : Pos} {me ma mb mo mk : M D} {ms : M (List D)} {st : Stmt} {m : SM}
theorem Do.liftB {α β γ : Type} {rel : Rel β α} {f : Rho → Sto → Option γ} {g : γ → M α} {Q : β → Hp → Prop} (h : Do K mg W z rel w σ H ρ S ((M.lift f).bind g) Q) : ∃ c, f ρ S = some c ∧ Do K mg W z rel w σ H ρ S (g c) Q := by
  obtain ⟨t, s, r, S', e, p⟩ := h
  unfold M.bind M.lift at e
  cases q : f ρ S with
  | none => simp only [q] at e; cases e
  | some c =>
    simp only [q] at e
    exact ⟨c, rfl, t, s, r, S', e, p⟩
theorem DoS.liftB {γ : Type} {f : Rho → Sto → Option γ} {g : γ → SM} (h : DoS X.K X.mg W z w0 w σ H ρ S ((M.lift f).toS g) Dn) : ∃ c, f ρ S = some c ∧ DoS X.K X.mg W z w0 w σ H ρ S (g c) Dn := by
  obtain ⟨st, fl, ρ', S', e, p⟩ := h
  unfold M.toS M.lift at e
  cases q : f ρ S with
  | none => simp only [q] at e; cases e
  | some c =>
    simp only [q] at e
    exact ⟨c, rfl, st, fl, ρ', S', e, p⟩
theorem rr_str {v : V} {x : Str} (h : Rr K mg w σ ρ v (.str x)) : v = .str x := by
  rcases h with h | ⟨_, _, z, _⟩
  · cases h; rfl
  · cases z
/-! ### methods of texts -/
def strIs : D → Option Str
  | .str x => some x
  | _ => none
def m_sm (f : Str → List D → Option D) (mo : M D) (ms : M (List D)) : M D := mo.bind fun o => (M.lift fun _ _ => strIs o).bind fun x => ms.bind fun ds => M.lift fun ρ S => (rsvA ρ S ds).bind (f x)
def m_sm0 (f : Str → Option D) (mo : M D) : M D := mo.bind fun o => M.lift fun _ _ => (strIs o).bind f
variable (X) in
def OpM (r : V → List V → Hp → VK → Prop) (f : Str → List D → Option D) : Prop := ∀ (w : Wd) (H : Hp) (x : Str) (vs : List V) (ds : List D) (d : D), Ex w.G H → RsA X.K X.mg w H vs ds → f x ds = some d →
  ∀ Q : VK, (∀ v H' w', Grow w w' H H' → Dt X.K X.mg w' v d → Q v H') → r (.str x) vs H Q
theorem strIs_eq {d : D} {x : Str} (e : strIs d = some x) : d = .str x := by
  cases d <;> first | (exfalso; simp [strIs] at e; done) | (cases e; rfl)
theorem sm_go {r : V → List V → Hp → VK → Prop} {f : Str → List D → Option D} (hf : OpM X r f) {Q : VK} (h : tD X.K X.mg W z (m_sm f mo ms) σ H Q) : tBM X.K "str" r (tD X.K X.mg W z mo) (tA X.K X.mg W z ms) σ H Q := by
  obtain ⟨w, ρ, S, h⟩ := h
  refine ⟨w, ρ, S, h.bind fun d v w1 H1 S1 st rd h1 => ?_⟩
  obtain ⟨x, ex, h1⟩ := h1.liftB
  obtain rfl := strIs_eq ex
  obtain rfl := rr_str rd
  refine ⟨rfl, w1, ρ, S1, h1.bind (rel1 := relA X.K X.mg σ ρ) fun ds vs w2 H2 S2 st2 rds h2 => ?_⟩
  obtain ⟨y, e, k⟩ := h2.lift
  cases q : rsvA ρ S2 ds with
  | none => rw [q] at e; cases e
  | some ds' =>
    rw [q] at e
    exact hf w2 H2 x vs ds' y h2.t.sub (RsA.of h2.t h2.s rds q) e Q fun v H' w' g hd => k v H' w' g (.inl hd)
theorem pd_sm {name : Str} {id : String} {r : V → List V → Hp → VK → Prop} {f : Str → List D → Option D} (slot : Slot "str" name id) (hty : typeOf (.builtin id) = pure (.type "method_descriptor")) (hm : MtR X id r) (hf : OpM X r f)
    (ho : PD X W z o mo) (ha : PDA X W z (e :: es) ms)
    (hbase : attributeBase o name X.env (eval o X.env) = eval o X.env := by rfl)
    (hfew : ((backTo cpos (starEach (e :: es) X.env)).all (fun x => !x.1) && (backToKw cpos (keywordEach [] X.env)).all (fun x => x.1.isSome)
      && decide ((e :: es).length + ([] : List Keyword).length + (if ([] : List Keyword).isEmpty then 0 else 1) < 30)) = true := by rfl)
    (hline : (apos.endLine == cpos.line) = true := by rfl) (hs : starEach (e :: es) X.env = (false, eval e X.env) :: starEach es X.env := by rfl) (hplain : (backTo cpos (starEach es X.env)).any (·.1) = false := by rfl) :
    PD X W z (.Call (.Attribute o name apos) (e :: es) [] cpos) (m_sm f mo ms) :=
  pe_mono (pe_bm PySem.F.plainAttrs_str slot hty hm ho ha hbase hfew hline hs hplain) fun _ _ _ h => sm_go hf h
theorem pd_sm0 {name : Str} {id : String} {r : V → List V → Hp → VK → Prop} {f : Str → Option D} (slot : Slot "str" name id) (hty : typeOf (.builtin id) = pure (.type "method_descriptor")) (hm : MtR X id r) (hf : OpM X r fun x ds => if ds.isEmpty = true then f x else none)
    (ho : PD X W z o mo) (hbase : attributeBase o name X.env (eval o X.env) = eval o X.env := by rfl) (hline : (apos.endLine == cpos.line) = true := by rfl) : PD X W z (.Call (.Attribute o name apos) [] [] cpos) (m_sm0 f mo) :=
  pe_mono (pe_bm0 PySem.F.plainAttrs_str slot hty hm ho hbase hline) fun σ H Q h => by
    obtain ⟨w, ρ, S, h⟩ := h
    refine ⟨w, ρ, S, h.bind fun d v w1 H1 S1 st rd h1 => ?_⟩
    obtain ⟨y, e, k⟩ := h1.lift
    cases q : strIs d with
    | none => rw [q] at e; cases e
    | some x =>
      rw [q] at e
      obtain rfl := strIs_eq q
      obtain rfl := rr_str rd
      exact ⟨rfl, hf w1 H1 x [] [] y h1.t.sub .nil e Q fun v H' w' g hd => k v H' w' g (.inl hd)⟩
/-- texts alone -/
def strsD : List D → Option (List Str)
  | [] => some []
  | .str x :: r => (strsD r).map (x :: ·)
  | _ => none
theorem strs_dt : ∀ {vs : List V} {ds : List D} {xs : List Str}, DtA K mg w vs ds → strsD ds = some xs → vs = xs.map V.str
  | _, _, _, .nil, e => by cases e; rfl
  | _, _, _, .cons (d := d) (ds := ds) h hs, e => by
    cases d <;> first | (exfalso; simp [strsD] at e; done) | skip
    simp only [strsD] at e
    cases q : strsD ds with
    | none => rw [q] at e; cases e
    | some r =>
      rw [q] at e
      cases e
      cases h
      rw [strs_dt hs q]
      rfl
def joinD (a : Str) : List D → Option D
  | [.lst ds] => (strsD ds).bind fun ys => if (ys.map (·.length)).sum + ys.length * a.length ≤ 16777216 then some (.str (Txt.join a ys)) else none
  | [.tup ds] => (strsD ds).bind fun ys => if (ys.map (·.length)).sum + ys.length * a.length ≤ 16777216 then some (.str (Txt.join a ys)) else none
  | _ => none
theorem om_join : OpM X (fun x xs H Q => ∃ a p, ∃ ys : List Str, x = .str a ∧ xs = [.ref p] ∧ (SqL X.K H p (ys.map V.str) ∨ SqT X.K H p (ys.map V.str)) ∧
    (ys.map (·.length)).sum + ys.length * a.length ≤ 16777216 ∧ Q (.str (Txt.join a ys)) H) joinD := by
  intro w H x vs ds d s rs e Q q
  have g := Grow.refl s
  cases rs with
  | nil => cases e
  | cons h hs =>
    cases hs with
    | cons _ _ => simp [joinD] at e
    | nil =>
      rename_i v d0
      cases d0 <;> first | (exfalso; simp [joinD] at e; done) | skip
      · obtain ⟨a, xs, rfl, ha, hx⟩ := h
        simp only [joinD] at e
        cases q1 : strsD _ with
        | none => rw [q1] at e; cases e
        | some ys =>
          rw [q1] at e
          simp only [Option.bind_some] at e
          split at e
          · rename_i c
            cases e
            rw [strs_dt hx q1] at ha
            exact ⟨x, a, ys, rfl, rfl, .inr (ex_t s ha), c, q _ _ _ g (.str _)⟩
          · cases e
      · obtain ⟨a, xs, rfl, ha, hx⟩ := h
        simp only [joinD] at e
        cases q1 : strsD _ with
        | none => rw [q1] at e; cases e
        | some ys =>
          rw [q1] at e
          simp only [Option.bind_some] at e
          split at e
          · rename_i c
            cases e
            rw [strs_dt hx q1] at ha
            exact ⟨x, a, ys, rfl, rfl, .inl (.inl ha), c, q _ _ _ g (.str _)⟩
          · cases e
def upperF (x : Str) : Option D := if x.length ≤ 5592405 then some (.str (Txt.upper x)) else none
theorem om_upper : OpM X (fun x xs H Q => ∃ a, x = .str a ∧ xs = [] ∧ a.length ≤ 5592405 ∧ Q (.str (Txt.upper a)) H) fun x ds => if ds.isEmpty = true then upperF x else none := by
  intro w H x vs ds d s rs e Q q
  cases rs with
  | cons _ _ => cases e
  | nil =>
    simp only [upperF, List.isEmpty_nil, if_true] at e
    split at e
    · cases e
      exact ⟨x, rfl, rfl, by assumption, q _ _ _ (Grow.refl s) (.str _)⟩
    · cases e

/-! ### dicts -/
def keyOfD : D → Option Key
  | .int i => some (.inl i)
  | .str x => some (.inr x)
  | _ => none
def valD (kvs : List (Key × D)) (k : Key) : Option D := (kvs.find? fun kv => decide (kv.1 = k)).map (·.2)
def dgetD : D → D → Option D
  | .dct kvs, k => (keyOfD k).bind (valD kvs)
  | _, _ => none
theorem valV_dt : ∀ {vs : List (Key × V)} {ds : List (Key × D)} {k : Key} {d : D}, vs.map (·.1) = ds.map (·.1) → DtA K mg w (vs.map (·.2)) (ds.map (·.2)) → valD ds k = some d → ∃ v, valV vs k = some v ∧ Dt K mg w v d
  | [], [], k, d, _, _, e => by cases e
  | [], _ :: _, _, _, e, _, _ => by cases e
  | _ :: _, [], _, _, e, _, _ => by cases e
  | (k1, v1) :: vs, (k2, d2) :: ds, k, d, ek, hd, e => by
    simp only [List.map_cons, List.cons.injEq] at ek
    obtain ⟨rfl, ek⟩ := ek
    cases hd with
    | cons h hs =>
      by_cases c : k1 = k
      · subst c
        simp only [valD, List.find?_cons, decide_true, Option.map_some, Option.some.injEq] at e
        subst e
        exact ⟨v1, valV_pos rfl, h⟩
      · rw [valV_neg c]
        refine valV_dt ek hs ?_
        unfold valD at e ⊢
        rw [List.find?_cons, decide_eq_false c] at e
        exact e
theorem keyOf_rr {v : V} {d : D} {k : Key} (h : Rr K mg w σ ρ v d) (e : keyOfD d = some k) : v = kV k := by
  cases d <;> first | (exfalso; simp [keyOfD] at e; done) | skip
  · cases e; exact rr_int h
  · cases e; exact rr_str h
def m_dget (mo mk : M D) : M D := mo.bind fun o => mk.bind fun k => M.lift fun ρ S => (rsv ρ S o).bind fun o' => dgetD o' k
theorem pd_dget (hu : X.A.units + 1 < cLine) (ho : PD X W z o mo) (hi : PD X W z e mk) (hs : NoSl e) : PD X W z (.Subscript o e pos) (m_dget mo mk) :=
  pe_mono (pe_dget hu ho hi hs) fun σ H Q h => by
    obtain ⟨w, ρ, S, h⟩ := h
    refine ⟨w, ρ, S, h.bind fun d v w1 H1 S1 st1 rd h1 => ⟨w1, ρ, S1, h1.bind fun k u w2 H2 S2 st2 rk h2 => ?_⟩⟩
    obtain ⟨y, e, kk⟩ := h2.lift
    have rd' : Rr X.K X.mg w2 σ ρ v d := Rr.mono st2.le rd
    cases q1 : rsv ρ S2 d with
    | none => rw [q1] at e; cases e
    | some d' =>
      rw [q1] at e
      simp only [Option.bind_some] at e
      have r := Rs.of h2.t h2.s rd' q1
      cases d' <;> first | (exfalso; simp [dgetD] at e; done) | skip
      obtain ⟨a, kvs, rfl, ha, ek, hd⟩ := r
      simp only [dgetD] at e
      cases q2 : keyOfD k with
      | none => rw [q2] at e; cases e
      | some key =>
        rw [q2] at e
        obtain rfl := keyOf_rr rk q2
        obtain ⟨v', e2, hv⟩ := valV_dt ek hd e
        exact ⟨a, v', rfl, .inl ⟨kvs, key, ha, rfl, e2.symm⟩, kk v' H2 w2 (Grow.refl h2.t.sub) (.inl hv)⟩
def putD (kvs : List (Key × D)) (k : Key) (v : D) : List (Key × D) :=
  if (kvs.any fun kv => decide (kv.1 = k)) = true then kvs.map (fun kv => if kv.1 = k then (kv.1, v) else kv) else kvs ++ [(k, v)]
def mergeD (kvs more : List (Key × D)) : List (Key × D) := more.foldl (fun acc kv => putD acc kv.1 kv.2) kvs
theorem put_dt {vs : List (Key × V)} {ds : List (Key × D)} {k : Key} {v : V} {d : D} (ek : vs.map (·.1) = ds.map (·.1)) (hd : DtA K mg w (vs.map (·.2)) (ds.map (·.2))) (h : Dt K mg w v d) :
    (putK vs k v).map (·.1) = (putD ds k d).map (·.1) ∧ DtA K mg w ((putK vs k v).map (·.2)) ((putD ds k d).map (·.2)) := by
  have ha : (vs.any fun kv => decide (kv.1 = k)) = (ds.any fun kv => decide (kv.1 = k)) := by
    have : ∀ {α : Type} (l : List (Key × α)), (l.any fun kv => decide (kv.1 = k)) = (l.map (·.1)).any fun x => decide (x = k) := fun l => by rw [List.any_map]; rfl
    rw [this, this, ek]
  unfold putK putD
  rw [ha]
  split
  · have hm : ∀ {vs : List (Key × V)} {ds : List (Key × D)}, vs.map (·.1) = ds.map (·.1) → DtA K mg w (vs.map (·.2)) (ds.map (·.2)) →
      (vs.map (fun kv => if kv.1 = k then (kv.1, v) else kv)).map (·.1) = (ds.map (fun kv => if kv.1 = k then (kv.1, d) else kv)).map (·.1) ∧
      DtA K mg w ((vs.map (fun kv => if kv.1 = k then (kv.1, v) else kv)).map (·.2)) ((ds.map (fun kv => if kv.1 = k then (kv.1, d) else kv)).map (·.2)) := by
      intro vs
      induction vs with
      | nil =>
        intro ds ek hd
        cases ds with
        | nil => exact ⟨rfl, .nil⟩
        | cons _ _ => cases ek
      | cons p vs ih =>
        intro ds ek hd
        cases ds with
        | nil => cases ek
        | cons p2 ds =>
          obtain ⟨k1, v1⟩ := p
          obtain ⟨k2, d2⟩ := p2
          simp only [List.map_cons, List.cons.injEq] at ek
          obtain ⟨rfl, ek⟩ := ek
          cases hd with
          | cons h1 hs =>
            obtain ⟨a, b⟩ := ih ek hs
            by_cases c : k1 = k
            · simp only [List.map_cons, c, if_true]
              exact ⟨by rw [a], .cons h b⟩
            · simp only [List.map_cons, c, if_false]
              exact ⟨by rw [a], .cons h1 b⟩
    exact hm ek hd
  · simp only [List.map_append, List.map_cons, List.map_nil]
    exact ⟨by rw [ek], hd.append (.cons h .nil)⟩
/-- the pairs of a display with texts for keys -/
def m_pairs : List (Str × M D) → M (List D)
  | [] => M.pure []
  | (k, m) :: r => m.bind fun d => (m_pairs r).bind fun ds => M.pure (d :: ds)
def m_disp (ps : List (Str × M D)) : M D := (m_pairs ps).bind fun ds => M.lift fun _ _ => if ds.all fixed = true ∧ ps.length ≤ 15 then some (.dct (mergeD [] ((ps.map fun p => (Sum.inr p.1 : Key)).zip ds))) else none
/-- each key a text, each value's meaning -/
inductive PDP (X : Cx) (W : WX) (z : Option Zi) (pos : Pos) : List (Option Expr) → List Expr → List (Str × M D) → Prop
  | nil : PDP X W z pos [] [] []
  | cons {k : Str} {j : Nat} {p : Pos} {v : Expr} {m : M D} {ks : List (Option Expr)} {vs : List Expr} {ps : List (Str × M D)} : PD X W z v m → PDP X W z pos ks vs ps → PDP X W z pos (some (.Constant (.str k) j p) :: ks) (v :: vs) ((k, m) :: ps)
theorem PDP.pps {ks : List (Option Expr)} {vs : List Expr} {ps : List (Str × M D)} (h : PDP X W z pos ks vs ps) : PPs X pos ks vs (ps.map fun p => (tC (.str p.1), tD X.K X.mg W z p.2)) := by
  induction h with
  | nil => exact pps_nil
  | cons h _ ih => exact pps_cons pe_str h ih
theorem merge_dt : ∀ {vs : List (Key × V)} {ds : List (Key × D)} {v0 : List (Key × V)} {d0 : List (Key × D)}, vs.map (·.1) = ds.map (·.1) → DtA K mg w (vs.map (·.2)) (ds.map (·.2)) → v0.map (·.1) = d0.map (·.1) → DtA K mg w (v0.map (·.2)) (d0.map (·.2)) →
    (mergeK v0 vs).map (·.1) = (mergeD d0 ds).map (·.1) ∧ DtA K mg w ((mergeK v0 vs).map (·.2)) ((mergeD d0 ds).map (·.2))
  | [], [], _, _, _, _, e, h => ⟨e, h⟩
  | [], _ :: _, _, _, e, _, _, _ => by cases e
  | _ :: _, [], _, _, e, _, _, _ => by cases e
  | (k1, v1) :: vs, (k2, d2) :: ds, v0, d0, ek, hd, e0, h0 => by
    simp only [List.map_cons, List.cons.injEq] at ek
    obtain ⟨rfl, ek⟩ := ek
    cases hd with
    | cons h hs =>
      obtain ⟨a, b⟩ := put_dt (k := k1) e0 h0 h
      exact merge_dt (vs := vs) (ds := ds) ek hs a b
/-- what is made while the display's dict stands empty -/
theorem pairs_go {ps : List (Str × M D)} : ∀ {Q : List (V × V) → Hp → Prop} {k : List V → Hp → Prop} {w : Wd} {H : Hp} {S : Sto}, Do K mg W z (relA K mg σ ρ) w σ H ρ S (m_pairs ps) k → (∀ vs H', vs.length = ps.length → k vs H' → Q ((ps.map fun p => V.str p.1).zip vs) H') →
    tPairs (ps.map fun p => (tC (.str p.1), tD K mg W z p.2)) σ H Q := by
  induction ps with
  | nil =>
    intro Q k w H S h hk
    exact hk [] H rfl (h.pure [] .nil)
  | cons p r ih =>
    intro Q k w H S h hk
    obtain ⟨x, m⟩ := p
    refine ⟨w, ρ, S, Do.bind (rel1 := relD K mg σ ρ) h fun d v w1 H1 S1 st rd h1 => ?_⟩
    have h2 : Do K mg W z (relA K mg σ ρ) w1 σ H1 ρ S1 (m_pairs r) fun vs H2 => k (v :: vs) H2 := Do.bind (rel1 := relA K mg σ ρ) h1 fun ds vs w2 H2 S2 st2 rds h2 => h2.pure (v :: vs) (.cons (Rr.mono st2.le rd) rds)
    exact ih h2 fun vs H' hl q => hk (v :: vs) H' (by simp [hl]) q
theorem Stp.under {p : Addr} {o o' : HO} (x : Stp w w1 (L2.upd H p o) H1) (n : H p = none) : Stp w w1 H (L2.upd H1 p o') := by
  have old : ∀ a, H a ≠ none → a ≠ p := fun a h e => h (by rw [e]; exact n)
  refine ⟨x.le, fun a u h na => ?_, fun a h na => ?_, fun a u h => ?_⟩
  · have ne := old a (by rw [h]; exact fun z => nomatch z)
    rw [upd_ne ne]
    exact x.fr a u (by rw [upd_ne ne]; exact h) na
  · have := x.nw a h na
    by_cases e : a = p
    · rw [e]; exact n
    · rwa [upd_ne e] at this
  · rcases x.gn a u h with z | z | z
    · exact .inl z
    · by_cases e : a = p
      · rw [e]; exact .inr (.inl n)
      · rw [upd_ne e] at z
        exact .inr (.inl z)
    · exact .inr (.inr z)
theorem zip_keys {ps : List (Str × M D)} {ds : List D} (h : ps.length = ds.length) : ((ps.map fun p => (Sum.inr p.1 : Key)).zip ds).map (·.1) = ps.map fun p => (Sum.inr p.1 : Key) := by
  rw [List.map_fst_zip]
  rw [List.length_map]; omega
theorem pairs_len : ∀ {ps : List (Str × M D)} {ds : List D} {ρ : Rho} {S S' : Sto}, m_pairs ps ρ S = some (.ok ds, S') → ds.length = ps.length
  | [], _, _, _, _, e => by cases e; rfl
  | (k, m) :: r, ds, ρ, S, S', e => by
    simp only [m_pairs, M.bind] at e
    cases q : m ρ S with
    | none => rw [q] at e; cases e
    | some x =>
      obtain ⟨r1, S1⟩ := x
      rw [q] at e
      cases r1 with
      | er c fs => cases e
      | ok d =>
        dsimp only at e
        cases q2 : m_pairs r ρ S1 with
        | none => rw [q2] at e; cases e
        | some x =>
          obtain ⟨r2, S2⟩ := x
          rw [q2] at e
          cases r2 with
          | er c fs => cases e
          | ok ds' =>
            cases e
            simp [pairs_len q2]
theorem pd_disp {keys : List (Option Expr)} {values : List Expr} {ps : List (Str × M D)} (h : PDP X W z pos keys values ps) (hall : keys.all (·.isSome) = true := by rfl) (hl : keys.length = values.length := by rfl) (h0 : keys ≠ [] := by simp)
    (h15 : keys.length ≤ 15 := by decide) : PD X W z (.Dict keys values pos) (m_disp ps) :=
  pe_mono (pe_disp h.pps hall hl h0 h15) fun σ H Q hq => by
    obtain ⟨w, ρ, S, t, s, r, S', e, k⟩ := hq
    intro p np
    obtain ⟨gp, ap⟩ := t.gone np
    unfold m_disp M.bind at e
    cases q : m_pairs ps ρ S with
    | none => rw [q] at e; cases e
    | some x =>
      obtain ⟨r1, S1⟩ := x
      rw [q] at e
      have st0 : Stp w w H (upd H p (.dK [])) := (Stp.refl _ _).upd np
      have hD : Do X.K X.mg W z (relA X.K X.mg σ ρ) w σ (upd H p (.dK [])) ρ S (m_pairs ps) (fun vs H2 => vs.length = ps.length → H2 p = some (.dK []) ∧ ∃ kvs : List (Key × V), (ps.map fun p => V.str p.1).zip vs = kvs.map (fun kv => (kV kv.1, kv.2)) ∧ kvs.length ≤ 15 ∧ Q (.ref p) (upd H2 p (.dK (mergeK [] kvs)))) := by
        refine ⟨t.upd gp ap, s.step st0, r1, S1, q, ?_⟩
        cases r1 with
        | er c fs =>
          cases e
          exact fun H' w' cls dx st' t' x => by
            have e1 : upd H' p (.dK []) = H' := by
              funext b
              by_cases z : b = p
              · rw [z, upd_same]; exact (st'.fr p _ upd_same ap).symm
              · rw [upd_ne z]
            have := st'.under (o' := .dK []) np
            rw [e1] at this
            exact k H' w' cls dx this t' x
        | ok ds =>
          unfold M.lift at e
          dsimp only at e
          split at e
          · rename_i y q2
            cases e
            split at q2
            · rename_i c
              cases q2
              intro vs H2 w2 st2 t2 rds hl2
              have hp2 : H2 p = some (.dK []) := st2.fr p _ upd_same ap
              have hd := RrA.fix rds c.1
              have hlen : ps.length = vs.length := hl2.symm
              have hlen2 : ps.length = ds.length := by rw [← hd.length]; exact hlen
              refine ⟨hp2, (ps.map fun p => (Sum.inr p.1 : Key)).zip vs, ?_, by rw [List.length_zip, List.length_map]; omega, ?_⟩
              · have : ∀ (ps : List (Str × M D)) (vs : List V), (ps.map fun p => V.str p.1).zip vs = ((ps.map fun p => (Sum.inr p.1 : Key)).zip vs).map (fun kv => (kV kv.1, kv.2)) := by
                  intro ps
                  induction ps with
                  | nil => intro vs; rfl
                  | cons p r ih =>
                    intro vs
                    cases vs with
                    | nil => rfl
                    | cons v vs =>
                      simp only [List.map_cons, List.zip_cons_cons, ih vs]
                      rfl
                exact this ps vs
              · have g2 : w2.G p = none := by
                  cases q : w2.G p with
                  | none => rfl
                  | some u =>
                    rcases st2.gn p u q with z | z | z
                    · rw [gp] at z; cases z
                    · rw [upd_same] at z; cases z
                    · exact absurd z ap
                have a2 : p ∉ w2.al := fun z => by
                  have := st2.nw p z ap
                  rw [upd_same] at this
                  cases this
                obtain ⟨m1, m2⟩ := merge_dt (K := X.K) (mg := X.mg) (w := w2) (vs := (ps.map fun p => (Sum.inr p.1 : Key)).zip vs) (ds := (ps.map fun p => (Sum.inr p.1 : Key)).zip ds) (v0 := []) (d0 := [])
                  (by rw [List.map_fst_zip (by rw [List.length_map]; omega), List.map_fst_zip (by rw [List.length_map]; omega)])
                  (by rw [List.map_snd_zip (by rw [List.length_map]; omega), List.map_snd_zip (by rw [List.length_map]; omega)]; exact hd) rfl .nil
                obtain ⟨st3, t3⟩ := keep_new (st2.under (o' := .dK (mergeK [] ((ps.map fun p => (Sum.inr p.1 : Key)).zip vs))) np) (t2.upd g2 a2) np g2 a2 upd_same
                have le : Le w2 (w2.new p (.dK (mergeK [] ((ps.map fun p => (Sum.inr p.1 : Key)).zip vs)))) := ⟨Ex.new g2, List.prefix_refl _⟩
                exact k _ _ _ st3 t3 (.inl (.dct (Rd.of upd_same) m1 (m2.mono le)))
            · cases q2
          · cases e
      exact pairs_go hD fun vs H' hl q => q hl
end
end Pd

/-! What changes: in slots, in the store. -/
namespace Pd
open PySem L2 Evl Hg
open PySem.Spec PyProof.Rows
section
variable {X : Cx} {W : WX} {z : Option Zi} {w0 : W0} {w w' w1 : Wd} {σ : L2.St} {H H' H1 : Hp} {ρ ρ' : Rho} {S S' S1 : Sto} {K : PySem.W.Frag} {mg : Str → Option Value} {Dn : Ends}
variable {e a b o value : Expr} {es : List Expr} {pos pos' apos cpos : Pos} {me ma mb mo mk mv : M D} {ms : M (List D)} {st : Stmt} {m : SM}
/-- what slot i holds changes -/
theorem StS.mutate {i : Nat} {o o' : Mo} {a : Addr} {u : HO} (s : StS X.K X.mg z w0 w σ H ρ S) (e : ρ[i]? = some (Sv.m o)) (e2 : σ[i]? = some (some (.ref a))) (hm : MoOk X.K X.mg w (upd H a u) a o') : StS X.K X.mg z w0 w σ (upd H a u) (ρ.set i (.m o')) S := by
  obtain ⟨b, eb, g, n, m⟩ := s.s.mt i o e
  rw [e2] at eb
  cases eb
  have h0 := s.lo i o a e e2
  refine ⟨s.t.upd g n, ⟨by simp [s.s.len], fun j d f => ?_, fun j o2 f => ?_, fun j k oj ok b f1 f2 f3 f4 => ?_, s.s.exc⟩, fun j o2 b f1 f2 => ?_, s.st.upd h0⟩
  · rcases set_get f with ⟨_, f⟩ | ⟨_, f⟩
    · cases f
    · exact s.s.dat j d f
  · rcases set_get f with ⟨rfl, f2⟩ | ⟨nj, f2⟩
    · cases f2
      exact ⟨a, e2, g, n, hm⟩
    · obtain ⟨b, f3, g3, n3, m3⟩ := s.s.mt j o2 f2
      refine ⟨b, f3, g3, n3, m3.stay (upd_ne ?_) (Le.refl _)⟩
      intro q
      subst q
      exact nj (s.s.sep j i o2 o b f2 e f3 e2)
  · have back : ∀ {l : Nat} {ol : Mo}, (ρ.set i (.m o'))[l]? = some (Sv.m ol) → ∃ o2, ρ[l]? = some (Sv.m o2) := fun {l ol} h => by
      rcases set_get h with ⟨rfl, _⟩ | ⟨_, h⟩
      · exact ⟨o, e⟩
      · exact ⟨_, h⟩
    obtain ⟨oj', f1⟩ := back f1
    obtain ⟨ok', f2⟩ := back f2
    exact s.s.sep j k _ _ b f1 f2 f3 f4
  · rcases set_get f1 with ⟨rfl, _⟩ | ⟨_, f1⟩
    · exact s.lo _ o b e f2
    · exact s.lo j o2 b f1 f2
/-- what slot i holds, and where -/
def slotM (i : Nat) (ρ : Rho) : Option Mo := match ρ[i]? with
  | some (.m o) => some o
  | _ => none
theorem slotM_eq {i : Nat} {o : Mo} (h : slotM i ρ = some o) : ρ[i]? = some (Sv.m o) := by
  unfold slotM at h
  split at h
  · rename_i o' e
    cases h
    exact e
  · cases h
/-- x.append(e) -/
def s_app (i : Nat) (me : M D) : SM := (M.lift fun ρ _ => slotM i ρ).toS fun o => match o with
  | .lst ds => me.toS fun d ρ S => if fixed d = true ∧ ds.length < sizeLine then some (.nx, ρ.set i (.m (.lst (ds ++ [d]))), S) else none
  | _ => fun _ _ => none
theorem pds_app {i : Nat} {x : Str} {xp : Pos} (ho : PE X (.Name x xp) (tVar i)) (he : PD X W z e me)
    (h : ∀ {te : TE}, PE X e te → PS X st (tDrop (tBM X.K "list" rAppend (tVar i) (tCons te tNil)))) : PDS X W z w0 st (s_app i me) :=
  ps_mono (h he) fun Dn σ H h => by
    obtain ⟨w, ρ, S, h⟩ := h
    obtain ⟨o, eo, h⟩ := h.liftB
    have eo := slotM_eq eo
    cases o with
    | dct _ => obtain ⟨_, _, _, _, e, _⟩ := h; cases e
    | ins _ _ => obtain ⟨_, _, _, _, e, _⟩ := h; cases e
    | lst ds =>
      obtain ⟨a, ea, g, n, xs, hx, hd⟩ := h.st.s.mt i _ eo
      refine ⟨_, ea, .inl ⟨rfl, xs, .inl (.inl hx)⟩, w, ρ, S, DoS.bind (rel := relD X.K X.mg σ ρ) h fun d v w1 H1 S1 x rd h1 => ?_⟩
      obtain ⟨st1, fl, ρ', S', e, p⟩ := h1
      split at e
      · rename_i c
        cases e
        have hx1 : H1 a = some (.lst xs) := x.fr a _ hx n
        refine ⟨a, xs, v, rfl, rfl, hx1, by rw [hd.length]; exact c.2, p σ _ w1 (Le.refl _) (st1.mutate eo ea ⟨xs ++ [v], upd_same, ?_⟩)⟩
        exact (hd.mono x.le).append (.cons (rd.dt c.1) .nil)
      · cases e
/-- x[k] = v, x a dict -/
def s_put (i : Nat) (mk mv : M D) : SM := mv.toS fun d => (M.lift fun ρ _ => slotM i ρ).toS fun o => match o with
  | .dct kvs => mk.toS fun k ρ S => match keyOfD k with
    | some key => if fixed d = true ∧ kvs.length < sizeLine then some (.nx, ρ.set i (.m (.dct (putD kvs key d))), S) else none
    | none => none
  | _ => fun _ _ => none
theorem map_len {α β : Type} {l : List (Key × α)} {l' : List (Key × β)} (h : l.map (·.1) = l'.map (·.1)) : l.length = l'.length := by
  have := congrArg List.length h
  simpa using this
theorem pds_put {i : Nat} (hv : PD X W z value mv) (hk : PD X W z e mk) (h : ∀ {tk tv : TE}, PE X e tk → PE X value tv → PS X st (sDPut (tVar i) tk tv)) : PDS X W z w0 st (s_put i mk mv) :=
  ps_mono (h hk hv) fun Dn σ H h => by
    obtain ⟨w, ρ, S, h⟩ := h
    refine ⟨w, ρ, S, DoS.bind (rel := relD X.K X.mg σ ρ) h fun d v w1 H1 S1 x rd h1 => ?_⟩
    obtain ⟨o, eo, h1⟩ := h1.liftB
    have eo := slotM_eq eo
    cases o with
    | lst _ => obtain ⟨_, _, _, _, e, _⟩ := h1; cases e
    | ins _ _ => obtain ⟨_, _, _, _, e, _⟩ := h1; cases e
    | dct kvs =>
      obtain ⟨a, ea, g, n, vs, hx, ek, hd⟩ := h1.st.s.mt i _ eo
      refine ⟨_, ea, w1, ρ, S1, DoS.bind (rel := relD X.K X.mg σ ρ) h1 fun k u w2 H2 S2 x2 rk h2 => ?_⟩
      obtain ⟨st2, fl, ρ', S', e, p⟩ := h2
      split at e
      · rename_i key q
        split at e
        · rename_i c
          cases e
          obtain rfl := keyOf_rr rk q
          have hx2 : H2 a = some (.dK vs) := x2.fr a _ hx n
          obtain ⟨m1, m2⟩ := put_dt (k := key) ek (hd.mono x2.le) ((rd.dt c.1).mono x2.le)
          exact ⟨a, _, rfl, .inl ⟨vs, key, hx2, rfl, by rw [map_len ek]; exact c.2, rfl⟩, p σ _ w2 (Le.refl _) (st2.mutate eo ea ⟨_, upd_same, m1, m2⟩)⟩
        · cases e
      · cases e
def putFD (f : Str) (d : D) : List (Str × D) → List (Str × D)
  | [] => [(f, d)]
  | (g, x) :: r => if g = f then (g, d) :: r else (g, x) :: putFD f d r
theorem putF_dt : ∀ {vs : List (Str × V)} {ds : List (Str × D)} {f : Str} {v : V} {d : D}, vs.map (·.1) = ds.map (·.1) → DtA K mg w (vs.map (·.2)) (ds.map (·.2)) → Dt K mg w v d →
    (putF f v vs).map (·.1) = (putFD f d ds).map (·.1) ∧ DtA K mg w ((putF f v vs).map (·.2)) ((putFD f d ds).map (·.2))
  | [], [], f, v, d, _, _, h => ⟨rfl, .cons h .nil⟩
  | [], _ :: _, _, _, _, e, _, _ => by cases e
  | _ :: _, [], _, _, _, e, _, _ => by cases e
  | (k1, v1) :: vs, (k2, d2) :: ds, f, v, d, ek, hd, h => by
    simp only [List.map_cons, List.cons.injEq] at ek
    obtain ⟨rfl, ek⟩ := ek
    cases hd with
    | cons h1 hs =>
      obtain ⟨a, b⟩ := putF_dt (f := f) ek hs h
      by_cases c : k1 = f
      · simp only [putF, putFD, c, if_true, List.map_cons]
        exact ⟨by rw [ek], .cons h hs⟩
      · simp only [putF, putFD, c, if_false, List.map_cons]
        exact ⟨by rw [a], .cons h1 b⟩
/-- self.f = v, self the instance that slot i holds -/
def s_attr (i : Nat) (c f : Str) (me : M D) : SM := me.toS fun d => (M.lift fun ρ _ => slotM i ρ).toS fun o ρ S => match o with
  | .ins c' fs => if fixed d = true ∧ fs.length < 1000 ∧ c' = c then some (.nx, ρ.set i (.m (.ins c (putFD f d fs))), S) else none
  | _ => none
theorem fld_len {α β : Type} {l : List (Str × α)} {l' : List (Str × β)} (h : l.map (·.1) = l'.map (·.1)) : l.length = l'.length := by
  have := congrArg List.length h
  simpa using this
theorem pds_attr {i : Nat} {c f : Str} (hc : ∀ C, X.mg c = some (.ref C) → L2.Cls X.K C ∧ NoAttr X.K C f) (h : PS X st (sFld X.K (tVar i) (tD X.K X.mg W z me) f)) : PDS X W z w0 st (s_attr i c f me) :=
  ps_mono h fun Dn σ H h => by
    obtain ⟨w, ρ, S, h⟩ := h
    refine ⟨w, ρ, S, DoS.bind (rel := relD X.K X.mg σ ρ) h fun d v w1 H1 S1 x rd h1 => ?_⟩
    obtain ⟨o, eo, h1⟩ := h1.liftB
    have eo := slotM_eq eo
    obtain ⟨st1, fl, ρ', S', e, p⟩ := h1
    cases o with
    | lst _ => cases e
    | dct _ => cases e
    | ins c' fs =>
      dsimp only at e
      split at e
      · rename_i cc
        obtain ⟨c1, c2, rfl⟩ := cc
        cases e
        obtain ⟨a, ea, g, n, C, dx, vs, em, hx, ek, hd⟩ := st1.s.mt i _ eo
        obtain ⟨k1, k2⟩ := hc C em
        obtain ⟨m1, m2⟩ := putF_dt (f := f) ek hd (rd.dt c1)
        exact ⟨_, ea, a, C, dx, vs, rfl, hx, k1, k2, by rw [fld_len ek]; exact c2, p σ _ w1 (Le.refl _) (st1.mutate eo ea ⟨C, dx, _, em, upd_same, m1, m2⟩)⟩
      · cases e
/-- e.f, of an instance of one of the classes cs -/
def m_fld (cs : List Str) (f : Str) (m : M D) : M D := m.bind fun d => M.lift fun ρ S => match rsv ρ S d with
  | some (.ins c fs) => if c ∈ cs then fs.lookup f else none
  | _ => none
theorem lookup_dt : ∀ {vs : List (Str × V)} {ds : List (Str × D)} {f : Str} {d : D}, vs.map (·.1) = ds.map (·.1) → DtA K mg w (vs.map (·.2)) (ds.map (·.2)) → ds.lookup f = some d → ∃ v, vs.lookup f = some v ∧ Dt K mg w v d
  | [], [], _, _, _, _, e => by cases e
  | [], _ :: _, _, _, e, _, _ => by cases e
  | _ :: _, [], _, _, e, _, _ => by cases e
  | (k1, v1) :: vs, (k2, d2) :: ds, f, d, ek, hd, e => by
    simp only [List.map_cons, List.cons.injEq] at ek
    obtain ⟨rfl, ek⟩ := ek
    cases hd with
    | cons h1 hs =>
      simp only [List.lookup] at e ⊢
      cases q : f == k1 with
      | true =>
        rw [q] at e
        cases e
        exact ⟨v1, rfl, h1⟩
      | false =>
        rw [q] at e
        exact lookup_dt ek hs e
theorem pd_fld {cs : List Str} {f : Str} (hc : ∀ c ∈ cs, ∀ C, X.mg c = some (.ref C) → L2.Cls X.K C ∧ NoAttr X.K C f) (he : PD X W z e me) (hb : attributeBase e f X.env (eval e X.env) = eval e X.env := by rfl) : PD X W z (.Attribute e f pos) (m_fld cs f me) :=
  pe_mono (pe_fld he hb) fun σ H Q h => by
    obtain ⟨w, ρ, S, h⟩ := h
    refine ⟨w, ρ, S, h.bind fun d v w1 H1 S1 st rd h1 => ?_⟩
    obtain ⟨y, e, k⟩ := h1.lift
    split at e
    · rename_i c fs q
      split at e
      · rename_i cm
        obtain ⟨a, C, dx, vs, rfl, em, hx, ek, hd⟩ := Rs.of h1.t h1.s rd q
        obtain ⟨k1, k2⟩ := hc c cm C em
        obtain ⟨v', e1, hv⟩ := lookup_dt ek hd e
        exact ⟨a, C, dx, vs, v', rfl, hx, k1, k2, e1, k v' H1 w1 (Grow.refl h1.t.sub) (.inl hv)⟩
      · cases e
    · cases e
/-! ### the store -/
theorem At.mutS {k : Nat} {o o' : Mo} {a : Addr} {u : HO} (t : At K mg w H S) (e1 : w.al[k]? = some a) (e2 : S[k]? = some o) (hm : MoOk K mg w (L2.upd H a u) a o') : At K mg w (L2.upd H a u) (S.set k o') := by
  have ha := List.mem_of_getElem? e1
  refine ⟨fun b v h => ?_, by simp [t.len], t.nd, t.off, fun j b o2 hj ho => ?_⟩
  · rw [upd_ne (ne_of_none h (t.off a ha))]
    exact t.sub b v h
  · rcases set_get ho with ⟨rfl, ho2⟩ | ⟨n, ho2⟩
    · cases ho2
      rw [e1] at hj
      cases hj
      exact hm
    · refine (t.obj j b o2 hj ho2).stay (upd_ne ?_) (Le.refl w)
      intro q
      subst q
      obtain ⟨h1, g1⟩ := List.getElem?_eq_some_iff.mp e1
      obtain ⟨h2, g2⟩ := List.getElem?_eq_some_iff.mp hj
      exact n ((List.getElem_inj t.nd).mp (g2.trans g1.symm))
theorem Stp.mutS {k : Nat} {a : Addr} {u : HO} (e1 : w.al[k]? = some a) : Stp w w H (L2.upd H a u) := by
  have ha := List.mem_of_getElem? e1
  refine ⟨Le.refl _, fun b v h n => ?_, fun b h n => absurd h n, fun b v h => .inl h⟩
  rw [upd_ne (fun q : b = a => n (by rw [q]; exact ha))]
  exact h
/-- the thing k of the store -/
theorem own_at {v : V} {k : Nat} {o : Mo} (t : At K mg w H S) (r : Rr K mg w σ ρ v (.own k)) (e : S[k]? = some o) : ∃ a, v = .ref a ∧ w.al[k]? = some a ∧ MoOk K mg w H a o := by
  rcases r with r | ⟨_, _, z, _⟩
  · cases r with
    | own h => exact ⟨_, rfl, h, t.obj k _ o h e⟩
  · cases z
/-- o.pop(), o a list of the store -/
def m_opop (mo : M D) : M D := mo.bind fun o _ S => match o with
  | .own k => match S[k]? with
    | some (.lst ds) => match ds[ds.length - 1]? with
      | some d => some (.ok d, S.set k (.lst ds.dropLast))
      | none => none
    | _ => none
  | _ => none
theorem dropLast_dt {vs : List V} {ds : List D} (h : DtA K mg w vs ds) : DtA K mg w vs.dropLast ds.dropLast := by
  rw [List.dropLast_eq_take, List.dropLast_eq_take, h.length]
  exact h.take _
theorem pd_opop (ho : PD X W z o mo) (hbase : attributeBase o "pop" X.env (eval o X.env) = eval o X.env := by rfl) (hline : (apos.endLine == cpos.line) = true := by rfl) : PD X W z (.Call (.Attribute o "pop" apos) [] [] cpos) (m_opop mo) :=
  pe_mono (pe_bm0 PySem.F.plainAttrs_list PySem.F.slot_list_pop PySem.F.type_list_pop mt_pop ho hbase hline) fun σ H Q h => by
    obtain ⟨w, ρ, S, h⟩ := h
    refine ⟨w, ρ, S, h.bind fun d v w1 H1 S1 st rd h1 => ?_⟩
    obtain ⟨t1, s1, r, S', e, p⟩ := h1
    cases d <;> first | (exfalso; simp at e; done) | skip
    rename_i k
    dsimp only at e
    split at e
    · rename_i ds q
      split at e
      · rename_i y q2
        cases e
        obtain ⟨a, rfl, ha, xs, hx, hd⟩ := own_at t1 rd q
        have hl := hd.length
        obtain ⟨y', e3, hy⟩ := hd.get q2
        refine ⟨.inl ⟨rfl, xs, .inl (.inl hx)⟩, a, xs, y', rfl, rfl, hx, by rw [hl]; exact e3, ?_⟩
        exact p y' _ w1 (Stp.mutS ha) (t1.mutS ha q ⟨_, upd_same, dropLast_dt hd⟩) (.inl hy)
      · cases e
    · cases e
/-- o.append(e), o a list of the store -/
def m_oapp (mo me : M D) : M D := mo.bind fun o => (M.lift fun _ S => match o with
  | .own k => match S[k]? with
    | some (.lst _) => some k
    | _ => none
  | _ => none).bind fun k => me.bind fun d _ S => match S[k]? with
    | some (.lst ds) => if fixed d = true ∧ ds.length < sizeLine then some (.ok .non, S.set k (.lst (ds ++ [d]))) else none
    | _ => none
theorem pd_oapp (ho : PD X W z o mo) (he : PD X W z e me) (h : ∀ {to te : TE}, PE X o to → PE X e te → PE X a (tBM X.K "list" rAppend to (tCons te tNil))) : PD X W z a (m_oapp mo me) :=
  pe_mono (h ho he) fun σ H Q h => by
    obtain ⟨w, ρ, S, h⟩ := h
    refine ⟨w, ρ, S, h.bind fun d v w1 H1 S1 st rd h1 => ?_⟩
    obtain ⟨k, ek, hk1⟩ := h1.liftB
    cases d <;> first | (exfalso; simp at ek; done) | skip
    dsimp only at ek
    split at ek
    · rename_i ds q
      cases ek
      obtain ⟨a, rfl, ha, xs, hx, hd⟩ := own_at hk1.t rd q
      refine ⟨.inl ⟨rfl, xs, .inl (.inl hx)⟩, w1, ρ, S1, Do.bind (rel1 := relD X.K X.mg σ ρ) hk1 fun d u w2 H2 S2 st2 ru h2 => ?_⟩
      obtain ⟨t2, s2, r, S', e, p⟩ := h2
      have ha2 := pre_get st2.le.a ha
      split at e
      · rename_i ds2 q2
        split at e
        · rename_i c
          cases e
          obtain ⟨xs2, hx2, hd2⟩ := t2.obj _ a _ ha2 q2
          refine ⟨a, xs2, u, rfl, rfl, hx2, by rw [hd2.length]; exact c.2, ?_⟩
          exact p .non _ w2 (Stp.mutS ha2) (t2.mutS ha2 q2 ⟨_, upd_same, hd2.append (.cons (ru.dt c.1) .nil)⟩) (.inl .non)
        · cases e
      · cases e
    · cases ek
/-- o[k] = v, o a dict of the store -/
def s_oput (mo mk mv : M D) : SM := mv.toS fun d => mo.toS fun o => mk.toS fun k ρ S => match o, keyOfD k with
  | .own j, some key => match S[j]? with
    | some (.dct kvs) => if fixed d = true ∧ kvs.length < sizeLine then some (.nx, ρ, S.set j (.dct (putD kvs key d))) else none
    | _ => none
  | _, _ => none
theorem pds_oput (ho : PD X W z o mo) (hv : PD X W z value mv) (hk : PD X W z e mk) (h : ∀ {to tk tv : TE}, PE X o to → PE X e tk → PE X value tv → PS X st (sDPut to tk tv)) : PDS X W z w0 st (s_oput mo mk mv) :=
  ps_mono (h ho hk hv) fun Dn σ H h => by
    obtain ⟨w, ρ, S, h⟩ := h
    refine ⟨w, ρ, S, DoS.bind (rel := relD X.K X.mg σ ρ) h fun d v w1 H1 S1 x1 rd h1 => ⟨w1, ρ, S1, DoS.bind (rel := relD X.K X.mg σ ρ) h1 fun od ov w2 H2 S2 x2 ro h2 => ⟨w2, ρ, S2, DoS.bind (rel := relD X.K X.mg σ ρ) h2 fun k u w3 H3 S3 x3 rk h3 => ?_⟩⟩⟩
    obtain ⟨st3, fl, ρ', S', e, p⟩ := h3
    split at e
    · rename_i j key q
      split at e
      · rename_i kvs q2
        split at e
        · rename_i c
          cases e
          have ro3 : Rr X.K X.mg w3 σ ρ ov (.own j) := Rr.mono x3.le ro
          obtain ⟨a, rfl, ha, vs, hx, ek, hd⟩ := own_at st3.t ro3 q2
          obtain rfl := keyOf_rr rk q
          obtain ⟨m1, m2⟩ := put_dt (k := key) ek hd ((rd.dt c.1).mono (x2.le.trans x3.le))
          exact ⟨a, _, rfl, .inl ⟨vs, key, hx, rfl, by rw [map_len ek]; exact c.2, rfl⟩, p σ _ w3 (Le.refl _) (st3.step (Stp.mutS ha) (st3.t.mutS ha q2 ⟨_, upd_same, m1, m2⟩))⟩
        · cases e
      · cases e
    · cases e
/-! ### what goes into the store -/
theorem publish {p : Addr} {o : Mo} (x : Stp w w1 H H1) (t : At K mg w1 H1 S1) (n : H p = none) (g : w1.G p = none) (a : p ∉ w1.al) (m : MoOk K mg w1 H1 p o) :
    Stp w ⟨w1.G, w1.al ++ [p]⟩ H H1 ∧ At K mg ⟨w1.G, w1.al ++ [p]⟩ H1 (S1 ++ [o]) ∧ Dt K mg ⟨w1.G, w1.al ++ [p]⟩ (.ref p) (.own S1.length) := by
  have le : Le w1 ⟨w1.G, w1.al ++ [p]⟩ := ⟨Ex.refl _, List.prefix_append _ _⟩
  refine ⟨⟨x.le.trans le, x.fr, fun b h nb => ?_, x.gn⟩, ⟨t.sub, by simp [t.len], ?_, fun b h => ?_, fun k b o' hk ho => ?_⟩, .own ?_⟩
  · rcases List.mem_append.mp h with h | h
    · exact x.nw b h nb
    · obtain rfl := List.mem_singleton.mp h
      exact n
  · refine List.nodup_append.mpr ⟨t.nd, by simp, fun b hb c hc e => ?_⟩
    obtain rfl := List.mem_singleton.mp hc
    exact a (e ▸ hb)
  · rcases List.mem_append.mp h with h | h
    · exact t.off b h
    · obtain rfl := List.mem_singleton.mp h
      exact g
  · by_cases hlt : k < w1.al.length
    · have hk' : w1.al[k]? = some b := by
        have hk2 : (w1.al ++ [p])[k]? = some b := hk
        rwa [List.getElem?_append_left hlt] at hk2
      rw [List.getElem?_append_left (by rw [← t.len]; exact hlt)] at ho
      exact (t.obj k b o' hk' ho).stay rfl le
    · have hk2 : (w1.al ++ [p])[k]? = some b := hk
      rw [List.getElem?_append_right (by omega)] at hk2
      rw [List.getElem?_append_right (by rw [← t.len]; omega)] at ho
      have e0 : k - w1.al.length = 0 := by
        have := (List.getElem?_eq_some_iff.mp hk2).1
        simp at this
        omega
      rw [e0] at hk2
      rw [← t.len, e0] at ho
      cases hk2
      cases ho
      exact m.stay rfl le
  · show (w1.al ++ [p])[S1.length]? = some p
    rw [← t.len, List.getElem?_append_right (Nat.le_refl _)]
    simp
def m_pub (m : M (List D)) : M D := m.bind fun ds _ S => some (.ok (.own S.length), S ++ [.lst ds])
theorem pd_pub {m : M (List D)} (h : PF X W z e m) : PD X W z e (m_pub m) := pe_mono h fun σ H Q h => by
  obtain ⟨w, ρ, S, t, s, r, S', e, k⟩ := h
  refine ⟨w, ρ, S, t, s, ?_⟩
  unfold m_pub M.bind at e
  cases q : m ρ S with
  | none => rw [q] at e; cases e
  | some x =>
    obtain ⟨r1, S1⟩ := x
    rw [q] at e
    refine ⟨r1, S1, rfl, ?_⟩
    cases r1 with
    | er c fs => cases e; exact k
    | ok ds =>
      cases e
      intro v H1 w1 st t1 rl
      obtain ⟨p, xs, rfl, n, g, a, e1, hd⟩ := rl
      obtain ⟨st2, t2, d2⟩ := publish (o := .lst ds) st t1 n g a ⟨xs, e1, hd⟩
      exact k (.ref p) H1 _ st2 t2 (.inl d2)
/-- t[::-1] -/
def mf_rev (m : M D) : M (List D) := m.bind fun d => M.lift fun ρ S => match rsv ρ S d with
  | some (.lst ds) => some ds.reverse
  | _ => none
theorem pf_rev {k : Nat} {p1 p2 p3 : Pos} (he : PD X W z e me) : PF X W z (.Subscript e (.Slice none none (some (.UnaryOp .USub (.Constant (.int 1) k p1) p2)) p3) pos) (mf_rev me) :=
  pe_mono (pe_revL he) fun σ H Q h => by
    obtain ⟨w, ρ, S, h⟩ := h
    refine ⟨w, ρ, S, h.bind fun d v w1 H1 S1 st rd h1 => ?_⟩
    obtain ⟨t1, s1, r, S', e, p⟩ := h1
    unfold M.lift at e
    dsimp only at e
    cases q : rsv ρ S1 d with
    | none => rw [q] at e; cases e
    | some d' =>
      rw [q] at e
      cases d' <;> first | (exfalso; simp at e; done) | skip
      cases e
      obtain ⟨a, xs, rfl, hx, hd⟩ := Rs.of t1 s1 rd q
      refine ⟨a, xs, rfl, .inl hx, fun b nb => ?_⟩
      obtain ⟨g, al⟩ := t1.gone nb
      exact p (.ref b) _ w1 ((Stp.refl _ _).upd nb) (t1.upd g al) ⟨b, _, rfl, st.fresh t1 nb, g, al, upd_same, hd.reverse⟩
end
end Pd

/-! Errors: raised, caught, read. -/
namespace Pd
open PySem L2 Evl Hg
open PySem.Spec PyProof.Rows
section
variable {X : Cx} {W : WX} {z : Option Zi} {w0 : W0} {w w' w1 : Wd} {σ : L2.St} {H H' H1 : Hp} {ρ ρ' : Rho} {S S' S1 : Sto} {K : PySem.W.Frag} {mg : Str → Option Value} {Dn : Ends}
variable {e a b o value : Expr} {es : List Expr} {pos pos' apos cpos : Pos} {me ma mb mo mk mv : M D} {ms : M (List D)} {st : Stmt} {m : SM}
/-! ### raise C(e), C keeps e under a name -/
def s_raise (c name : Str) (me : M D) : SM := me.toS fun d ρ S => if fixed d = true then some (.er c [(name, d)], ρ, S) else none
theorem pds_raise {c name : Str} {C : Addr} (hm : X.mg c = some (.ref C)) (he : PD X W z e me)
    (h : ∀ {te : TE}, PE X e te → PS X st (fun _ σ H => te σ H fun y H1 => ∀ d, H1 d = none → W (.ref C) (some d) σ (upd H1 d (.xd [(name, y)])))) : PDS X W z w0 st (s_raise c name me) :=
  ps_mono (h he) fun Dn σ H h => by
    obtain ⟨w, ρ, S, h⟩ := h
    refine ⟨w, ρ, S, DoS.bind (rel := relD X.K X.mg σ ρ) h fun d v w1 H1 S1 x rd h1 => ?_⟩
    obtain ⟨st1, fl, ρ', S', e, p⟩ := h1
    intro dx ndx
    split at e
    · rename_i f
      cases e
      have g := Grow.new (o := .xd [(name, v)]) st1.t.sub ndx
      refine p σ _ (w1.new dx (.xd [(name, v)])) (.ref C) (some dx) g.le (st1.grow g) ⟨⟨C, rfl, hm⟩, [(name, v)], upd_same, rfl, .cons ((rd.dt f).mono g.le) .nil⟩
    · cases e
/-- raise C(), C bears nothing -/
def s_raise0 (c : Str) : SM := fun ρ S => some (.er c [], ρ, S)
theorem pds_raise0 {c : Str} {C : Addr} (hm : X.mg c = some (.ref C)) (h : PS X st (fun _ σ H => W (.ref C) none σ H)) : PDS X W z w0 st (s_raise0 c) :=
  ps_mono h fun Dn σ H h => by
    obtain ⟨w, ρ, S, st1, fl, ρ', S', e, p⟩ := h
    cases e
    exact p σ H w (.ref C) none (Le.refl _) st1 ⟨⟨C, rfl, hm⟩, rfl⟩

/-! ### try: body, except C as n: suite -/
theorem Sl.un {z' : Option Zi} {i : Nat} {x : Option V} (s : Sl K mg z w H σ ρ) (hz : ∀ zi : Zi, z' = some zi → (σ.set i x)[zi.i]? = some (some (.ref zi.a)) ∧ Zok K mg w zi.dx zi.fs) : Sl K mg z' w H (σ.set i x) (ρ.set i .un) := by
  refine ⟨by simp [s.len], fun j d e => ?_, fun j o e => ?_, fun j k oj ok a e1 e2 e3 e4 => ?_, hz⟩
  · rcases set_get e with ⟨_, e⟩ | ⟨n, e⟩
    · cases e
    · obtain ⟨v, e2, h⟩ := s.dat j d e
      exact ⟨v, by rw [List.getElem?_set_ne (Ne.symm n)]; exact e2, h⟩
  · rcases set_get e with ⟨_, e⟩ | ⟨n, e⟩
    · cases e
    · obtain ⟨a, e2, h⟩ := s.mt j o e
      exact ⟨a, by rw [List.getElem?_set_ne (Ne.symm n)]; exact e2, h⟩
  · rcases set_get e1 with ⟨_, e⟩ | ⟨n1, e1⟩
    · cases e
    rcases set_get e2 with ⟨_, e⟩ | ⟨n2, e2⟩
    · cases e
    rw [List.getElem?_set_ne (Ne.symm n1)] at e3
    rw [List.getElem?_set_ne (Ne.symm n2)] at e4
    exact s.sep j k oj ok a e1 e2 e3 e4
theorem StS.un {z' : Option Zi} {i : Nat} {x : Option V} (s : StS K mg z w0 w σ H ρ S) (hz : ∀ zi : Zi, z' = some zi → (σ.set i x)[zi.i]? = some (some (.ref zi.a)) ∧ Zok K mg w zi.dx zi.fs) : StS K mg z' w0 w (σ.set i x) H (ρ.set i .un) S := by
  refine ⟨s.t, s.s.un hz, fun j o a e1 e2 => ?_, s.st⟩
  rcases set_get e1 with ⟨_, e⟩ | ⟨n, e1⟩
  · cases e
  rw [List.getElem?_set_ne (Ne.symm n)] at e2
  exact s.lo j o a e1 e2
def s_try (i : Nat) (errs : List Str) (sub : Str → Bool) (mb : SM) (ms : Str → List (Str × D) → SM) : SM := fun ρ S =>
  match mb ρ S with
  | some (.er c fs, ρ1, S1) => if i < ρ1.length ∧ c ∈ errs then
      if sub c = true then
        match ms c fs (ρ1.set i .un) S1 with
        | some (.er _ _, _, _) => none
        | some (fl, ρ2, S2) => some (fl, ρ2.set i .un, S2)
        | none => none
      else some (.er c fs, ρ1, S1)
    else none
  | r => r
theorem pds_try {errs : List Str} {sub : Str → Bool} {i : Nat} {mb : SM} {ms : Str → List (Str × D) → SM} {cv : Value} {tb : List Stmt} {suite : List Stmt}
    (hE : ∀ c ∈ errs, ∀ C, X.mg c = some (.ref C) → PySem.W.exmOne X.K (.ref C) cv = some (sub c))
    (h : ∀ {ts : Addr → Value → Option Addr → TS} {tb' : WX → TS}, (∀ (W' : WX) (pn : List (Addr × Obj)) (xe : Value → Shared → Prop), Takes (X.tr pn xe) W' → PassesOwn (model X.prog X.w) X.A X.env xe → PSs (X.tr pn xe) tb (tb' W')) →
      (∀ (a : Addr) (oe : Obj) (cls : Value) (d : Option Addr) (pn : List (Addr × Obj)), Zc cls d oe → (∃ vs, oe.data = .fields vs) → PSs (X.suite a ((a, oe) :: pn)) suite (ts a cls d)) → PS X st (fun D σ H => tb' (wAs X.K cv i ts W D) D σ H))
    (hb : ∀ (W' : WX) (pn : List (Addr × Obj)) (xe : Value → Shared → Prop), Takes (X.tr pn xe) W' → PassesOwn (model X.prog X.w) X.A X.env xe → PSs (X.tr pn xe) tb (tS X.K X.mg W' none w0 mb))
    (hsu : ∀ (a : Addr) (oe : Obj) (C : Addr) (d : Option Addr) (pn : List (Addr × Obj)) (c : Str) (fs : List (Str × D)), Zc (.ref C) d oe → (∃ vs, oe.data = .fields vs) → X.mg c = some (.ref C) → c ∈ errs → sub c = true →
      PSs (X.suite a ((a, oe) :: pn)) suite (tS X.K X.mg WNo (some ⟨i, a, d, fs⟩) w0 (ms c fs))) : PDS X W none w0 st (s_try i errs sub mb ms) :=
  ps_mono (h (ts := fun a cls d Dn σ H => ∃ c fs, (∃ C, cls = .ref C ∧ X.mg c = some (.ref C)) ∧ c ∈ errs ∧ sub c = true ∧ tS X.K X.mg WNo (some ⟨i, a, d, fs⟩) w0 (ms c fs) Dn σ H) hb
    (fun a oe cls d pn z f => ⟨fun pins s σ H D I q => by
      obtain ⟨c, fs, ⟨C, rfl, hm⟩, hc, hs, q⟩ := q
      exact (hsu a oe C d pn c fs z f hm hc hs).run pins s σ H D I q⟩)) fun Dn σ H hq => by
    obtain ⟨w, ρ, S, st1, fl, ρ', S', e, p⟩ := hq
    unfold s_try at e
    cases q : mb ρ S with
    | none => rw [q] at e; cases e
    | some x =>
      obtain ⟨f1, ρ1, S1⟩ := x
      rw [q] at e
      refine ⟨w, ρ, S, st1, f1, ρ1, S1, q, ?_⟩
      cases f1 with
      | nx => cases e; exact p
      | bk => cases e; exact p
      | ct => cases e; exact p
      | rt d => cases e; exact p
      | er c fs =>
        dsimp only at e
        split at e
        · rename_i cc
          obtain ⟨hi, cm⟩ := cc
          intro σ2 H2 w2 cls dx l2 st2 xr
          obtain ⟨⟨C, rfl, hm⟩, zk⟩ := xr
          refine ⟨sub c, hE c cm C hm, fun hs a na => ?_, fun hs => ?_⟩
          · rw [if_pos hs] at e
            have hlen : i < σ2.length := by rw [st2.s.len]; exact hi
            have st3 : StS X.K X.mg (some ⟨i, a, dx, fs⟩) w0 w2 (σ2.set i (some (.ref a))) H2 (ρ1.set i .un) S1 := st2.un fun zi e => by
              cases e
              exact ⟨List.getElem?_set_self hlen, zk⟩
            have back : ∀ {σ' H' w' ρ'' S''}, StS X.K X.mg (some ⟨i, a, dx, fs⟩) w0 w' σ' H' ρ'' S'' → StS X.K X.mg none w0 w' (σ'.set i none) H' (ρ''.set i .un) S'' := fun s => s.un fun zi e => nomatch e
            cases q2 : ms c fs (ρ1.set i .un) S1 with
            | none => rw [q2] at e; cases e
            | some y =>
              obtain ⟨f4, ρ4, S4⟩ := y
              rw [q2] at e
              refine ⟨c, fs, ⟨C, rfl, hm⟩, cm, hs, w2, _, S1, st3, f4, ρ4, S4, q2, ?_⟩
              cases f4 with
              | nx => cases e; exact fun σ' H' w' l s => p _ H' w' (l2.trans l) (back s)
              | bk => cases e; exact fun σ' H' w' l s => p _ H' w' (l2.trans l) (back s)
              | ct => cases e; exact fun σ' H' w' l s => p _ H' w' (l2.trans l) (back s)
              | rt d => cases e; exact fun v σ' H' w' l s hd => p v _ H' w' (l2.trans l) (back s) hd
              | er c' fs' => cases e
          · rw [if_neg (by rw [hs]; exact Bool.false_ne_true)] at e
            cases e
            exact p σ2 H2 w2 _ dx l2 st2 ⟨⟨C, rfl, hm⟩, zk⟩
        · cases e
/-! ### the caught error -/
/-- e.f -/
def m_xf (i : Nat) (fs : List (Str × D)) (f : Str) : M D := M.lift fun _ _ => fs.lookup f
theorem pd_xf {i : Nat} {a' C : Addr} {oe : Obj} {d : Option Addr} {pn : List (Addr × Obj)} {n x : Str} {fs : List (Str × D)} {p : Pos} (T : XfC X.K C) (hno : PySem.W.findIn X.K (.ref C) n = some none) (hz : Zc (.ref C) d oe) (hf : ∃ vs, oe.data = .fields vs)
    (he : PE (X.suite a' ((a', oe) :: pn)) (.Name x p) (tVar i)) : PE (X.suite a' ((a', oe) :: pn)) (.Attribute (.Name x p) n pos) (tD X.K X.mg WNo (some ⟨i, a', d, fs⟩) (m_xf i fs n)) :=
  pe_mono (pe_xf T hno hz hf he) fun σ H Q h => by
    obtain ⟨w, ρ, S, h⟩ := h
    obtain ⟨y, e, k⟩ := h.lift
    obtain ⟨e1, zk⟩ := h.s.exc _ rfl
    refine ⟨_, e1, rfl, rfl, ?_⟩
    cases d with
    | none =>
      have zk : fs = [] := zk
      subst zk
      cases e
    | some dd =>
      obtain ⟨vs, g, ek, hd⟩ := zk
      obtain ⟨v, e2, hv⟩ := lookup_dt ek hd e
      exact ⟨dd, vs, v, rfl, h.t.sub _ _ g, e2, k v H w (Grow.refl h.t.sub) (.inl hv)⟩
end
end Pd

/-! isinstance of a caught error that has its dict. -/
namespace Pd
open PySem L2 Evl Hg
open PySem.Spec PyProof.Rows
/-- isinstance(e, c), e the error that the suite holds -/
def rIsX (K : PySem.W.Frag) (D a : Addr) (d : Option Addr) : List V → Hp → VK → Prop := fun xs H Q => ∃ (c : V) (cv : Value) (b : Bool), xs = [.ref a, c] ∧ (∀ u, RelV c u → u = cv) ∧ PySem.W.kitOne K (.ref D) cv = some b ∧ (∀ dd, d = some dd → ∃ fs, H dd = some (.xd fs)) ∧ Q (.bl b) H
theorem call_isX {X : Cx} {a D : Addr} {oe : Obj} {d : Option Addr} {pn : List (Addr × Obj)} (C : ExcC X.K D) (hz : Zc (.ref D) d oe) (hf : ∃ vs, oe.data = .fields vs) : CallR (X.suite a ((a, oe) :: pn)) (.builtin "isinstance") (rIsX X.K D a d) := by
  intro pins s σ H xs us Q I r h
  obtain ⟨c, cv, b, rfl, hcv, e, hd, q⟩ := h
  cases r with
  | cons rx rr =>
    cases rr with
    | cons rt rr =>
      cases rr
      cases rx
      have ec := hcv _ rt
      subst ec
      obtain ⟨hget, _⟩ := I.pin (a, oe) (List.mem_append.mpr (.inl List.mem_cons_self))
      obtain ⟨vs, hv⟩ := hf
      have J : ∃ od, PySem.W.InstAt s.heap a oe D od := by
        obtain ⟨oc, od, oda, osl⟩ := oe
        obtain ⟨h1, h2⟩ := hz
        dsimp only at h1 h2 hv
        subst h1 h2 hv
        cases od with
        | none => exact ⟨none, hget, rfl, rfl, trivial⟩
        | some dd =>
          obtain ⟨fs, ea⟩ := hd dd rfl
          have hx : ObjOk X.prog X.w H s.heap dd (.xd fs) := I.hok dd _ ea
          obtain ⟨mA, hns, hr⟩ := hx
          obtain ⟨od, ho, hl⟩ := lookIn_ns hns
          exact ⟨some od, hget, rfl, rfl, ho⟩
      obtain ⟨od, J⟩ := J
      obtain ⟨cd, hc, _⟩ := PySem.W.any_some C.hd
      exact PySem.W.kia_one (PySem.W.kitx_exc (od := od) (by rw [hc]; rfl) C.hg C.hk C.hs C.ha C.hn C.ht C.hm) I.kIn J e (fun z => nomatch z) fun tk => ⟨.bl b, H, I.kept (t' := tk) fun _ _ z => z, rfl, q⟩
theorem pd_isE {X : Cx} {i : Nat} {a' C Cv : Addr} {oe : Obj} {d : Option Addr} {pn : List (Addr × Obj)} {x cn : Str} {fs : List (Str × D)} {b : Bool} {p p1 p2 pos : Pos} (T : ExcC X.K C) (hz : Zc (.ref C) d oe) (hf : ∃ vs, oe.data = .fields vs)
    (hk : PySem.W.kitOne X.K (.ref C) (.ref Cv) = some b) (hgi : Gl (X.suite a' ((a', oe) :: pn)) "isinstance") (hmi : X.mg "isinstance" = none) (hgc : Gl (X.suite a' ((a', oe) :: pn)) cn) (hmc : X.mg cn = some (.ref Cv))
    (he : PE (X.suite a' ((a', oe) :: pn)) (.Name x p1) (tVar i)) (hdb : (cn == ("__debug__" : Str)) = false := by decide) :
    PE (X.suite a' ((a', oe) :: pn)) (.Call (.Name "isinstance" p) [.Name x p1, .Name cn p2] [] pos) (tD X.K X.mg WNo (some ⟨i, a', d, fs⟩) (m_c (.bl b))) :=
  pe_mono (pe_callB (call_isX T hz hf) hgi hmi (by rfl) (pa_cons he (pa_cons (pe_glob (v := .ref Cv) hgc hmc rfl hdb) pa_nil))) fun σ H Q h => by
    obtain ⟨w, ρ, S, h⟩ := h
    obtain ⟨e1, zk⟩ := h.s.exc _ rfl
    refine ⟨_, e1, ?_⟩
    refine ⟨.ref Cv, .ref Cv, b, rfl, fun u hu => hu, hk, fun dd ed => ?_, h.pure _ (.inl (.bl b))⟩
    subst ed
    obtain ⟨vs, g, _, _⟩ := zk
    exact ⟨vs, h.t.sub _ _ g⟩
end Pd

/-! Own classes: made, their methods. -/
namespace Pd
open PySem L2 Evl Hg
open PySem.Spec PyProof.Rows
section
variable {X : Cx} {W : WX} {z : Option Zi} {w0 : W0} {w w' w1 : Wd} {σ : L2.St} {H H' H1 : Hp} {ρ ρ' : Rho} {S S' S1 : Sto} {K : PySem.W.Frag} {mg : Str → Option Value} {Dn : Ends}
variable {e a b o value : Expr} {es : List Expr} {pos pos' apos cpos p : Pos} {me ma mb mo mk mv : M D} {ms : M (List D)} {st : Stmt} {m : SM}
/-- what a new instance's `__init__` promises -/
def spI (K : PySem.W.Frag) (mg : Str → Option Value) (c : Str) (n : Nat) (F : List D → Sto → Option (R D × Sto)) : Sp := fun vs H2 Q E =>
  ∃ x dx C H w S vs' ds, vs = V.ref x :: vs' ∧ mg c = some (.ref C) ∧ H2 = upd (upd H dx (.own x)) x (.ins C dx []) ∧ H x = none ∧ H dx = none ∧ dx ≠ x ∧ At K mg w H S ∧ DtA K mg w vs' ds ∧ ds.length = n ∧ ∃ r S', F ds S = some (r, S') ∧
    (∀ d, r = .ok d → ∀ H' w', Stp w w' H H' → At K mg w' H' S' → Dt K mg w' (.ref x) d → Q .non H') ∧
    (∀ c fs, r = .er c fs → ∀ H' w' cls dx, Stp w w' H H' → At K mg w' H' S' → Xr K mg w' cls dx c fs → E cls dx H')
def endI (c : Str) (ρ' : Rho) (S' : Sto) : Option (R D × Sto) := match ρ'[0]? with
  | some (Sv.m (Mo.ins c' fs)) => if c' = c then some (.ok (.ins c fs), S') else none
  | _ => none
def runI (c : Str) (n : Nat) (body : SM) : List D → Sto → Option (R D × Sto) := fun ds S =>
  match body (Sv.m (.ins c []) :: (ds.map Sv.d ++ List.replicate (n - (ds.length + 1)) .un)) S with
  | some (.nx, ρ', S') => endI c ρ' S'
  | some (.rt .non, ρ', S') => endI c ρ' S'
  | some (.er c fs, _, S') => some (.er c fs, S')
  | _ => none
theorem new_at {x dx C : Addr} {c : Str} (t : At K mg w H S) (hx : H x = none) (hdx : H dx = none) (hne : dx ≠ x) (hm : mg c = some (.ref C)) :
    At K mg w (L2.upd (L2.upd H dx (.own x)) x (.ins C dx [])) S ∧ Stp w w H (L2.upd (L2.upd H dx (.own x)) x (.ins C dx [])) ∧ w.G x = none ∧ x ∉ w.al := by
  obtain ⟨g1, a1⟩ := t.gone hdx
  obtain ⟨g2, a2⟩ := t.gone hx
  have t1 := t.upd (o := .own x) g1 a1
  have nx : L2.upd H dx (.own x) x = none := by rw [upd_ne (Ne.symm hne)]; exact hx
  exact ⟨t1.upd g2 a2, ((Stp.refl w H).upd hdx).upd hx, g2, a2⟩
theorem new_sl {x dx C : Addr} {c : Str} {N : List Str} {vs : List V} {ds : List D} (t : At K mg w H S) (h : DtA K mg w vs ds) (hx : H x = none) (hdx : H dx = none) (hne : dx ≠ x) (hm : mg c = some (.ref C)) :
    Sl K mg (some ⟨0, x, none, []⟩) w (L2.upd (L2.upd H dx (.own x)) x (.ins C dx [])) (L2.start N (V.ref x :: vs)) (Sv.m (.ins c []) :: (ds.map Sv.d ++ List.replicate (N.length - (ds.length + 1)) .un)) := by
  obtain ⟨t1, x1, g1, a1⟩ := new_at t hx hdx hne hm
  have hl := h.length
  have one : ∀ (i : Nat) (o : Mo), (Sv.m (.ins c []) :: (ds.map Sv.d ++ List.replicate (N.length - (ds.length + 1)) .un))[i]? = some (Sv.m o) → i = 0 ∧ o = .ins c [] := by
    intro i o e
    cases i with
    | zero => cases e; exact ⟨rfl, rfl⟩
    | succ i =>
      rw [List.getElem?_cons_succ] at e
      rcases List.mem_append.mp (List.mem_of_getElem? e) with h | h
      · obtain ⟨_, _, h⟩ := List.mem_map.mp h
        cases h
      · cases (List.mem_replicate.mp h).2
  refine ⟨by simp [L2.start, hl], fun i d e => ?_, fun i o e => ?_, fun i j oi oj a e1 e2 _ _ => ?_, fun zi e => ?_⟩
  · cases i with
    | zero => cases e
    | succ i =>
      rw [List.getElem?_cons_succ] at e
      by_cases hi : i < ds.length
      · rw [List.getElem?_append_left (by simpa using hi), List.getElem?_map] at e
        cases q : ds[i]? with
        | none => rw [q] at e; cases e
        | some d' =>
          rw [q] at e
          cases e
          obtain ⟨v, ev, hv⟩ := h.get q
          refine ⟨v, ?_, hv⟩
          unfold L2.start
          rw [List.getElem?_append_left (by simp [hl, hi]), List.getElem?_map, List.getElem?_cons_succ, ev]
          rfl
      · rw [List.getElem?_append_right (by simpa using hi)] at e
        cases (List.mem_replicate.mp (List.mem_of_getElem? e)).2
  · obtain ⟨rfl, rfl⟩ := one i o e
    exact ⟨x, rfl, g1, a1, C, dx, [], hm, upd_same, rfl, .nil⟩
  · rw [(one i oi e1).1, (one j oj e2).1]
  · cases e
    exact ⟨rfl, rfl⟩
/-- what stands in slot 0 behind `__init__` -/
theorem end_go {x : Addr} {c : Str} {d : D} {R' : R D} (s : StS K mg (some ⟨0, x, none, []⟩) w0 w σ H ρ S) (e : endI c ρ S = some (R', S')) : S' = S ∧ ∃ fs w', R' = .ok (.ins c fs) ∧ Le w w' ∧ Stp w0.w w' w0.h H ∧ At K mg w' H S ∧ Dt K mg w' (.ref x) (.ins c fs) := by
  unfold endI at e
  split at e
  · rename_i c' fs q
    split at e
    · rename_i ec
      subst ec
      cases e
      obtain ⟨w', le, s'⟩ := s.freeze (i := 0)
      have hr : frz1 0 ρ = ρ.set 0 (.d (.ins c' fs)) := by unfold frz1; rw [q]; rfl
      have h0 : (frz1 0 ρ)[0]? = some (Sv.d (.ins c' fs)) := by
        rw [hr]
        exact List.getElem?_set_self (List.getElem?_eq_some_iff.mp q).1
      obtain ⟨v, e1, hd⟩ := s'.s.dat 0 _ h0
      obtain ⟨e2, _⟩ := s'.s.exc _ rfl
      rw [e2] at e1
      cases e1
      exact ⟨rfl, fs, w', rfl, le, s'.st, s'.t, hd⟩
    · cases e
  · cases e
section
variable {P : Program} {wo : World} {base : Heap}
theorem fnI {k : Nat} {f : Addr} {x q c : Str} {fd : FuncData} {N : List Str} {p0 : Str} {ps : List Str} {body : SM}
    (F : Fun K x q st f fd) (Sc : FnScope N (p0 :: ps) (defScope st))
    (hb : ∀ (cdv : Value) (A : Around) (out : List Env) (s : Shared) (H : Hp) (E : XK) (w0 : W0) (a : Addr), Quiet A → Room k (A.deeper (envOfC q (defScope st) s.heap.objs.size f cdv)) →
      PDSs (cxOf (L2.CX P wo) P wo K mg base N q (defScope st) f cdv A out s H E) (WE0 E) (some ⟨0, a, none, []⟩) w0 (defBody st) body) :
    FnG P wo K mg base (L2.CX P wo) (k + 1) f fd (p0 :: ps) (spI K mg c ps.length (runI c N.length body)) := by
  refine fnG F Sc (fun vs H Q E h => ?_) fun cdv A out s H vs Q E qa hr h => ?_
  · obtain ⟨x, dx, C, H0, w, S, vs', ds, rfl, _, _, _, _, _, _, hd, hl, _⟩ := h
    simp [hd.length, hl]
  · obtain ⟨x, dx, C, H0, w, S, vs', ds, rfl, hm, rfl, hx, hdx, hne, t, hd, hl, r, S', e, k1, k2⟩ := h
    refine ⟨_, hb cdv A out s _ E ⟨w, H0⟩ x qa hr, ?_⟩
    obtain ⟨t1, x1, g1, a1⟩ := new_at t hx hdx hne hm
    have sl := new_sl (N := N) t hd hx hdx hne hm
    unfold runI at e
    have st0 : StS K mg (some ⟨0, x, none, []⟩) ⟨w, H0⟩ w (L2.start N (V.ref x :: vs')) (L2.upd (L2.upd H0 dx (.own x)) x (.ins C dx [])) (Sv.m (.ins c []) :: (ds.map Sv.d ++ List.replicate (N.length - (ds.length + 1)) .un)) S := by
      refine ⟨t1, sl, fun i o a e1 e2 => ?_, x1⟩
      obtain ⟨b, f1, f2, f3, f4⟩ := sl.mt i o e1
      rw [f1] at e2
      cases e2
      cases i with
      | zero => cases f1; exact hx
      | succ i =>
        exfalso
        rw [List.getElem?_cons_succ] at e1
        rcases List.mem_append.mp (List.mem_of_getElem? e1) with h | h
        · obtain ⟨_, _, h⟩ := List.mem_map.mp h
          cases h
        · cases (List.mem_replicate.mp h).2
    cases q2 : body (Sv.m (.ins c []) :: (ds.map Sv.d ++ List.replicate (N.length - (ds.length + 1)) .un)) S with
    | none => rw [q2] at e; cases e
    | some y =>
      obtain ⟨fl, ρ1, S1⟩ := y
      rw [q2] at e
      refine ⟨_, _, S, st0, fl, ρ1, S1, q2, ?_⟩
      cases fl with
      | nx =>
        intro σ' H' w' l s'
        obtain ⟨rfl, fs, w2, rfl, _, st2, t2, d2⟩ := end_go (d := .non) s' e
        exact k1 _ rfl H' w2 st2 t2 d2
      | rt d =>
        cases d <;> first | (cases e; done) | skip
        intro v σ' H' w' l s' hd'
        obtain ⟨rfl, fs, w2, rfl, _, st2, t2, d2⟩ := end_go (d := .non) s' e
        cases hd'
        exact k1 _ rfl H' w2 st2 t2 d2
      | er c fs =>
        cases e
        exact fun σ' H' w' cls dx l s' x => k2 c fs rfl H' w' cls dx s'.st s'.t x
      | bk => cases e
      | ct => cases e
end
end
end Pd

/-! C(e, ..), C(k = v, ..) of own classes. -/
namespace Pd
open PySem L2 Evl Hg
open PySem.Spec PyProof.Rows
section
variable {X : Cx} {W : WX} {z : Option Zi} {w0 : W0} {w w' w1 : Wd} {σ : L2.St} {H H' H1 : Hp} {ρ ρ' : Rho} {S S' S1 : Sto} {K : PySem.W.Frag} {mg : Str → Option Value} {Dn : Ends}
variable {e a b o value : Expr} {es : List Expr} {pos pos' apos cpos p : Pos} {me ma mb mo mk mv : M D} {ms : M (List D)} {st : Stmt} {m : SM}
variable {CX : CXT} {k j n : Nat} {f C : Addr} {fd : FuncData} {ps ks : List Str} {sp : Sp} {E : L2.St → XK} {x c : Str} {kws : List Keyword} {t tk : TA} {F : List D → Sto → Option (R D × Sto)}
theorem Quiet.make {A : Around} (g : Quiet A) (C : Addr) (us : List Value) (kw : List (Str × Value)) : Quiet (A.under (.builtin "type.__call__" ⟨.ref C :: us, kw⟩)) := g
/-- what a new instance asks -/
def AskN (C : Addr) (sp : Sp) (E : XK) (Q : VK) (vs : List V) (H : Hp) : Prop := ∀ x dx, H x = none → H dx = none → dx ≠ x → sp (.ref x :: vs) (upd (upd H dx (.own x)) x (.ins C dx [])) (fun v H2 => v = .non ∧ Q (.ref x) H2) E
theorem run_mkG {pins : List (Addr × Obj)} {s : Shared} {Q : VK} {us zs : List Value} {vs : List V} {kw : List (Str × Value)} (M : Mk X.K C f) (F : FnG X.prog X.w X.K X.mg X.base CX k f fd ps sp) (g : Quiet X.A) (hr : Room (k + 1) X.A) (hx : PassesAt CX X σ (E σ))
    (hb : ∀ (s : Shared) (y : Value), X.K.In s.heap → BindsTo s fd ⟨y :: us, kw⟩ (ps.zip (y :: zs))) (I : Inv X pins σ H s) (r : Vals vs zs) (h : AskN C sp (E σ) Q vs H) :
    wpAny (model X.prog X.w) X.A (call (.ref C) us kw) (EP X pins σ Q) X.xe s := by
  have hq := h (s.heap.objs.size + 1) s.heap.objs.size (I.hok.fresh (Nat.le_succ _)) (I.hok.fresh (Nat.le_refl _)) (Nat.ne_of_lt (Nat.lt_succ_self _))
  have I2 := Inv.made (C := C) I
  have r2 : Vals (V.ref (s.heap.objs.size + 1) :: vs) (Value.ref (s.heap.objs.size + 1) :: zs) := .cons rfl r
  refine wpAny_call (make_map (f := f) I.kIn M.makes M.init (beq_iff_eq.mp M.fn) (codeAny_mono (F.go _ X.stack _ _ ⟨Value.ref (s.heap.objs.size + 1) :: us, kw⟩ (Value.ref (s.heap.objs.size + 1) :: zs) _ _ (E σ) (Quiet.make g C us kw) (hr.make C us kw)
    (I2.env0.make C us kw) (hb _ _ I2.kIn) r2 hq) fun r s' hq' => ?_))
  cases r with
  | error e => exact hx pins _ _ e s' I2 hq'
  | ok fl =>
    cases fl with
    | ret u =>
      obtain ⟨v, H', I3, rv, ev, q3⟩ := I2.after hq'
      subst ev
      exact ⟨rv, ⟨V.ref (s.heap.objs.size + 1), H', I3, rfl, q3⟩⟩
    | next => exact False.elim hq'
    | brk => exact False.elim hq'
    | cont => exact False.elim hq'
/-- a class of the module that may be called by its name -/
structure MkG (P : Program) (w : World) (K : PySem.W.Frag) (mg : Str → Option Value) (base : Heap) (CX : CXT) (k : Nat) (c : Str) (ps : List Str) (sp : Sp) : Prop where
  ex : ∃ (C f : Addr) (fd : FuncData) (p0 : Str), Mk K C f ∧ FnG P w K mg base CX k f fd (p0 :: ps) sp ∧ mg c = some (.ref C) ∧ Binds K fd (p0 :: ps) [] ∧ True
theorem pe_mkG (hc : MkG X.prog X.w X.K X.mg X.base CX k c ps sp) (g : Quiet X.A) (hr : Room (j + 1) X.A) (hk : k ≤ j) (hg : Gl X c) (hx : ∀ σ, PassesAt CX X σ (E σ)) (ha : PA X (e :: es) t)
    (hdb : (c == ("__debug__" : Str)) = false := by decide) (he : starEach (e :: es) X.env = (false, eval e X.env) :: starEach es X.env := by rfl) (hpl : (backTo pos (starEach es X.env)).any (·.1) = false := by rfl) :
    PE X (.Call (.Name c p) (e :: es) [] pos) (fun σ H Q => t σ H fun vs H1 => vs.length = ps.length ∧ ∃ C, X.mg c = some (.ref C) ∧ AskN C sp (E σ) Q vs H1) := by
  obtain ⟨C, f, fd, p0, M, F, hm, b, _⟩ := hc.ex
  refine ⟨fun pins s σ H Q I h => wpAny_Call_Name_kw (ld_glob I hg hm ?_ hdb)⟩
  refine PySem.W.callWith_K (h₀ := X.base) I.ok.mod.kin M.kp (thn (ha.run pos pins s σ H _ I h) ?_) he hpl
  rintro us s1 ⟨vs, H1, I1, r, hl, C2, hm2, q⟩
  rw [hm] at hm2
  cases hm2
  refine ⟨I1.kIn, run_mkG (zs := us) M F g (hr.mono (Nat.succ_le_succ hk)) (hx σ) (fun s y hK => ?_) I1 r q⟩
  have := b s (y :: us) hK (by simp [← r.length, hl])
  rw [List.append_nil] at this
  exact this
def pick {α : Type} : List Nat → List α → List α
  | [], _ => []
  | i :: r, l => match l[i]? with
    | some a => a :: pick r l
    | none => pick r l
theorem pick_dt {vs : List V} {ds : List D} (h : DtA K mg w vs ds) : ∀ pm : List Nat, DtA K mg w (pick pm vs) (pick pm ds)
  | [] => .nil
  | i :: r => by
    have ih := pick_dt h r
    simp only [pick]
    cases q : ds[i]? with
    | none =>
      have : vs[i]? = none := by
        rw [List.getElem?_eq_none_iff] at q ⊢
        rw [h.length]
        exact q
      rw [this]
      exact ih
    | some d =>
      obtain ⟨v, e, hv⟩ := h.get q
      rw [e]
      exact .cons hv ih
theorem vals_get : ∀ {vs : List V} {us : List Value} (i : Nat), Vals vs us → (∃ v u, vs[i]? = some v ∧ us[i]? = some u ∧ RelV v u) ∨ (vs[i]? = none ∧ us[i]? = none)
  | _, _, _, .nil => .inr ⟨rfl, rfl⟩
  | _, _, 0, .cons h _ => .inl ⟨_, _, rfl, rfl, h⟩
  | _, _, i + 1, .cons _ hs => by simpa using vals_get i hs
theorem pick_vals {vs : List V} {us : List Value} (h : Vals vs us) : ∀ pm : List Nat, Vals (pick pm vs) (pick pm us)
  | [] => .nil
  | i :: r => by
    have ih := pick_vals h r
    simp only [pick]
    rcases vals_get i h with ⟨v, u, e1, e2, hr⟩ | ⟨e1, e2⟩
    · rw [e1, e2]; exact .cons hr ih
    · rw [e1, e2]; exact ih
/-- .. and all by keywords ks; pm: where each parameter's value stands among them -/
structure MkK (P : Program) (w : World) (K : PySem.W.Frag) (mg : Str → Option Value) (base : Heap) (CX : CXT) (k : Nat) (c : Str) (ps ks : List Str) (pm : List Nat) (sp : Sp) : Prop where
  ex : ∃ (C f : Addr) (fd : FuncData) (p0 : Str), Mk K C f ∧ FnG P w K mg base CX k f fd (p0 :: ps) sp ∧ mg c = some (.ref C) ∧ ∀ (s : Shared) (y : Value) (ws : List Value), K.In s.heap → ws.length = ks.length → BindsTo s fd ⟨[y], ks.zip ws⟩ ((p0 :: ps).zip (y :: pick pm ws))
theorem pe_mkK {pm : List Nat} (hc : MkK X.prog X.w X.K X.mg X.base CX k c ps ks pm sp) (g : Quiet X.A) (hr : Room (j + 1) X.A) (hk : k ≤ j) (hg : Gl X c) (hx : ∀ σ, PassesAt CX X σ (E σ)) (hkw : PK X kws tk)
    (hall : (backToKw pos (keywordEach kws X.env)).all (·.1.isSome) = true := by rfl) (hks : (backToKw pos (keywordEach kws X.env)).filterMap (·.1) = ks := by rfl) (hdb : (c == ("__debug__" : Str)) = false := by decide)
    (hpl : ((backTo pos (starEach [] X.env)).any (·.1) || (backToKw pos (keywordEach kws X.env)).any (·.1.isNone)) = false := by rfl) :
    PE X (.Call (.Name c p) [] kws pos) (fun σ H Q => tk σ H fun zs H1 => zs.length = ks.length ∧ ∃ C, X.mg c = some (.ref C) ∧ AskN C sp (E σ) Q (pick pm zs) H1) := by
  obtain ⟨C, f, fd, p0, M, F, hm, b⟩ := hc.ex
  refine ⟨fun pins s σ H Q I h => ?_⟩
  refine wpAny_Call_Name_kw (ld_glob I hg hm ?_ hdb)
  refine PySem.W.callWith_KW0 (h₀ := X.base) I.ok.mod.kin M.kp hall ?_ hpl
  refine thn (hkw.run pos pins s σ H _ I h) fun ws s2 ⟨zs, H2, I2, rz, hl, C2, hm2, q⟩ => ⟨I2.kIn, ?_⟩
  rw [hm] at hm2
  cases hm2
  rw [hks]
  exact run_mkG (us := []) (zs := pick pm ws) M F g (hr.mono (Nat.succ_le_succ hk)) (hx σ) (fun s y hK => b s y ws hK (by rw [← rz.length, hl])) I2 (pick_vals rz pm) q
/-! ### on data -/
abbrev PDK (X : Cx) (W : WX) (z : Option Zi) (kws : List Keyword) (m : M (List D)) : Prop := PK X kws (tA X.K X.mg W z m)
theorem pk_mono {t t' : TA} (h : PK X kws t) (k : ∀ σ H Q, t' σ H Q → t σ H Q) : PK X kws t' := ⟨fun p pins s σ H Q I w => h.run p pins s σ H Q I (k σ H Q w)⟩
def m_callK (n : Nat) (pm : List Nat) (F : List D → Sto → Option (R D × Sto)) (ms : M (List D)) : M D := ms.bind fun ds _ S => if ds.all fixed = true ∧ ds.length = n then F (pick pm ds) S else none
theorem ask_go {vs : List V} {ds : List D} {r : R D} {Q : VK} {E : XK} (hm : mg c = some (.ref C)) (t : At K mg w H S) (hd : DtA K mg w vs ds) (hl : ds.length = n) (e : F ds S = some (r, S'))
    (k1 : ∀ d, r = .ok d → ∀ v H' w', Stp w w' H H' → At K mg w' H' S' → Dt K mg w' v d → Q v H') (k2 : ∀ c fs, r = .er c fs → ∀ H' w' cls dx, Stp w w' H H' → At K mg w' H' S' → Xr K mg w' cls dx c fs → E cls dx H') :
    AskN C (spI K mg c n F) E Q vs H := by
  intro x dx hx hdx hne
  exact ⟨x, dx, C, H, w, S, vs, ds, rfl, hm, rfl, hx, hdx, hne, t, hd, hl, r, S', e, fun d hr H' w' st t' hd' => ⟨rfl, k1 d hr _ H' w' st t' hd'⟩, k2⟩
theorem mk_go {Q : VK} (hm : mg c = some (.ref C)) (h : tD K mg W z (m_call n F ms) σ H Q) : tA K mg W z ms σ H fun vs H1 => vs.length = n ∧ ∃ C, mg c = some (.ref C) ∧ AskN C (spI K mg c n F) (WE W σ) Q vs H1 := by
  obtain ⟨w, ρ, S, h⟩ := h
  refine ⟨w, ρ, S, h.bind (rel1 := relA K mg σ ρ) fun ds vs w1 H1 S1 st rds h1 => ?_⟩
  obtain ⟨t1, s1, r, S', e, p⟩ := h1
  split at e
  · rename_i cc
    have hd := rds.fix cc.1
    refine ⟨by rw [hd.length]; exact cc.2, C, hm, ask_go hm t1 hd cc.2 e (fun d hr v H' w' st' t' hv => ?_) fun c fs hr H' w' cls dx st' t' x => ?_⟩
    · subst hr
      exact p v H' w' st' t' (.inl hv)
    · subst hr
      exact p H' w' cls dx st' t' x
  · cases e
theorem mkK_go {pm : List Nat} {q : Nat} {Q : VK} (hpm : ∀ ds : List D, ds.length = q → (pick pm ds).length = n) (hm : mg c = some (.ref C)) (h : tD K mg W z (m_callK q pm F ms) σ H Q) : tA K mg W z ms σ H fun zs H1 => zs.length = q ∧ ∃ C, mg c = some (.ref C) ∧ AskN C (spI K mg c n F) (WE W σ) Q (pick pm zs) H1 := by
  obtain ⟨w, ρ, S, h⟩ := h
  refine ⟨w, ρ, S, h.bind (rel1 := relA K mg σ ρ) fun ds vs w1 H1 S1 st rds h1 => ?_⟩
  obtain ⟨t1, s1, r, S', e, p⟩ := h1
  split at e
  · rename_i cc
    have hd := rds.fix cc.1
    refine ⟨by rw [hd.length]; exact cc.2, C, hm, ask_go hm t1 (pick_dt hd pm) (hpm ds cc.2) e (fun d hr v H' w' st' t' hv => ?_) fun c fs hr H' w' cls dx st' t' x => ?_⟩
    · subst hr
      exact p v H' w' st' t' (.inl hv)
    · subst hr
      exact p H' w' cls dx st' t' x
  · cases e
theorem pd_make (hc : MkG X.prog X.w X.K X.mg X.base (L2.CX X.prog X.w) k c ps (spI X.K X.mg c n F)) (hn : ps.length = n) (g : Quiet X.A) (hr : Room (j + 1) X.A) (hk : k ≤ j) (hg : Gl X c) (tk : Takes X W) (ha : PDA X W z (e :: es) ms)
    (hdb : (c == ("__debug__" : Str)) = false := by decide) (he : starEach (e :: es) X.env = (false, eval e X.env) :: starEach es X.env := by rfl) (hpl : (backTo pos (starEach es X.env)).any (·.1) = false := by rfl) :
    PD X W z (.Call (.Name c p) (e :: es) [] pos) (m_call n F ms) :=
  pe_mono (pe_mkG (E := WE W) hc g hr hk hg (fun σ => passAt tk σ) ha hdb he hpl) fun σ H Q h => by
    obtain ⟨C, f, fd, p0, M, F, hm, b, _⟩ := hc.ex
    rw [hn]
    exact mk_go hm h
theorem pd_makeK {pm : List Nat} (hc : MkK X.prog X.w X.K X.mg X.base (L2.CX X.prog X.w) k c ps ks pm (spI X.K X.mg c n F)) (hpm : ∀ ds : List D, ds.length = ks.length → (pick pm ds).length = n) (g : Quiet X.A) (hr : Room (j + 1) X.A) (hk : k ≤ j) (hg : Gl X c) (tk : Takes X W) (hkw : PDK X W z kws ms)
    (hall : (backToKw pos (keywordEach kws X.env)).all (·.1.isSome) = true := by rfl) (hks : (backToKw pos (keywordEach kws X.env)).filterMap (·.1) = ks := by rfl) (hdb : (c == ("__debug__" : Str)) = false := by decide)
    (hpl : ((backTo pos (starEach [] X.env)).any (·.1) || (backToKw pos (keywordEach kws X.env)).any (·.1.isNone)) = false := by rfl) :
    PD X W z (.Call (.Name c p) [] kws pos) (m_callK ks.length pm F ms) :=
  pe_mono (pe_mkK (E := WE W) hc g hr hk hg (fun σ => passAt tk σ) hkw hall hks hdb hpl) fun σ H Q h => by
    obtain ⟨C, f, fd, p0, M, F, hm, b⟩ := hc.ex
    exact mkK_go hpm hm h
end
end Pd

/-! == and != by an own `__eq__`, whatever stands on the right. -/
namespace PySem.W
open PySem PySem.Spec PySem.Calls PyProof.Rows Builtin
section
variable {prog : Program} {w : World} {A : Around} {E : Value → Shared → Prop} {s : Shared} {K : Frag} {x C L f : Addr} {h₀ : Heap} {m : Str → Option Value} {ox : Obj} {od : Option Obj} {name : Str} {b tb : Value}
theorem ifBound_B {M : Model} {id : String} {args : List Value} {Q : Option Value → Shared → Prop} (X : K.In s.heap) (I : InstAt s.heap x ox C od) (hs : findIn K (.ref C) name = some (some (.builtin id))) (hb : ∀ self, bindSpecial (.builtin id) self = pure (.builtin id, [self]))
    (h : wpAny M A (call (.builtin id) (.ref x :: args)) (fun v => Q (some v)) E s) : wpAny M A (callSpecialIfBound? (.ref x) name args) Q E s := by
  simp only [callSpecialIfBound?, bindSpecialIfBound?]
  refine wpAny_holding (wpAny_bind (wpAny_bind (wpAny_bind (I.type.here ((looks_findIn X hs).here ?_)))))
  simp only [hb]
  refine wpAny_bind (wpAny_askSetting (wpAny_ite ?_))
  have fin : wpAny M A (call (.builtin id) ([.ref x] ++ args) >>= fun v => pure (some v)) Q E s := wpAny_bind (wpAny_mono h (fun v s' h' => wpAny_pure h') fun _ _ h' => h')
  split
  · exact wpAny_bind (wpAny_pure (wpAny_pure (by exact fin)))
  · exact wpAny_tryCatch (wpAny_bind (wpAny_pure (wpAny_pure (by exact fin))))
theorem ne_entryK (X : K.In s.heap) (I : InstAt s.heap x ox C od) (he : findIn K (.ref C) "__eq__" = some (some (.ref f))) (hf : isFn K (.ref f) = true) (hu : A.units < cLine) {Q : Fin → Shared → Prop}
    (hcall : wpAny (model prog w) A (call (.ref f) [.ref x, b]) (fun v s' => ∃ k, v = .bool k ∧ Q (.done (.ret (.bool (!k)))) s') E s) :
    wpAny (model prog w) A (Builtin.«object.__ne__» ⟨[.ref x, b], []⟩) Q E s := by
  have hcb : wpAny (model prog w) A (callSpecialIfBound? (.ref x) (Str.ofString "__eq__") [b]) (fun r s' => ∃ k, r = some (.bool k) ∧ Q (.done (.ret (.bool (!k)))) s') E s :=
    ifBound_K X I he hf (wpAny_mono hcall (fun v s' hv => by obtain ⟨k, rfl, q⟩ := hv; exact ⟨k, rfl, q⟩) fun _ _ e => e)
  obtain ⟨hp, g, d, t, os⟩ := s
  unfold Builtin.«object.__ne__»
  repeat (first
    | with_reducible refine wpAny_cRoomFor hu ?_
    | (refine wpAny_bind (m := callSpecialIfBound? (.ref x) (Str.ofString "__eq__") [b]) (wpAny_mono hcb (fun r s' hr => by
          obtain ⟨k, rfl, hq⟩ := hr
          repeat (first | exact hq | exact wpAny_pure hq | exact wpAny_truthy_bool hq | (refine wpAny_bind (m := truthy (.bool _)) (wpAny_truthy_bool ?_)) | wp_step)) fun _ _ e => e))
    | wp_step)
theorem ne_K {Q : Value → Shared → Prop} (hu : A.units + 1 < cLine) (FR : Fr h₀ L s.heap m) (X₀ : K.In h₀) (I : InstAt s.heap x ox C od) (hb : Looks (model prog w) s.heap (typeOf b) tb) (hn : notFirst K C tb = true)
    (hne : findIn K (.ref C) "__ne__" = some (some (.builtin "object.__ne__"))) (he : findIn K (.ref C) "__eq__" = some (some (.ref f))) (hf : isFn K (.ref f) = true) (hsub : subIn K (.ref C) (.type "object") = some true)
    (h : wpAny (model prog w) A.in1 (call (.ref f) [.ref x, b]) (fun v s' => ∃ k, v = .bool k ∧ Q (.bool (!k)) s') E s) : wpAny (model prog w) A (richCompare .NotEq (.ref x) b) Q E s := by
  have X := X₀.keeps FR.keep
  have one : wpAny (model prog w) A (tryCompare (.ref x) "__ne__" b) (fun r s' => ∃ v, r = some v ∧ Q v s') E s := by
    simp only [tryCompare]
    have L0 := I.type (M := model prog w)
    have sub : Looks (model prog w) s.heap (isInstance (.ref x) (.type "object")) true := L0.andThen (looks_subIn X hsub)
    refine wpAny_bind (ifBound_B X I hne (F.cmp_object.ne.bind) (wpAny_call (codeAny_call_builtin F.cmp_object.ne.plain F.cmpEntry_ne
      (check_slot F.cmpKind_ne F.cmpSplit_ne sub (F.cmpArgs_ne _ _) (ne_entryK (A := A.in1) X I he hf hu (wpAny_mono h (fun v s' hv => ?_) fun _ _ e => e))))))
    obtain ⟨k, rfl, hq⟩ := hv
    first | exact ⟨k, rfl, wpAny_pure ⟨_, rfl, hq⟩⟩ | exact ⟨k, rfl, wpAny_pure (wpAny_pure ⟨_, rfl, hq⟩)⟩
  unfold richCompare
  simp only [oneThing_ref]
  refine wpAny_holding (wpAny_bind (wpAny_cRoomFor (Nat.lt_of_succ_lt hu) ?_))
  rw [cmpInfo_NotEq]
  dsimp only
  refine wpAny_bind (I.type.here (wpAny_bind (hb.here ?_)))
  split
  · rename_i q
    have e : subIn K tb (.ref C) = some false := by
      rcases Bool.or_eq_true_iff.mp hn with e | e
      · rw [beq_iff_eq.mp e] at q; simp at q
      · exact beq_iff_eq.mp e
    refine wpAny_bind ((looks_subIn X e).here ?_)
    simp only [Bool.false_eq_true, if_false]
    refine wpAny_bind (wpAny_mono one (fun r s' z => ?_) fun _ _ e => e)
    obtain ⟨v, rfl, hq⟩ := z
    exact wpAny_pure hq
  · refine wpAny_bind (wpAny_pure ?_)
    simp only [Bool.false_eq_true, if_false]
    refine wpAny_bind (wpAny_mono one (fun r s' z => ?_) fun _ _ e => e)
    obtain ⟨v, rfl, hq⟩ := z
    exact wpAny_pure hq
end
end PySem.W

namespace Pd
open PySem L2 Evl Hg
open PySem.Spec PyProof.Rows
section
variable {X : Cx} {W : WX} {z : Option Zi} {w0 : W0} {w w' w1 : Wd} {σ : L2.St} {H H' H1 : Hp} {ρ ρ' : Rho} {S S' S1 : Sto} {K : PySem.W.Frag} {mg : Str → Option Value} {Dn : Ends}
variable {e a b o value : Expr} {es : List Expr} {pos pos' apos cpos p : Pos} {me ma mb mo mk mv : M D} {ms : M (List D)} {st : Stmt} {m : SM}
variable {CX : CXT} {k j n : Nat} {f C : Addr} {fd : FuncData} {ps ks : List Str} {sp : Sp} {E : XK} {x c : Str} {F : List D → Sto → Option (R D × Sto)}
theorem Quiet.in1 {A : Around} (g : Quiet A) : Quiet A.in1 := g
/-- a call below the running body -/
theorem run_below {A : Around} {pins : List (Addr × Obj)} {s : Shared} {Q : VK} {us : List Value} {vs : List V} (hA : A.frames = X.A.frames) (F : FnG X.prog X.w X.K X.mg X.base CX k f fd ps sp) (g : Quiet A) (hr : Room k A) (hb : Binds X.K fd ps []) (hx : Passes CX X E)
    (I : Inv X pins σ H s) (r : Vals vs us) (h : sp vs H Q E) : wpAny (model X.prog X.w) A (call (.ref f) us) (EP X pins σ Q) X.xe s := by
  have hl : (us ++ []).length = ps.length := by rw [List.append_nil, ← r.length]; exact F.len vs H Q E h
  have b := hb s us I.kIn hl
  rw [List.append_nil] at b
  have e0 : Env0 X.prog X.w X.K X.mg X.base A X.stack s H := by
    have e := I.env0
    exact ⟨by rw [hA]; exact e.frames, e.mod, e.bs, e.bsz, e.funs, e.frf, e.hok, e.bare⟩
  refine wpAny_call (codeAny_mono (F.go A X.stack s H ⟨us, []⟩ us vs Q E g hr e0 b r h) ?_)
  intro res s' hq
  match res, hq with
  | .error er, hq => exact hx pins σ H s er s' I hq
  | .ok (.ret u), hq => exact I.after hq
  | .ok .next, hq => exact hq.elim
  | .ok .brk, hq => exact hq.elim
  | .ok .cont, hq => exact hq.elim
/-- a class with an own `__eq__` -/
structure OwnQ (P : Program) (w : World) (K : PySem.W.Frag) (mg : Str → Option Value) (base : Heap) (CX : CXT) (k : Nat) (c : Str) (sp : Sp) : Prop where
  ex : ∃ (C f : Addr) (fd : FuncData) (ps : List Str), FnG P w K mg base CX k f fd ps sp ∧ mg c = some (.ref C) ∧ Binds K fd ps [] ∧ PySem.W.findIn K (.ref C) "__eq__" = some (some (.ref f)) ∧ PySem.W.isFn K (.ref f) = true
  ne : ∀ C, mg c = some (.ref C) → PySem.W.findIn K (.ref C) "__ne__" = some (some (.builtin "object.__ne__")) ∧ PySem.W.subIn K (.ref C) (.type "object") = some true
/-- on values -/
def rOwn (X : Cx) (c : Str) (sp : Sp) (ng : Bool → Bool) : R2 := fun x y H Q => ∃ (a C dx : Addr) (fs : List (Str × V)) (t : Value), x = .ref a ∧ X.mg c = some (.ref C) ∧ H a = some (.ins C dx fs) ∧ TyX X.K H y t ∧ PySem.W.notFirst X.K C t = true ∧
  sp [.ref a, y] H (fun v H' => ∃ b, v = .bl b ∧ Q (.bl (ng b)) H') (fun _ _ _ => False)
theorem op_own (ho : OwnQ X.prog X.w X.K X.mg X.base CX k c sp) (g : Quiet X.A) (hr : Room j X.A) (hk : k ≤ j) (hx : Passes CX X (fun _ _ _ => False)) : OpR X (compareOp .Eq) (rOwn X c sp fun b => b) := by
  intro pins s σ H x y v u Q I rx ry hq
  obtain ⟨a, C, dx, fs, t, rfl, hm, ha, ty, hn, h⟩ := hq
  obtain ⟨C2, f, fd, ps, F, hm2, hb, he, hf⟩ := ho.ex
  rw [hm] at hm2
  cases hm2
  obtain rfl : v = Value.ref a := rx
  obtain ⟨P, kt, hp, _⟩ := kit_of I ry ty
  obtain ⟨mA, J, _⟩ := ins_get I.hok ha
  obtain ⟨od, J, _⟩ := J.look
  obtain ⟨m, hF⟩ := I.fr
  show wpAny (model X.prog X.w) X.A (richCompare .Eq (.ref a) u) (EP X pins σ Q) X.xe s
  refine PySem.W.cmp_K (op := .Eq) (tb := t) hr.units0 hF I.ok.mod.kin J (kt.ty _ _ I.kIn hp) hn he hf ?_
  refine wpAny_mono (run_below (us := [.ref a, u]) (vs := [.ref a, y]) rfl F g (hr.mono hk) hb hx I (.cons rfl (.cons ry .nil)) h) (fun r s' q => ?_) fun _ _ e => e
  obtain ⟨v, H', I', rv, b, rfl, q⟩ := q
  cases rv
  exact ⟨.bl b, H', I', rfl, q⟩
theorem op_ownN (ho : OwnQ X.prog X.w X.K X.mg X.base CX k c sp) (g : Quiet X.A) (hr : Room (j + 1) X.A) (hk : k ≤ j) (hx : Passes CX X (fun _ _ _ => False)) : OpR X (compareOp .NotEq) (rOwn X c sp fun b => !b) := by
  intro pins s σ H x y v u Q I rx ry hq
  obtain ⟨a, C, dx, fs, t, rfl, hm, ha, ty, hn, h⟩ := hq
  obtain ⟨C2, f, fd, ps, F, hm2, hb, he, hf⟩ := ho.ex
  rw [hm] at hm2
  cases hm2
  obtain ⟨hne, hsub⟩ := ho.ne C hm
  obtain rfl : v = Value.ref a := rx
  obtain ⟨P, kt, hp, _⟩ := kit_of I ry ty
  obtain ⟨mA, J, _⟩ := ins_get I.hok ha
  obtain ⟨od, J, _⟩ := J.look
  obtain ⟨m, hF⟩ := I.fr
  show wpAny (model X.prog X.w) X.A (richCompare .NotEq (.ref a) u) (EP X pins σ Q) X.xe s
  refine PySem.W.ne_K (tb := t) (by have := hr.un; omega) hF I.ok.mod.kin J (kt.ty _ _ I.kIn hp) hn hne he hf hsub ?_
  refine wpAny_mono (run_below (A := X.A.in1) (us := [.ref a, u]) (vs := [.ref a, y]) rfl F (Quiet.in1 g) (hr.in1.mono hk) hb hx I (.cons rfl (.cons ry .nil)) h) (fun r s' q => ?_) fun _ _ e => e
  obtain ⟨v, H', I', rv, b, rfl, q⟩ := q
  cases rv
  exact ⟨b, rfl, .bl (!b), H', I', rfl, q⟩
end
end Pd

/-! == and != of own classes, on data; isinstance of own classes; len by an own `__len__`; methods. -/
namespace Pd
open PySem L2 Evl Hg
open PySem.Spec PyProof.Rows
section
variable {X : Cx} {W : WX} {z : Option Zi} {w0 : W0} {w w' w1 : Wd} {σ : L2.St} {H H' H1 : Hp} {ρ ρ' : Rho} {S S' S1 : Sto} {K : PySem.W.Frag} {mg : Str → Option Value} {Dn : Ends}
variable {e a b o value : Expr} {es : List Expr} {pos pos' apos cpos p : Pos} {me ma mb mo mk mv : M D} {ms : M (List D)} {st : Stmt} {m : SM}
variable {CX : CXT} {k j n : Nat} {f C : Addr} {fd : FuncData} {ps ks cs : List Str} {sp : Sp} {E : XK} {x c : Str} {F : List D → Sto → Option (R D × Sto)}
abbrev tyNs : List String := ["NoneType", "bool", "int", "str", "tuple", "list", "dict"]
theorem tyN_mem {d : D} {n : String} (e : tyN d = some n) : n ∈ tyNs := by
  cases d <;> first | (exfalso; simp [tyN] at e; done) | (cases e; simp)
/-- what the own classes of the text must have -/
structure Clss (K : PySem.W.Frag) (mg : Str → Option Value) (cs : List Str) : Prop where
  ins : ∀ c ∈ cs, ∀ C, mg c = some (.ref C) → C8.InsC K C
  ty : ∀ c ∈ cs, ∀ C, mg c = some (.ref C) → ∀ n ∈ tyNs, PySem.W.notFirst K C (.type n) = true ∧ PySem.W.kitOne K (.type n) (.ref C) = some false
  own : ∀ c ∈ cs, ∀ C, mg c = some (.ref C) → ∀ c' ∈ cs, ∀ C', mg c' = some (.ref C') → PySem.W.notFirst K C (.ref C') = true ∧ PySem.W.kitOne K (.ref C') (.ref C) = some (decide (c' = c))
def insIn (cs : List Str) : D → Bool
  | .ins c _ => decide (c ∈ cs)
  | _ => false
def tyOk (cs : List Str) (d : D) : Bool := (tyN d).isSome || insIn cs d
theorem ty_any {v : V} {d : D} (T : Clss K mg cs) (s : Ex w.G H) (h : Rs K mg w H v d) (e : tyOk cs d = true) : ∃ t, TyX K H v t ∧ ((∃ n, tyN d = some n ∧ t = .type n) ∨ ∃ c C fs, d = .ins c fs ∧ c ∈ cs ∧ mg c = some (.ref C) ∧ t = .ref C) := by
  cases q : tyN d with
  | some n => exact ⟨_, tyN_ok s h q, .inl ⟨n, rfl, rfl⟩⟩
  | none =>
    rw [tyOk, q, Option.isSome_none, Bool.false_or] at e
    cases d <;> first | (exfalso; simp [insIn] at e; done) | skip
    rename_i c fs
    have cm : c ∈ cs := of_decide_eq_true e
    obtain ⟨a, C, dx, vs, rfl, hm, ha, _⟩ := h
    have i := T.ins c cm C hm
    exact ⟨.ref C, .base (.ins ha i.cl i.ha i.hn i.htk i.hm), .inr ⟨c, C, fs, rfl, cm, hm, rfl⟩⟩
def m_eqO (c : Str) (cs : List Str) (F : List D → Sto → Option (R D × Sto)) (ng : Bool → Bool) (ma mb : M D) : M D := ma.bind fun a => mb.bind fun b _ S => match a with
  | .ins c' _ => if c' = c ∧ fixed b = true ∧ tyOk cs b = true then match F [a, b] S with
    | some (.ok (.bl k), S') => some (.ok (.bl (ng k)), S')
    | _ => none
    else none
  | _ => none
theorem rs_dt {v : V} {d : D} (t : At K mg w H S) (h : Dt K mg w v d) (f : fixed d = true) (ty : tyOk cs d = true) : Rs K mg w H v d := by
  refine Rs.of_dt t.sub h fun k e => ?_
  subst e
  simp [tyOk, tyN, insIn] at ty
theorem eqO_go {ng : Bool → Bool} (T : Clss X.K X.mg cs) (hc : c ∈ cs) {Q : VK} (h : tD X.K X.mg W z (m_eqO c cs F ng ma mb) σ H Q) : tOp (rOwn X c (spD X.K X.mg 2 F) ng) (tD X.K X.mg W z ma) (tD X.K X.mg W z mb) σ H Q := by
  obtain ⟨w, ρ, S, h⟩ := h
  refine ⟨w, ρ, S, h.bind fun a v w1 H1 S1 st1 ra h1 => ⟨w1, ρ, S1, h1.bind fun b u w2 H2 S2 st2 rb h2 => ?_⟩⟩
  obtain ⟨t2, s2, r, S', e, p⟩ := h2
  have ra' : Rr X.K X.mg w2 σ ρ v a := Rr.mono st2.le ra
  cases a <;> first | (exfalso; simp at e; done) | skip
  rename_i c' fs
  dsimp only at e
  split at e
  · rename_i cc
    obtain ⟨rfl, fb, tb⟩ := cc
    split at e
    · rename_i q S3 q2
      cases e
      have da : Dt X.K X.mg w2 v (.ins c' fs) := ra'.dt rfl
      have db : Dt X.K X.mg w2 u b := rb.dt fb
      obtain ⟨t, ty, tt⟩ := ty_any T t2.sub (rs_dt t2 db fb tb) tb
      obtain ⟨aa, C, dx, vs, rfl, hm, ha, _⟩ := Rs.of_dt t2.sub da (fun k z => nomatch z)
      have nf : PySem.W.notFirst X.K C t = true := by
        rcases tt with ⟨n, q1, rfl⟩ | ⟨c2, C2, fs2, _, hc2, hm2, rfl⟩
        · exact (T.ty c' hc C hm n (tyN_mem q1)).1
        · exact (T.own c' hc C hm c2 hc2 C2 hm2).1
      refine ⟨aa, C, dx, vs, t, rfl, hm, ha, ty, nf, w2, S2, [.ins c' fs, b], t2, .cons da (.cons db .nil), rfl, _, _, q2, fun d hd v' H' w' st' t' hv => ?_, fun _ _ z => nomatch z⟩
      cases hd
      cases hv
      exact ⟨_, rfl, p _ H' w' st' t' (.inl (.bl _))⟩
    · cases e
  · cases e
theorem pass_no (tk : Takes X W) : Passes (L2.CX X.prog X.w) X (fun _ _ _ => False) := passes_call tk fun _ _ _ _ h => h.elim
theorem pd_eqO (T : Clss X.K X.mg cs) (hc : c ∈ cs) (ho : OwnQ X.prog X.w X.K X.mg X.base (L2.CX X.prog X.w) k c (spD X.K X.mg 2 F)) (g : Quiet X.A) (hr : Room j X.A) (hk : k ≤ j) (tk : Takes X W) (ha : PD X W z a ma) (hb : PD X W z b mb) (hm : behindInMarks .Eq b = false := by with_unfolding_all rfl) :
    PD X W z (.Compare a [.Eq] [b] pos) (m_eqO c cs F (fun b => b) ma mb) := pe_mono (pe_cmpR (op_own ho g hr hk (pass_no tk)) ha hb hm) fun _ _ _ h => eqO_go T hc h
theorem pd_neO (T : Clss X.K X.mg cs) (hc : c ∈ cs) (ho : OwnQ X.prog X.w X.K X.mg X.base (L2.CX X.prog X.w) k c (spD X.K X.mg 2 F)) (g : Quiet X.A) (hr : Room (j + 1) X.A) (hk : k ≤ j) (tk : Takes X W) (ha : PD X W z a ma) (hb : PD X W z b mb) (hm : behindInMarks .NotEq b = false := by with_unfolding_all rfl) :
    PD X W z (.Compare a [.NotEq] [b] pos) (m_eqO c cs F (fun b => !b) ma mb) := pe_mono (pe_cmpR (op_ownN ho g hr hk (pass_no tk)) ha hb hm) fun _ _ _ h => eqO_go T hc h
theorem pdt_eqO (T : Clss X.K X.mg cs) (hc : c ∈ cs) (ho : OwnQ X.prog X.w X.K X.mg X.base (L2.CX X.prog X.w) k c (spD X.K X.mg 2 F)) (g : Quiet X.A) (hr : Room j X.A) (hk : k ≤ j) (tk : Takes X W) (ha : PD X W z a ma) (hb : PD X W z b mb) (hm : behindInMarks .Eq b = false := by with_unfolding_all rfl) :
    PDT X W z (.Compare a [.Eq] [b] pos) (m_isT (m_eqO c cs F (fun b => b) ma mb)) := pt_mono (pt_cmpR (op_own ho g hr hk (pass_no tk)) ha hb hm) fun _ _ _ h => eqO_go T hc (test_go h)
theorem pdt_neO (T : Clss X.K X.mg cs) (hc : c ∈ cs) (ho : OwnQ X.prog X.w X.K X.mg X.base (L2.CX X.prog X.w) k c (spD X.K X.mg 2 F)) (g : Quiet X.A) (hr : Room (j + 1) X.A) (hk : k ≤ j) (tk : Takes X W) (ha : PD X W z a ma) (hb : PD X W z b mb) (hm : behindInMarks .NotEq b = false := by with_unfolding_all rfl) :
    PDT X W z (.Compare a [.NotEq] [b] pos) (m_isT (m_eqO c cs F (fun b => !b) ma mb)) := pt_mono (pt_cmpR (op_ownN ho g hr hk (pass_no tk)) ha hb hm) fun _ _ _ h => eqO_go T hc (test_go h)
/-! ### isinstance(e, C) -/
def isO (c : Str) (cs : List Str) (d : D) : Option Bool := match d with
  | .ins c' _ => if c' ∈ cs then some (decide (c' = c)) else none
  | d => (tyN d).map fun _ => false
def m_isO (c : Str) (cs : List Str) (m : M D) : M D := m.bind fun d => M.lift fun ρ S => ((rsv ρ S d).bind (isO c cs)).map D.bl
theorem pd_isO {p2 : Pos} (T : Clss X.K X.mg cs) (hc : c ∈ cs) (hmc : X.mg c = some (.ref C)) (hg : Gl X "isinstance") (hm : X.mg "isinstance" = none) (hgc : Gl X c) (he : PD X W z e me) (hdb : (c == ("__debug__" : Str)) = false := by decide)
    (h1 : starEach [e, .Name c p2] X.env = (false, eval e X.env) :: starEach [.Name c p2] X.env := by rfl) (h2 : starEach [.Name c p2] X.env = (false, eval (.Name c p2) X.env) :: starEach [] X.env := by rfl)
    (hpl : (backTo pos (starEach [.Name c p2] X.env)).any (·.1) = false := by rfl) : PD X W z (.Call (.Name "isinstance" p) [e, .Name c p2] [] pos) (m_isO c cs me) :=
  pe_mono (pe_callB call_isi hg hm (by decide +kernel) (pa_cons he (pa_cons (pe_glob (v := .ref C) hgc hmc rfl hdb) pa_nil h2) h1) (by decide) (by decide) h1 hpl) fun σ H Q h => by
    obtain ⟨w, ρ, S, h⟩ := h
    refine ⟨w, ρ, S, h.bind fun d v w1 H1 S1 st rd h1 => ?_⟩
    obtain ⟨y, e, kk⟩ := h1.lift
    cases q1 : rsv ρ S1 d with
    | none => rw [q1] at e; cases e
    | some d' =>
      rw [q1] at e
      have rs := Rs.of h1.t h1.s rd q1
      cases q2 : isO c cs d' with
      | none => rw [Option.bind_some, q2] at e; cases e
      | some r =>
        rw [Option.bind_some, q2] at e
        cases e
        have ok : tyOk cs d' = true := by
          unfold isO at q2
          split at q2
          · rename_i c' fs
            split at q2
            · simp [tyOk, insIn, *]
            · cases q2
          · cases q3 : tyN d' with
            | none => rw [q3] at q2; cases q2
            | some n => simp [tyOk, q3]
        obtain ⟨t, ty, tt⟩ := ty_any T h1.t.sub rs ok
        have kt : PySem.W.kitOne X.K t (.ref C) = some r := by
          rcases tt with ⟨n, q3, rfl⟩ | ⟨c2, C2, fs2, rfl, hc2, hm2, rfl⟩
          · rw [(T.ty c hc C hmc n (tyN_mem q3)).2]
            cases d' <;> first | (exfalso; simp [tyN] at q3; done) | (simp [isO, tyN] at q2; rw [q2])
          · rw [(T.own c hc C hmc c2 hc2 C2 hm2).2]
            simp only [isO, hc2, if_true] at q2
            exact q2
        exact ⟨v, .ref C, _, _, r, rfl, .own C, ty, kt, kk _ H1 w1 (Grow.refl h1.t.sub) (.inl (.bl r))⟩
end
end Pd

/-! len by an own `__len__`; methods of own classes. -/
namespace Pd
open PySem L2 Evl Hg
open PySem.Spec PyProof.Rows
section
variable {X : Cx} {W : WX} {z : Option Zi} {w0 : W0} {w w' w1 : Wd} {σ : L2.St} {H H' H1 : Hp} {ρ ρ' : Rho} {S S' S1 : Sto} {K : PySem.W.Frag} {mg : Str → Option Value} {Dn : Ends}
variable {e a b o value : Expr} {es : List Expr} {pos pos' apos cpos p : Pos} {me ma mb mo mk mv : M D} {ms : M (List D)} {st : Stmt} {m : SM}
variable {CX : CXT} {k j n : Nat} {f C : Addr} {fd : FuncData} {ps ks cs : List Str} {sp : Sp} {E : XK} {x c mn : Str} {F : List D → Sto → Option (R D × Sto)}
/-- a class whose method mn is an own def -/
structure OwnM (P : Program) (w : World) (K : PySem.W.Frag) (mg : Str → Option Value) (base : Heap) (CX : CXT) (k : Nat) (c mn : Str) (sp : Sp) : Prop where
  ex : ∃ (C f : Addr) (fd : FuncData) (ps : List Str), FnG P w K mg base CX k f fd ps sp ∧ mg c = some (.ref C) ∧ Binds K fd ps [] ∧ Meth K C mn f ∧ Cls K C
def rLenO (X : Cx) (c : Str) (sp : Sp) : List V → Hp → VK → Prop := fun xs H Q => ∃ (a C dx : Addr) (fs : List (Str × V)), xs = [.ref a] ∧ X.mg c = some (.ref C) ∧ H a = some (.ins C dx fs) ∧ sp [.ref a] H (fun v H' => ∃ n : Int, v = .int n ∧ 0 ≤ n ∧ n < 2 ^ 63 ∧ Q (.int n) H') (fun _ _ _ => False)
theorem call_lenO (ho : OwnM X.prog X.w X.K X.mg X.base CX k c "__len__" sp) (g : Quiet X.A) (hr : Room (j + 1) X.A) (hk : k ≤ j) (hx : Passes CX X (fun _ _ _ => False)) : CallR X (.builtin "len") (rLenO X c sp) := by
  intro pins s σ H xs us Q I r hq
  obtain ⟨a, C, dx, fs, rfl, hm, ha, h⟩ := hq
  obtain ⟨C2, f, fd, ps, F, hm2, hb, M, _⟩ := ho.ex
  rw [hm] at hm2
  cases hm2
  cases r with
  | cons rx rr =>
    cases rr
    cases rx
    obtain ⟨mA, J, _⟩ := ins_get I.hok ha
    obtain ⟨od, J, _⟩ := J.look
    obtain ⟨m, hF⟩ := I.fr
    refine PySem.W.len_K hF I.ok.mod.kin J M.at_ M.fn ?_
    refine wpAny_mono (run_below (A := X.A.in1) (us := [.ref a]) (vs := [.ref a]) rfl F (Quiet.in1 g) (hr.in1.mono hk) hb hx I (.cons rfl .nil) h) (fun r s' q => ?_) fun _ _ e => e
    obtain ⟨v, H', I', rv, n, rfl, h0, h1, q⟩ := q
    obtain ⟨t, rfl⟩ := rv
    exact ⟨⟨h0, h1⟩, .int n, H', I'.tok _, ⟨_, rfl⟩, q⟩
def m_lenO (c : Str) (F : List D → Sto → Option (R D × Sto)) (m : M D) : M D := m.bind fun d _ S => match d with
  | .ins c' _ => if c' = c then match F [d] S with
    | some (.ok (.int n), S') => if 0 ≤ n ∧ n < 2 ^ 63 then some (.ok (.int n), S') else none
    | _ => none
    else none
  | _ => none
theorem pd_lenO (ho : OwnM X.prog X.w X.K X.mg X.base (L2.CX X.prog X.w) k c "__len__" (spD X.K X.mg 1 F)) (g : Quiet X.A) (hr : Room (j + 1) X.A) (hk : k ≤ j) (tk : Takes X W) (hg : Gl X "len") (hm : X.mg "len" = none) (he : PD X W z e me)
    (h1 : starEach [e] X.env = (false, eval e X.env) :: starEach [] X.env := by rfl) (hpl : (backTo pos (starEach [] X.env)).any (·.1) = false := by rfl) : PD X W z (.Call (.Name "len" p) [e] [] pos) (m_lenO c F me) :=
  pe_mono (pe_callB (call_lenO ho g hr hk (pass_no tk)) hg hm (by decide +kernel) (pa_cons he pa_nil h1) (by decide) (by decide) h1 hpl) fun σ H Q h => by
    obtain ⟨w, ρ, S, h⟩ := h
    refine ⟨w, ρ, S, h.bind fun d v w1 H1 S1 st rd h1 => ?_⟩
    obtain ⟨t2, s2, r, S', e, p⟩ := h1
    cases d <;> first | (exfalso; simp at e; done) | skip
    rename_i c' fs
    dsimp only at e
    split at e
    · rename_i cc
      subst cc
      split at e
      · rename_i n S3 q2
        split at e
        · rename_i nn
          cases e
          have da : Dt X.K X.mg w1 v (.ins c' fs) := rd.dt rfl
          obtain ⟨aa, C, dx, vs, rfl, hm, ha, _⟩ := Rs.of_dt t2.sub da (fun k z => nomatch z)
          refine ⟨aa, C, dx, vs, rfl, hm, ha, w1, S1, [.ins c' fs], t2, .cons da .nil, rfl, _, _, q2, fun d hd v' H' w' st' t' hv => ?_, fun _ _ z => nomatch z⟩
          cases hd
          cases hv
          exact ⟨n, rfl, nn.1, nn.2, p _ H' w' st' t' (.inl (.int n))⟩
        · cases e
      · cases e
    · cases e
/-! ### o.m(e, ..) -/
/-- o.m(..): m runs on o and the further arguments -/
def tMeG (X : Cx) (c mn : Str) (sp : Sp) (E : L2.St → XK) (to : TE) (t : TA) : TE := fun σ H Q => to σ H fun x H1 => ∃ (a C dx : Addr) (fs : List (Str × V)), x = .ref a ∧ X.mg c = some (.ref C) ∧ H1 a = some (.ins C dx fs) ∧ fs.lookup mn = none ∧ t σ H1 fun vs H2 => sp (.ref a :: vs) H2 Q (E σ)
theorem pe_meG {pl : Sem Bool} {to : TE} {t : TA} {E : L2.St → XK} (he : PE X o to) (ho : OwnM X.prog X.w X.K X.mg X.base CX k c mn sp) (g : Quiet X.A) (hr : Room j X.A) (hk : k ≤ j) (hx : ∀ σ, PassesAt CX X σ (E σ)) (ha : PA X (e :: es) t)
    (hst : starEach (e :: es) X.env = (false, eval e X.env) :: starEach es X.env := by rfl) (hpl : (backTo pos (starEach es X.env)).any (·.1) = false := by rfl)
    (ht : eval (.Call (.Attribute o mn apos) (e :: es) [] pos) X.env = (do
      let ov ← eval o X.env
      standAt apos.atName
      let (f, first) ← holding [ov] (getMethod ov mn pl)
      callWith pos f first (backTo pos (starEach (e :: es) X.env)) (backToKw pos (keywordEach [] X.env))) := by rfl) :
    PE X (.Call (.Attribute o mn apos) (e :: es) [] pos) (tMeG X c mn sp E to t) := by
  obtain ⟨C, f, fd, ps, F, hm, b, M, cl⟩ := ho.ex
  refine ⟨fun pins s σ H Q I h => ?_⟩
  refine PySem.W.methodCall_KW (pl := pl) (thn (he.run pins s σ H _ I h) fun u s1 ⟨x, H1, I1, rx, a, C2, dx, fs, ex, hm2, ea, l, q⟩ => ?_) ht
  subst ex
  rw [hm] at hm2
  cases hm2
  obtain rfl : u = Value.ref a := rx
  refine getmeth_ok I1 ea cl M l ?_
  refine PySem.W.callWith_K (first := [.ref a]) (h₀ := X.base) I.ok.mod.kin M.kp (thn (ha.run pos pins s1 σ H1 _ I1 q) fun us s2 ⟨vs, H2, I2, r, q2⟩ => ⟨I2.kIn, ?_⟩) hst hpl
  exact runGS (us := .ref a :: us) (vs := .ref a :: vs) F g (hr.mono hk) b (hx σ) I2 (.cons rfl r) q2
theorem pe_meG0 {pl : Sem Bool} {to : TE} {E : L2.St → XK} (he : PE X o to) (ho : OwnM X.prog X.w X.K X.mg X.base CX k c mn sp) (g : Quiet X.A) (hr : Room j X.A) (hk : k ≤ j) (hx : ∀ σ, PassesAt CX X σ (E σ))
    (ht : eval (.Call (.Attribute o mn apos) [] [] pos) X.env = (do
      let ov ← eval o X.env
      standAt apos.atName
      let (f, first) ← holding [ov] (getMethod ov mn pl)
      callWith pos f first (backTo pos (starEach [] X.env)) (backToKw pos (keywordEach [] X.env))) := by rfl) :
    PE X (.Call (.Attribute o mn apos) [] [] pos) (tMeG X c mn sp E to tNil) := by
  obtain ⟨C, f, fd, ps, F, hm, b, M, cl⟩ := ho.ex
  refine ⟨fun pins s σ H Q I h => ?_⟩
  refine PySem.W.methodCall_KW (pl := pl) (thn (he.run pins s σ H _ I h) fun u s1 ⟨x, H1, I1, rx, a, C2, dx, fs, ex, hm2, ea, l, q⟩ => ?_) ht
  subst ex
  rw [hm] at hm2
  cases hm2
  obtain rfl : u = Value.ref a := rx
  refine getmeth_ok I1 ea cl M l ?_
  exact PySem.W.callWith_K0 (first := [.ref a]) I1.kIn M.kp (runGS (us := [.ref a]) (vs := [.ref a]) F g (hr.mono hk) b (hx σ) I1 (.cons rfl .nil) q)
def m_meth (c mn : Str) (n : Nat) (F : List D → Sto → Option (R D × Sto)) (mo : M D) (ms : M (List D)) : M D := mo.bind fun d => (M.lift fun _ _ => match d with
  | .ins c' fs => if c' = c ∧ fs.lookup mn = none then some () else none
  | _ => none).bind fun _ => ms.bind fun ds _ S => if ds.all fixed = true ∧ ds.length + 1 = n then F (d :: ds) S else none
theorem lookup_no : ∀ {vs : List (Str × V)} {ds : List (Str × D)} {f : Str}, vs.map (·.1) = ds.map (·.1) → ds.lookup f = none → vs.lookup f = none
  | [], [], _, _, _ => rfl
  | [], _ :: _, _, e, _ => by cases e
  | _ :: _, [], _, e, _ => by cases e
  | (k1, v1) :: vs, (k2, d2) :: ds, f, ek, e => by
    simp only [List.map_cons, List.cons.injEq] at ek
    obtain ⟨rfl, ek⟩ := ek
    simp only [List.lookup] at e ⊢
    cases q : f == k1 with
    | true => rw [q] at e; cases e
    | false =>
      rw [q] at e
      exact lookup_no ek e
theorem meth_go {Q : VK} (h : tD X.K X.mg W z (m_meth c mn n F mo ms) σ H Q) : tMeG X c mn (spD X.K X.mg n F) (WE W) (tD X.K X.mg W z mo) (tA X.K X.mg W z ms) σ H Q := by
  obtain ⟨w, ρ, S, h⟩ := h
  refine ⟨w, ρ, S, h.bind fun d v w1 H1 S1 st rd h0 => ?_⟩
  obtain ⟨u, eu, h1⟩ := h0.liftB
  clear h0
  cases d <;> first | (exfalso; simp at eu; done) | skip
  rename_i c' fs
  dsimp only at eu
  split at eu
  · rename_i cc
    obtain ⟨rfl, hl⟩ := cc
    have da : Dt X.K X.mg w1 v (.ins c' fs) := rd.dt rfl
    obtain ⟨aa, C, dx, vs, rfl, hm, ha, ek, hd⟩ := Rs.of_dt h1.t.sub da (fun k z => nomatch z)
    refine ⟨aa, C, dx, vs, rfl, hm, ha, lookup_no ek hl, w1, ρ, S1, h1.bind (rel1 := relA X.K X.mg σ ρ) fun ds us w2 H2 S2 st2 rds h2 => ?_⟩
    obtain ⟨t2, s2, r, S', e, p⟩ := h2
    split at e
    · rename_i c2
      refine ⟨w2, S2, _, t2, .cons (da.mono st2.le) (rds.fix c2.1), c2.2, r, S', e, fun d hd v H' w' st' t' hv => ?_, fun c fs hd H' w' cls dx st' t' x => ?_⟩
      · subst hd
        exact p v H' w' st' t' (.inl hv)
      · subst hd
        exact p H' w' cls dx st' t' x
    · cases e
  · cases eu
end
end Pd

/-! A dict display that goes into the store. -/
namespace Pd
open PySem L2 Evl Hg
open PySem.Spec PyProof.Rows
section
variable {X : Cx} {W : WX} {z : Option Zi} {w0 : W0} {w w' w1 : Wd} {σ : L2.St} {H H' H1 : Hp} {ρ ρ' : Rho} {S S' S1 : Sto} {K : PySem.W.Frag} {mg : Str → Option Value} {Dn : Ends}
variable {e a b o value : Expr} {es : List Expr} {pos pos' apos cpos p : Pos} {me ma mb mo mk mv : M D} {ms : M (List D)} {st : Stmt} {m : SM}
def m_dispO (ps : List (Str × M D)) : M D := (m_pairs ps).bind fun ds _ S => if ds.all fixed = true ∧ ps.length ≤ 15 then some (.ok (.own S.length), S ++ [.dct (mergeD [] ((ps.map fun p => (Sum.inr p.1 : Key)).zip ds))]) else none
theorem pd_dispO {keys : List (Option Expr)} {values : List Expr} {ps : List (Str × M D)} (h : PDP X W z pos keys values ps) (hall : keys.all (·.isSome) = true := by rfl) (hl : keys.length = values.length := by rfl) (h0 : keys ≠ [] := by simp)
    (h15 : keys.length ≤ 15 := by decide) : PD X W z (.Dict keys values pos) (m_dispO ps) :=
  pe_mono (pe_disp h.pps hall hl h0 h15) fun σ H Q hq => by
    obtain ⟨w, ρ, S, t, s, r, S', e, k⟩ := hq
    intro p np
    obtain ⟨gp, ap⟩ := t.gone np
    unfold m_dispO M.bind at e
    cases q : m_pairs ps ρ S with
    | none => rw [q] at e; cases e
    | some x =>
      obtain ⟨r1, S1⟩ := x
      rw [q] at e
      have st0 : Stp w w H (upd H p (.dK [])) := (Stp.refl _ _).upd np
      have hD : Do X.K X.mg W z (relA X.K X.mg σ ρ) w σ (upd H p (.dK [])) ρ S (m_pairs ps) (fun vs H2 => vs.length = ps.length → H2 p = some (.dK []) ∧ ∃ kvs : List (Key × V), (ps.map fun p => V.str p.1).zip vs = kvs.map (fun kv => (kV kv.1, kv.2)) ∧ kvs.length ≤ 15 ∧ Q (.ref p) (upd H2 p (.dK (mergeK [] kvs)))) := by
        refine ⟨t.upd gp ap, s.step st0, r1, S1, q, ?_⟩
        cases r1 with
        | er c fs =>
          cases e
          exact fun H' w' cls dx st' t' x => by
            have e1 : upd H' p (.dK []) = H' := by
              funext b
              by_cases z : b = p
              · rw [z, upd_same]; exact (st'.fr p _ upd_same ap).symm
              · rw [upd_ne z]
            have := st'.under (o' := .dK []) np
            rw [e1] at this
            exact k H' w' cls dx this t' x
        | ok ds =>
          dsimp only at e
          split at e
          · rename_i c
            · cases e
              intro vs H2 w2 st2 t2 rds hl2
              have hp2 : H2 p = some (.dK []) := st2.fr p _ upd_same ap
              have hd := RrA.fix rds c.1
              have hlen : ps.length = vs.length := hl2.symm
              have hlen2 : ps.length = ds.length := by rw [← hd.length]; exact hlen
              refine ⟨hp2, (ps.map fun p => (Sum.inr p.1 : Key)).zip vs, ?_, by rw [List.length_zip, List.length_map]; omega, ?_⟩
              · have : ∀ (ps : List (Str × M D)) (vs : List V), (ps.map fun p => V.str p.1).zip vs = ((ps.map fun p => (Sum.inr p.1 : Key)).zip vs).map (fun kv => (kV kv.1, kv.2)) := by
                  intro ps
                  induction ps with
                  | nil => intro vs; rfl
                  | cons p r ih =>
                    intro vs
                    cases vs with
                    | nil => rfl
                    | cons v vs =>
                      simp only [List.map_cons, List.zip_cons_cons, ih vs]
                      rfl
                exact this ps vs
              · have g2 : w2.G p = none := by
                  cases q : w2.G p with
                  | none => rfl
                  | some u =>
                    rcases st2.gn p u q with z | z | z
                    · rw [gp] at z; cases z
                    · rw [upd_same] at z; cases z
                    · exact absurd z ap
                have a2 : p ∉ w2.al := fun z => by
                  have := st2.nw p z ap
                  rw [upd_same] at this
                  cases this
                obtain ⟨m1, m2⟩ := merge_dt (K := X.K) (mg := X.mg) (w := w2) (vs := (ps.map fun p => (Sum.inr p.1 : Key)).zip vs) (ds := (ps.map fun p => (Sum.inr p.1 : Key)).zip ds) (v0 := []) (d0 := [])
                  (by rw [List.map_fst_zip (by rw [List.length_map]; omega), List.map_fst_zip (by rw [List.length_map]; omega)])
                  (by rw [List.map_snd_zip (by rw [List.length_map]; omega), List.map_snd_zip (by rw [List.length_map]; omega)]; exact hd) rfl .nil
                obtain ⟨st3, t3, d3⟩ := publish (o := .dct (mergeD [] ((ps.map fun p => (Sum.inr p.1 : Key)).zip ds))) (st2.under (o' := .dK (mergeK [] ((ps.map fun p => (Sum.inr p.1 : Key)).zip vs))) np) (t2.upd g2 a2) np g2 a2 ⟨_, upd_same, m1, m2⟩
                exact k _ _ _ st3 t3 (.inl d3)
          · cases e
      exact pairs_go hD fun vs H' hl q => q hl
end
end Pd

/-! Errors of own classes as values. -/
namespace Pd
open PySem L2 Evl Hg
open PySem.Spec PyProof.Rows
section
variable {X : Cx} {W : WX} {z : Option Zi} {w0 : W0} {w w' w1 : Wd} {σ : L2.St} {H H' H1 : Hp} {ρ ρ' : Rho} {S S' S1 : Sto} {K : PySem.W.Frag} {mg : Str → Option Value} {Dn : Ends}
variable {e a b o value ec : Expr} {es : List Expr} {pos pos' apos cpos p : Pos} {me ma mb mo mk mv : M D} {ms : M (List D)} {st : Stmt} {m : SM}
/-- an error object with its dict is known from now on -/
theorem exc_new {aa d C : Addr} {c name : Str} {v : V} {y : D} (x : Stp w w1 H H1) (t : At K mg w1 H1 S1) (na : H1 aa = none) (nd : H1 d = none) (ne : d ≠ aa) (hm : mg c = some (.ref C)) (hv : Dt K mg w1 v y) :
    ∃ w2, Stp w w2 H (L2.upd (L2.upd H1 d (exd d [(name, v)])) aa (exo aa C (some d))) ∧ At K mg w2 (L2.upd (L2.upd H1 d (exd d [(name, v)])) aa (exo aa C (some d))) S1 ∧ Dt K mg w2 (.ref aa) (.exc c [(name, y)]) := by
  have g1 := Grow.new (w := w1) (o := exd d [(name, v)]) t.sub nd
  have nx : L2.upd H1 d (exd d [(name, v)]) aa = none := by rw [upd_ne (Ne.symm ne)]; exact na
  have g2 := Grow.new (w := w1.new d (exd d [(name, v)])) (o := exo aa C (some d)) g1.sub nx
  have g := g1.trans g2
  refine ⟨_, x.trans g.stp, t.grow g, .exc (vs := [(name, v)]) hm upd_same (?_) rfl (.cons (hv.mono g.le) .nil)⟩
  show L2.upd (L2.upd w1.G d (exd d [(name, v)])) aa (exo aa C (some d)) d = _
  rw [upd_ne ne, upd_same]
/-- C(e), C(k = e) -/
def m_exc (c name : Str) (me : M D) : M D := me.bind fun d _ S => if fixed d = true then some (.ok (.exc c [(name, d)]), S) else none
theorem exc_go {c name : Str} {C : Addr} (hm : mg c = some (.ref C)) {Q : VK} (h : tD K mg W z (m_exc c name me) σ H Q) : tD K mg W z me σ H fun y H1 => Hx.AskE C name y Q H1 := by
  obtain ⟨w, ρ, S, h⟩ := h
  refine ⟨w, ρ, S, h.bind fun d v w1 H1 S1 st rd h1 => ?_⟩
  obtain ⟨t1, s1, r, S', e, p⟩ := h1
  split at e
  · rename_i f
    cases e
    intro aa dx na nd ne
    obtain ⟨w2, x2, t2, d2⟩ := exc_new (name := name) (Stp.refl w1 H1) t1 na nd ne hm (rd.dt f)
    exact p _ _ w2 x2 t2 (.inl d2)
  · cases e
theorem pd_exc {c name : Str} {C : Addr} (hm : X.mg c = some (.ref C)) (he : PD X W z e me) (h : ∀ {te : TE}, PE X e te → PE X a (fun σ H Q => te σ H fun y H1 => Hx.AskE C name y Q H1)) : PD X W z a (m_exc c name me) :=
  pe_mono (h he) fun σ H Q h => exc_go hm h
/-- C() -/
theorem pd_exc0 {c : Str} {C : Addr} (hm : X.mg c = some (.ref C)) (h : PE X a (fun _ H Q => ∀ p, H p = none → Q (.ref p) (upd H p (exo p C none)))) : PD X W z a (m_c (.exc c [])) :=
  pe_mono h fun σ H Q h => by
    obtain ⟨w, ρ, S, t, s, r, S', e, p⟩ := h
    cases e
    intro q nq
    have g := Grow.new (w := w) (o := exo q C none) t.sub nq
    exact p _ _ _ g.stp (t.grow g) (.inl (.exc0 hm upd_same))
/-- isinstance(e, c), e an error that is held -/
def m_isX (f : Str → Option Bool) (m : M D) : M D := m.bind fun d => M.lift fun _ _ => match d with
  | .exc c _ => (f c).map D.bl
  | _ => none
theorem pd_isX {f : Str → Option Bool} {cval : V} {cv : Value} (hf : ∀ c b, f c = some b → ∀ C, X.mg c = some (.ref C) → ExcC X.K C ∧ PySem.W.kitOne X.K (.ref C) cv = some b) (hcv : ∀ u, RelV cval u → u = cv) (hg : Gl X "isinstance") (hm : X.mg "isinstance" = none)
    (he : PD X W z e me) (hce : PE X ec (tC cval)) (h1 : starEach [e, ec] X.env = (false, eval e X.env) :: starEach [ec] X.env := by rfl) (h2 : starEach [ec] X.env = (false, eval ec X.env) :: starEach [] X.env := by rfl)
    (hpl : (backTo pos (starEach [ec] X.env)).any (·.1) = false := by rfl) : PD X W z (.Call (.Name "isinstance" p) [e, ec] [] pos) (m_isX f me) :=
  pe_mono (pe_callB Hx.call_isV hg hm (by decide +kernel) (pa_cons he (pa_cons hce pa_nil h2) h1) (by decide) (by decide) h1 hpl) fun σ H Q h => by
    obtain ⟨w, ρ, S, h⟩ := h
    refine ⟨w, ρ, S, h.bind fun d v w1 H1 S1 st rd h1 => ?_⟩
    obtain ⟨y, e, k⟩ := h1.lift
    cases d <;> first | (exfalso; simp at e; done) | skip
    rename_i c fs
    dsimp only at e
    cases q : f c with
    | none => rw [q] at e; cases e
    | some b =>
      rw [q] at e
      cases e
      obtain ⟨aa, C, od, rfl, hm, ha, hd⟩ := Rs.of_dt h1.t.sub (rd.dt rfl) (fun k z => nomatch z)
      obtain ⟨h3, h4⟩ := hf c b q C hm
      refine ⟨aa, C, od, cval, cv, b, rfl, ha, fun dd ed => ?_, h3, hcv, h4, k _ H1 w1 (Grow.refl h1.t.sub) (.inl (.bl b))⟩
      rcases hd with ⟨rfl, _⟩ | ⟨d, vs, rfl, h5, _⟩
      · cases ed
      · cases ed
        exact ⟨vs, h5⟩
/-- e.f, e an error that is held -/
def m_fldX (cs : List Str) (f : Str) (m : M D) : M D := m.bind fun d => M.lift fun _ _ => match d with
  | .exc c fs => if c ∈ cs then fs.lookup f else none
  | _ => none
theorem pd_fldX {cs : List Str} {f : Str} (hc : ∀ c ∈ cs, ∀ C, X.mg c = some (.ref C) → XfC X.K C ∧ PySem.W.findIn X.K (.ref C) f = some none) (he : PD X W z e me) (hb : attributeBase e f X.env (eval e X.env) = eval e X.env := by rfl) : PD X W z (.Attribute e f pos) (m_fldX cs f me) :=
  pe_mono (Hx.pe_fldV he hb) fun σ H Q h => by
    obtain ⟨w, ρ, S, h⟩ := h
    refine ⟨w, ρ, S, h.bind fun d v w1 H1 S1 st rd h1 => ?_⟩
    obtain ⟨y, e, k⟩ := h1.lift
    cases d <;> first | (exfalso; simp at e; done) | skip
    rename_i c fs
    dsimp only at e
    split at e
    · rename_i cm
      obtain ⟨aa, C, od, rfl, hm, ha, hd⟩ := Rs.of_dt h1.t.sub (rd.dt rfl) (fun k z => nomatch z)
      obtain ⟨h3, h4⟩ := hc c cm C hm
      rcases hd with ⟨_, rfl⟩ | ⟨d, vs, rfl, h5, ek, hd⟩
      · cases e
      · obtain ⟨v', e2, hv⟩ := lookup_dt ek hd e
        exact ⟨aa, C, d, vs, v', rfl, ha, h5, h3, h4, e2, k v' H1 w1 (Grow.refl h1.t.sub) (.inl hv)⟩
    · cases e
end
end Pd

/-! text * n; dict(pairs). -/
namespace Pd
open PySem L2 Evl Hg
open PySem.Spec PyProof.Rows
section
variable {X : Cx} {W : WX} {z : Option Zi} {w0 : W0} {w w' w1 : Wd} {σ : L2.St} {H H' H1 : Hp} {ρ ρ' : Rho} {S S' S1 : Sto} {K : PySem.W.Frag} {mg : Str → Option Value} {Dn : Ends}
variable {e a b o value ec : Expr} {es : List Expr} {pos pos' apos cpos p : Pos} {me ma mb mo mk mv : M D} {ms : M (List D)} {st : Stmt} {m : SM}
def repS (x : Str) (n : Nat) : Str := ⟨(List.replicate n x.cps).foldl (· ++ ·) #[]⟩
def rMulS : R2 := fun x y H Q => ∃ (i : Str) (n : Nat), x = .str i ∧ y = .int (n : Int) ∧ 2 ≤ n ∧ n ≤ 1000 ∧ 1 ≤ i.length ∧ i.length ≤ 1000 ∧ (repS i n).length ≤ sizeLine ∧ Q (.str (repS i n)) H
theorem op_mulS : OpR X (binaryOp .Mult) rMulS := by
  intro pins s σ H x y v u Q I rx ry h
  obtain ⟨i, n, rfl, rfl, n1, n2, l1, l2, hz, q⟩ := h
  obtain ⟨t, rfl⟩ := rx
  obtain ⟨t', rfl⟩ := ry
  have hn : ¬ (n : Int) < 1 := by omega
  have hone : ((n : Int) == 1 || i.length == 0) = false := by
    rw [Bool.or_eq_false_iff]
    exact ⟨beq_eq_false_iff_ne.mpr (by omega), beq_eq_false_iff_ne.mpr (by omega)⟩
  have hprod : i.length * n ≤ 1000 * 1000 := Nat.mul_le_mul l2 n2
  refine PySem.P.mul_str (by rw [Bool.or_eq_false_iff]; exact ⟨decide_eq_false (by omega), decide_eq_false (by omega)⟩) (fun _ _ => ?_) (fun _ _ => ?_) ?_
  · intro hgt
    have h3 : ((2 : Int) ^ 63 - 1) / (n : Int) ≥ 1000 := by
      rw [ge_iff_le, Int.le_ediv_iff_mul_le (by omega)]
      omega
    omega
  · rw [Int.toNat_natCast]
    unfold Builtin.Str.tooLong
    simp only [sizeLine_eq, decide_eq_false_iff_not]
    omega
  · rw [if_neg hn, if_neg (by rw [hone]; exact Bool.false_ne_true), Int.toNat_natCast]
    exact ⟨hz, .str (repS i n), H, I.tok _, ⟨_, rfl⟩, q⟩
def mulSD : D → D → Option D
  | .str x, .int n => if 2 ≤ n ∧ n ≤ 1000 ∧ 1 ≤ x.length ∧ x.length ≤ 1000 ∧ (repS x n.toNat).length ≤ sizeLine then some (.str (repS x n.toNat)) else none
  | _, _ => none
theorem o2_mulS : Op2 X rMulS mulSD := by
  intro w H x y a b d s ra rb e Q q
  cases a <;> cases b <;> first | (exfalso; simp [mulSD] at e; done) | skip
  cases ra; cases rb
  rename_i x n
  simp only [mulSD] at e
  split at e
  · rename_i c
    cases e
    obtain ⟨c1, c2, c3, c4, c5⟩ := c
    have hn : n = ((n.toNat : Nat) : Int) := (Int.toNat_of_nonneg (by omega)).symm
    exact ⟨x, n.toNat, rfl, by rw [← hn], by omega, by omega, c3, c4, c5, q _ _ _ (Grow.refl s) (.str _)⟩
  · cases e
theorem pd_mulS (ha : PD X W z a ma) (hb : PD X W z b mb) : PD X W z (.BinOp a .Mult b pos) (m_op mulSD ma mb) := pd_op op_mulS o2_mulS ha hb
/-! ### dict(pairs) -/
def pairsD : List D → Option (List (Key × D))
  | [] => some []
  | .tup [k, v] :: r => match keyOfD k, pairsD r with
    | some k', some r' => some ((k', v) :: r')
    | _, _ => none
  | _ => none
theorem keyOf_dt {v : V} {d : D} {k : Key} (h : Dt K mg w v d) (e : keyOfD d = some k) : v = kV k := by
  cases d <;> first | (exfalso; simp [keyOfD] at e; done) | skip
  · cases e; cases h; rfl
  · cases e; cases h; rfl
theorem pairs_dt : ∀ {vs : List V} {ds : List D} {kds : List (Key × D)}, DtA K mg w vs ds → pairsD ds = some kds →
    ∃ (ps : List Addr) (kvs : List (Key × V)), vs = ps.map V.ref ∧ Paired (fun p kv => SqT K w.G p [kV kv.1, kv.2]) ps kvs ∧ kvs.map (·.1) = kds.map (·.1) ∧ DtA K mg w (kvs.map (·.2)) (kds.map (·.2))
  | _, _, _, .nil, e => by
    cases e
    exact ⟨[], [], rfl, .nil, rfl, .nil⟩
  | _, _, _, .cons (d := d) (ds := ds) h hs, e => by
    cases d <;> first | (exfalso; simp [pairsD] at e; done) | skip
    rename_i xs
    match xs, e, h with
    | [], e, _ => cases e
    | [_], e, _ => cases e
    | _ :: _ :: _ :: _, e, _ => cases e
    | [k, v], e, h =>
      simp only [pairsD] at e
      split at e
      · rename_i k' r' q1 q2
        cases e
        obtain ⟨ps, kvs, rfl, hp, hk, hd⟩ := pairs_dt hs q2
        cases h with
        | tup ht ha =>
          cases ha with
          | cons h1 ha =>
            cases ha with
            | cons h2 ha =>
              cases ha
              obtain rfl := keyOf_dt h1 q1
              exact ⟨_ :: ps, (k', _) :: kvs, rfl, .cons ht hp, by simp [hk], .cons h2 hd⟩
      · cases e
def dictD : List D → Option D
  | [.lst ds] => (pairsD ds).map fun kds => .dct (mergeD [] kds)
  | _ => none
theorem paired_mono {α β : Type} {R R' : α → β → Prop} (h : ∀ a b, R a b → R' a b) : ∀ {xs : List α} {ys : List β}, Paired R xs ys → Paired R' xs ys
  | _, _, .nil => .nil
  | _, _, .cons a b => .cons (h _ _ a) (paired_mono h b)
theorem oa_dict : OpA X (fun xs H Q => ∃ (a : Addr) (ps : List Addr) (kvs : List (Key × V)), xs = [.ref a] ∧ SqL X.K H a (ps.map V.ref) ∧ Paired (fun p kv => SqT X.K H p [kV kv.1, kv.2]) ps kvs ∧ ∀ p, H p = none → Q (.ref p) (upd H p (.dK (mergeK [] kvs)))) dictD := by
  intro w H vs ds d s rs e Q q
  cases rs with
  | nil => cases e
  | cons h hs =>
    cases hs with
    | cons _ _ => simp [dictD] at e
    | nil =>
      rename_i v d0
      cases d0 <;> first | (exfalso; simp [dictD] at e; done) | skip
      simp only [dictD] at e
      cases q1 : pairsD _ with
      | none => rw [q1] at e; cases e
      | some kds =>
        rw [q1] at e
        cases e
        obtain ⟨a, xs, rfl, ha, hx⟩ := h
        obtain ⟨ps, kvs, rfl, hp, hk, hd⟩ := pairs_dt hx q1
        refine ⟨a, ps, kvs, rfl, .inl ha, paired_mono (fun _ _ h => ex_t s h) hp, fun p np => ?_⟩
        obtain ⟨m1, m2⟩ := merge_dt (v0 := []) (d0 := []) hk hd rfl .nil
        have g := Grow.new (w := w) (o := .dK (mergeK [] kvs)) s np
        exact q _ _ _ g (.dct (Rd.of upd_same) m1 (m2.mono g.le))
end
end Pd

/-! What a program's text gives to the layer: errors of own classes, small rules. -/
namespace Pd
open PySem L2 Evl Hg
open PySem.Spec PyProof.Rows
abbrev neF (a b : D) : Option Bool := (eqF a b).map (!·)
abbrev ninF (a b : D) : Option Bool := (inD a b).map (!·)
abbrev isnF (a b : D) : Option Bool := (isNonD a b).map (!·)
theorem takesNo {X : Cx} : Takes X WNo := fun _ _ ⟨_, _, _, _, _, _, _, _, _, _, _, _, _, _, _, _, w⟩ => w.elim
theorem HU {j : Nat} {A : Around} (hr : Room j A) : A.units + 1 < cLine := by have := hr.un; omega
section
variable {X : Cx} {W : WX} {z : Option Zi} {w0 : W0} {w w' w1 : Wd} {σ : L2.St} {H H' H1 : Hp} {ρ ρ' : Rho} {S S' S1 : Sto} {Dn : Ends}
variable {e a b o value ec : Expr} {es : List Expr} {pos pos' apos cpos kpos p : Pos} {me ma mb mo mk mv : M D} {ms : M (List D)} {st : Stmt} {m : SM} {k j : Nat} {c name pn : Str} {C : Addr}
theorem pd_dnil : PD X W z (.Dict [] [] pos) (m_c (.dct [])) := pe_mono pe_dnewK fun σ H Q h => by
  obtain ⟨w, ρ, S, t, s, r, S', e, p⟩ := h
  cases e
  intro q nq
  have g := Grow.new (w := w) (o := .dK []) t.sub nq
  exact p _ _ _ g.stp (t.grow g) (.inl (.dct (Rd.of upd_same) rfl .nil))
/-- an error class of the text, whose `__init__` keeps its one argument -/
structure ErrG (P : Program) (wo : World) (K : PySem.W.Frag) (mg : Str → Option Value) (base : Heap) (k : Nat) (c name pn : Str) : Prop where
  ex : ∃ (C f : Addr) (fd : FuncData) (ps : List Str), mg c = some (.ref C) ∧ Hx.Err K C f ∧ PySem.W.takerIn K C name = some none ∧ FnOk P wo K mg base CX0 k f fd ps (Hx.spKeep K name) ∧ ps.length = 2 ∧ Binds K fd ps [] ∧
    ∀ (s : Shared) (y z : Value), K.In s.heap → BindsTo s fd ⟨[y], [(pn, z)]⟩ (ps.zip [y, z])
theorem pd_excC (G : ErrG X.prog X.w X.K X.mg X.base k c name pn) (hr : Room j X.A) (hk : k + 1 ≤ j) (hg : Gl X c) (he : PD X W z e me) (hdb : (c == ("__debug__" : Str)) = false := by decide) (hst : starEach [e] X.env = (false, eval e X.env) :: starEach [] X.env := by rfl)
    (hpl : (backTo pos (starEach [] X.env)).any (·.1) = false := by rfl) : PD X W z (.Call (.Name c p) [e] [] pos) (m_exc c name me) := by
  obtain ⟨C, f, fd, ps, hm, T, no, F, hl, hb, _⟩ := G.ex
  exact pd_exc hm he fun h => Hx.pe_val T no F (hr.mono hk) hl hb pass0 hg hm h hdb hst hpl
theorem pd_excKw (G : ErrG X.prog X.w X.K X.mg X.base k c name pn) (hr : Room j X.A) (hk : k + 1 ≤ j) (hg : Gl X c) (he : PD X W z e me) (hdb : (c == ("__debug__" : Str)) = false := by decide)
    (hall : (backToKw pos (keywordEach [⟨some pn, e, kpos⟩] X.env)).all (·.1.isSome) = true := by rfl) (hks : (backToKw pos (keywordEach [⟨some pn, e, kpos⟩] X.env)).filterMap (·.1) = [pn] := by rfl)
    (hpl : ((backTo pos (starEach [] X.env)).any (·.1) || (backToKw pos (keywordEach [⟨some pn, e, kpos⟩] X.env)).any (·.1.isNone)) = false := by rfl) : PD X W z (.Call (.Name c p) [] [⟨some pn, e, kpos⟩] pos) (m_exc c name me) := by
  obtain ⟨C, f, fd, ps, hm, T, no, F, hl, _, hb⟩ := G.ex
  exact pd_exc hm he fun h => Hx.pe_valK T no F (hr.mono hk) hb pass0 hg hm h hdb hall hks hpl
theorem pds_raiseG (hc : X.calm = true) (tk : Takes X W) (G : ErrG X.prog X.w X.K X.mg X.base k c name pn) (hr : Room j X.A) (hk : k + 1 ≤ j) (hg : Gl X c) (he : PD X W z e me) (hdb : (c == ("__debug__" : Str)) = false := by decide) (hst : starEach [e] X.env = (false, eval e X.env) :: starEach [] X.env := by rfl)
    (hpl : (backTo pos (starEach [] X.env)).any (·.1) = false := by rfl) : PDS X W z w0 (.Raise (some (.Call (.Name c p) [e] [] pos)) none pos') (s_raise c name me) := by
  obtain ⟨C, f, fd, ps, hm, T, no, F, hl, hb, _⟩ := G.ex
  exact pds_raise hm he fun h => Hx.ps_err hc tk T no F (hr.mono hk) hb pass0 hg hm h hdb hst hpl
/-- an error class that has no `__init__` of its own -/
structure Err0 (K : PySem.W.Frag) (mg : Str → Option Value) (c : Str) : Prop where
  ex : ∃ C, mg c = some (.ref C) ∧ PySem.W.excIn K C Hx.exLast "Exception.__new__" = true ∧ PySem.W.keepIn K (.ref C) = true
theorem pd_excN (G : Err0 X.K X.mg c) (hg : Gl X c) (hdb : (c == ("__debug__" : Str)) = false := by decide) : PD X W z (.Call (.Name c p) [] [] pos) (m_c (.exc c [])) := by
  obtain ⟨C, hm, q, kC⟩ := G.ex
  exact pd_exc0 hm (Hx.pe_val0 PySem.F.excBase_Exception q hm kC hg hdb)
/-! ### the classes of the text that are errors -/
/-- the class c stands at C, over the class at CW, upon Exception -/
structure EC (K : PySem.W.Frag) (c : Str) (C : Addr) (up : List Value) : Prop where
  at_ : ∃ od bs ns qn sn sub ab col dl sl, K.lookup C = some ⟨.type "type", od, .cls ⟨c, bs, .ref C :: up, ns, qn, true, sn, sub, ab, col, dl⟩, sl⟩
  ga : PySem.W.findIn K (.ref C) "__getattribute__" = some (some (.builtin "BaseException.__getattribute__"))
  gg : PySem.W.findIn K (.ref C) "__getattr__" = some none
  ha : PySem.W.findIn K (.ref C) "__class__" = some (some (.builtin "object.__class__"))
theorem EC.cls {K : PySem.W.Frag} {c : Str} {C : Addr} {up : List Value} (h : EC K c C up) : ∃ cd, PySem.W.clsIn K C = some cd ∧ cd.name = c ∧ cd.mro = .ref C :: up ∧ cd.hasDict = true := by
  obtain ⟨od, bs, ns, qn, sn, sub, ab, col, dl, sl, e⟩ := h.at_
  exact ⟨_, by unfold PySem.W.clsIn; rw [e], rfl, rfl, rfl⟩
theorem EC.sub {K : PySem.W.Frag} {c : Str} {C : Addr} {up : List Value} (h : EC K c C up) (v : Value) : PySem.W.subIn K (.ref C) v = some ((Value.ref C :: up).contains v) := by
  obtain ⟨cd, e, _, hm, _⟩ := h.cls
  show PySem.W.mroIn K C v = _
  unfold PySem.W.mroIn
  rw [e, Option.bind_some, hm]
  rfl
theorem EC.dict {K : PySem.W.Frag} {c : Str} {C : Addr} {up : List Value} (h : EC K c C up) : PySem.W.hasDictIn K C = true := by
  obtain ⟨cd, e, _, _, hd⟩ := h.cls
  unfold PySem.W.hasDictIn
  rw [e]
  exact hd
theorem EC.ty {K : PySem.W.Frag} {c : Str} {C : Addr} {up : List Value} (h : EC K c C up) : PySem.W.typeIn K (.ref C) = some (.type "type") := by
  obtain ⟨od, bs, ns, qn, sn, sub, ab, col, dl, sl, e⟩ := h.at_
  show (K.lookup C).map (·.cls) = _
  rw [e]
  rfl
theorem EC.ne {K : PySem.W.Frag} {c c' : Str} {C C' : Addr} {up up' : List Value} (h : EC K c C up) (h' : EC K c' C' up') (n : c ≠ c') : C ≠ C' := by
  intro e
  subst e
  obtain ⟨cd, e, hn, _⟩ := h.cls
  obtain ⟨cd', e', hn', _⟩ := h'.cls
  rw [e] at e'
  cases e'
  exact n (hn.symm.trans hn')
theorem EC.excC {K : PySem.W.Frag} {c : Str} {C : Addr} {up : List Value} (h : EC K c C up) (hu : up.contains (.type "BaseException") = true) (ho : up.contains (.type "object") = true)
    (hn : PySem.W.specialIn K (.builtin "object.__class__") "__get__" = some (some (.builtin "getset_descriptor.__get__"))) (ht : PySem.W.takesIn K (.builtin "object.__class__") = some true) : ExcC K C :=
  ⟨h.ga, h.gg, by rw [h.sub, List.contains_cons, hu, Bool.or_true], h.dict, h.ha, hn, ht, by
    have := h.sub (.type "object")
    rw [List.contains_cons, ho, Bool.or_true] at this
    exact this⟩
theorem EC.xfC {K : PySem.W.Frag} {c : Str} {C : Addr} {up : List Value} (h : EC K c C up) (hu : up.contains (.type "BaseException") = true) : XfC K C :=
  ⟨h.ga, h.gg, by rw [h.sub, List.contains_cons, hu, Bool.or_true], h.dict⟩
theorem EC.kit {K : PySem.W.Frag} {c c' : Str} {C C' : Addr} {up up' : List Value} (h : EC K c C up) (h' : EC K c' C' up') : PySem.W.kitOne K (.ref C) (.ref C') = some (decide (C = C') || up.contains (.ref C')) := by
  unfold PySem.W.kitOne
  by_cases e : C = C'
  · subst e
    rw [if_pos (beq_self_eq_true _)]
    simp
  · have ne : (Value.ref C == Value.ref C') = false := beq_eq_false_iff_ne.mpr fun z => e (Value.ref.inj z)
    rw [if_neg (by rw [ne]; exact Bool.false_ne_true)]
    unfold PySem.W.kitCls
    obtain ⟨cd, e2, _⟩ := h'.cls
    have hcond : ((PySem.W.clsIn K C').isSome && PySem.W.typeIn K (.ref C') == some (.type "type")) = true := by
      rw [e2, h'.ty]
      simp
    dsimp only
    rw [if_pos hcond, h.sub, List.contains_cons]
    have ne2 : (Value.ref C' == Value.ref C) = false := beq_eq_false_iff_ne.mpr fun z => e (Value.ref.inj z).symm
    rw [ne2]
    simp [e]
theorem EC.kitT {K : PySem.W.Frag} {c : Str} {C : Addr} {up : List Value} {T : String} (h : EC K c C up) (hT : PySem.W.kitMeta T = true) : PySem.W.kitOne K (.ref C) (.type T) = some (up.contains (.type T)) := by
  unfold PySem.W.kitOne
  rw [if_neg (by simp)]
  unfold PySem.W.kitCls
  dsimp only
  rw [if_pos hT, h.sub, List.contains_cons]
  have : (Value.type T == Value.ref C) = false := rfl
  rw [this, Bool.false_or]
theorem EC.exm {K : PySem.W.Frag} {c c' : Str} {C C' : Addr} {up up' : List Value} (h : EC K c C up) (h' : EC K c' C' up') (hu : up'.contains (.type "BaseException") = true) : PySem.W.exmOne K (.ref C) (.ref C') = some (decide (C = C') || up.contains (.ref C')) := by
  refine PySem.W.exm_ref (by rw [h'.sub, List.contains_cons, hu, Bool.or_true]) h'.dict h'.ty ?_
  rw [h.sub, List.contains_cons]
  congr 2
  by_cases e : C = C'
  · subst e; simp
  · have ne2 : (Value.ref C' == Value.ref C) = false := beq_eq_false_iff_ne.mpr fun z => e (Value.ref.inj z).symm
    rw [ne2]
    simp [e]
theorem names_of {x : Str} {c : Value} (h : X.mg x = some c) (hg : Gl X x) (hdb : (x == ("__debug__" : Str)) = false := by decide) : Names X x c := ⟨hg, hdb, .inl h⟩
end
end Pd

/-! Facts of a text's error classes, all at once. -/
namespace Pd
open PySem L2 Evl Hg
open PySem.Spec PyProof.Rows
theorem takesCx {P : Program} {wo : World} {K : PySem.W.Frag} {mg : Str → Option Value} {base : Heap} {N : List Str} {q : Str} {sc : Scope} {f : Addr} {cdv : Value} {A : Around} {out : List Env} {s : Shared} {H : Hp} {E : XK} :
    Takes (cxOf (L2.CX P wo) P wo K mg base N q sc f cdv A out s H E) (WE0 E) := takes_of rfl rfl rfl rfl
theorem passesCx {CX : CXT} {P : Program} {wo : World} {K : PySem.W.Frag} {mg : Str → Option Value} {base : Heap} {N : List Str} {q : Str} {sc : Scope} {f : Addr} {cdv : Value} {A : Around} {out : List Env} {s : Shared} {H : Hp} {E : XK} :
    PassesOwn (model P wo) (cxOf CX P wo K mg base N q sc f cdv A out s H E).A (cxOf CX P wo K mg base N q sc f cdv A out s H E).env (cxOf CX P wo K mg base N q sc f cdv A out s H E).xe := passes_of rfl
/-- an error class: its name, its attribute (none: it bears nothing) -/
abbrev ErrL := List (Str × Option Str)
def upOf (ad : Str → Addr) (root c : Str) : List Value := if c = root then Hx.exLast else .ref (ad root) :: Hx.exLast
/-- the error classes L of a text, all over root -/
structure Errs (K : PySem.W.Frag) (mg : Str → Option Value) (ad : Str → Addr) (root : Str) (L : List Str) (A : List (Str × Str)) : Prop where
  c : ∀ x ∈ L, mg x = some (.ref (ad x))
  ec : ∀ x ∈ L, EC K x (ad x) (upOf ad root x)
  rt : root ∈ L
  at_ : ∀ p ∈ A, PySem.W.findIn K (.ref (ad p.1)) p.2 = some none
  hn : PySem.W.specialIn K (.builtin "object.__class__") "__get__" = some (some (.builtin "getset_descriptor.__get__"))
  ht : PySem.W.takesIn K (.builtin "object.__class__") = some true
section
variable {K : PySem.W.Frag} {mg : Str → Option Value} {ad : Str → Addr} {root : Str} {L : List Str} {A : List (Str × Str)}
theorem ex_base : Hx.exLast.contains (.type "BaseException") = true := by decide +kernel
theorem ex_obj : Hx.exLast.contains (.type "object") = true := by decide +kernel
theorem up_has (v : Value) (h : Hx.exLast.contains v = true) (x : Str) : (upOf ad root x).contains v = true := by
  unfold upOf
  split
  · exact h
  · rw [List.contains_cons, h, Bool.or_true]
theorem ex_ref (a : Addr) : Hx.exLast.contains (.ref a) = false := by rfl
def isErr (root : Str) (L : List Str) (cn c : Str) : Option Bool := if c ∈ L then some (decide (c = cn) || decide (cn = root)) else none
def isErrB (L : List Str) (b : Bool) (c : Str) : Option Bool := if c ∈ L then some b else none
theorem Errs.exc (T : Errs K mg ad root L A) {x : Str} (h : x ∈ L) : ExcC K (ad x) := (T.ec x h).excC (up_has _ ex_base x) (up_has _ ex_obj x) T.hn T.ht
theorem Errs.inj (T : Errs K mg ad root L A) {x y : Str} (hx : x ∈ L) (hy : y ∈ L) : decide (ad x = ad y) = decide (x = y) := by
  by_cases e : x = y
  · subst e; simp
  · rw [decide_eq_false e, decide_eq_false ((T.ec x hx).ne (T.ec y hy) e)]
theorem Errs.up (T : Errs K mg ad root L A) {x y : Str} (hx : x ∈ L) (hy : y ∈ L) : (decide (ad x = ad y) || (upOf ad root x).contains (.ref (ad y))) = (decide (x = y) || decide (y = root)) := by
  rw [T.inj hx hy]
  unfold upOf
  split
  · rename_i e
    subst e
    rw [ex_ref, Bool.or_false]
    by_cases e : x = y
    · subst e; simp
    · rw [decide_eq_false e, decide_eq_false (Ne.symm e)]
      rfl
  · rw [List.contains_cons, ex_ref, Bool.or_false]
    congr 1
    have : (Value.ref (ad y) == Value.ref (ad root)) = decide (ad y = ad root) := by
      by_cases e : ad y = ad root
      · rw [e]; simp
      · rw [decide_eq_false e]
        exact beq_eq_false_iff_ne.mpr fun z => e (Value.ref.inj z)
    rw [this, T.inj hy T.rt]
theorem Errs.i (T : Errs K mg ad root L A) (cn : Str) (hc : cn ∈ L) : ∀ c b, isErr root L cn c = some b → ∀ C, mg c = some (.ref C) → ExcC K C ∧ PySem.W.kitOne K (.ref C) (.ref (ad cn)) = some b := by
  intro c b e C hm
  unfold isErr at e
  split at e
  · rename_i h
    rw [T.c c h] at hm
    cases hm
    cases e
    refine ⟨T.exc h, ?_⟩
    rw [(T.ec c h).kit (T.ec cn hc), T.up h hc]
  · cases e
theorem Errs.iT (T : Errs K mg ad root L A) (Ty : String) (b : Bool) (hT : PySem.W.kitMeta Ty = true) (hb : Hx.exLast.contains (.type Ty) = b) : ∀ c b', isErrB L b c = some b' → ∀ C, mg c = some (.ref C) → ExcC K C ∧ PySem.W.kitOne K (.ref C) (.type Ty) = some b' := by
  intro c b' e C hm
  unfold isErrB at e
  split at e
  · rename_i h
    rw [T.c c h] at hm
    cases hm
    cases e
    refine ⟨T.exc h, ?_⟩
    rw [(T.ec c h).kitT hT]
    unfold upOf
    split
    · rw [hb]
    · rw [List.contains_cons, hb]
      have : (Value.type Ty == Value.ref (ad root)) = false := rfl
      rw [this, Bool.false_or]
  · cases e
theorem Errs.f (T : Errs K mg ad root L A) (cs : List Str) (at_ : Str) (h : (cs.all fun c => decide (c ∈ L) && decide ((c, at_) ∈ A)) = true) : ∀ c ∈ cs, ∀ C, mg c = some (.ref C) → XfC K C ∧ PySem.W.findIn K (.ref C) at_ = some none := by
  intro c hc C hm
  have z := List.all_eq_true.mp h c hc
  rw [Bool.and_eq_true, decide_eq_true_eq, decide_eq_true_eq] at z
  rw [T.c c z.1] at hm
  cases hm
  exact ⟨(T.ec c z.1).xfC (up_has _ ex_base c), T.at_ _ z.2⟩
theorem Errs.tr (T : Errs K mg ad root L A) (errs : List Str) (h : (errs.all fun c => decide (c ∈ L)) = true) : ∀ c ∈ errs, ∀ C, mg c = some (.ref C) → PySem.W.exmOne K (.ref C) (.ref (ad root)) = some ((fun _ => true) c) := by
  intro c hc C hm
  have z := of_decide_eq_true (List.all_eq_true.mp h c hc)
  rw [T.c c z] at hm
  cases hm
  rw [(T.ec c z).exm (T.ec root T.rt) (up_has _ ex_base root), T.up z T.rt]
  simp
end
end Pd

/-! From the text's facts to the layer; from a law's function to its row's end. -/
namespace Pd
open PySem L2 Evl Hg
open PySem.Spec PyProof.Rows
/-- a def that the top has written -/
structure DF (K : PySem.W.Frag) (x : Str) (st : PySem.Stmt) : Prop where
  ex : ∃ (f : Addr) (fd : FuncData), PySem.W.nsIn K mainGlobals x = some (some (.ref f)) ∧ Fun K x x st f fd
theorem DF.mk1 {K : PySem.W.Frag} {x : Str} {st : PySem.Stmt} {f : Addr} {oc kV dc pm cd ct : Value} {od an : Option Addr} {sl : Array (Option Value)} (a : PySem.W.nsIn K mainGlobals x = some (some (.ref f)))
    (l : K.lookup f = some ⟨oc, od, .func (PySem.W.fnOf x x (defArgs st) (defBody st) (defScope st) .none kV dc pm an cd ct), sl⟩) (c : PySem.W.codeIn K cd x = true) (k : PySem.W.keepIn K (.ref f) = true) : DF K x st := ⟨f, _, a, fun_mk l c k⟩
/-- an error class of the text with an own `__init__` -/
structure EF (K : PySem.W.Frag) (c name q : Str) (st : PySem.Stmt) (C : Addr) (up : List Value) : Prop where
  ns : PySem.W.nsIn K mainGlobals c = some (some (.ref C))
  ec : EC K c C up
  made : PySem.W.excInitIn K C Hx.exLast "Exception.__new__" = true
  put : PySem.W.findIn K (.ref C) "__setattr__" = some (some (.builtin "object.__setattr__"))
  keep : PySem.W.keepIn K (.ref C) = true
  fn : ∃ (f : Addr) (fd : FuncData), PySem.W.findIn K (.ref C) "__init__" = some (some (.ref f)) ∧ PySem.W.typeIn K (.ref f) = some (.type "function") ∧ Fun K "__init__" q st f fd
  no : PySem.W.findIn K (.ref C) name = some none
abbrev excSl (k0 k1 k2 k3 k5 : Option Value) : Array (Option Value) := #[k0, k1, k2, k3, some (.builtin "Exception.__new__"), k5]
theorem EF.mk1 {K : PySem.W.Frag} {c name q : Str} {st : PySem.Stmt} {C f CW : Addr} {od an od2 : Option Addr} {bs sub : List Value} {n : Addr} {qn : Str} {sn : List Str} {ab : Bool} {col : Option Bool} {k0 k1 k2 k3 k5 : Option Value} {sl2 : Array (Option Value)} {kV dc pm cd ct : Value}
    (a : PySem.W.nsIn K mainGlobals c = some (some (.ref C))) (l : K.lookup C = some ⟨.type "type", od, .cls ⟨c, bs, .ref C :: .ref CW :: Hx.exLast, n, qn, true, sn, sub, ab, col, false⟩, excSl k0 k1 k2 k3 k5⟩)
    (ga : PySem.W.findIn K (.ref C) "__getattribute__" = some (some (.builtin "BaseException.__getattribute__"))) (gg : PySem.W.findIn K (.ref C) "__getattr__" = some none) (ha : PySem.W.findIn K (.ref C) "__class__" = some (some (.builtin "object.__class__")))
    (p : PySem.W.findIn K (.ref C) "__setattr__" = some (some (.builtin "object.__setattr__"))) (k : PySem.W.keepIn K (.ref C) = true)
    (i : PySem.W.findIn K (.ref C) "__init__" = some (some (.ref f))) (l2 : K.lookup f = some ⟨.type "function", od2, .func (PySem.W.fnOf "__init__" q (defArgs st) (defBody st) (defScope st) .none kV dc pm an cd ct), sl2⟩) (cc : PySem.W.codeIn K cd q = true) (kf : PySem.W.keepIn K (.ref f) = true)
    (no : PySem.W.findIn K (.ref C) name = some none) : EF K c name q st C (.ref CW :: Hx.exLast) :=
  ⟨a, ⟨⟨_, _, _, _, _, _, _, _, _, _, l⟩, ga, gg, ha⟩, by
    unfold PySem.W.excInitIn
    rw [l]
    simp [PySem.W.excTail], p, k, ⟨f, _, i, by show (K.lookup f).map (·.cls) = _; rw [l2]; rfl, fun_mk l2 cc kf⟩, no⟩
/-- .. without one -/
structure EB (K : PySem.W.Frag) (c : Str) (C : Addr) (up : List Value) : Prop where
  ns : PySem.W.nsIn K mainGlobals c = some (some (.ref C))
  ec : EC K c C up
  made : PySem.W.excIn K C Hx.exLast "Exception.__new__" = true
  keep : PySem.W.keepIn K (.ref C) = true
def strKeys (es : Array DictEntry) : Bool := es.toList.all fun e => match e.key with | .str _ _ => true | _ => false
theorem ns_ok {K : PySem.W.Frag} {n : Addr} {oc : Value} {od : Option Addr} {es : Array DictEntry} {k : Nat} {sl : Array (Option Value)} (l : K.lookup n = some ⟨oc, od, .dict es k, sl⟩) (h : strKeys es = true) : PySem.W.nsOkIn K n = true := by
  unfold PySem.W.nsOkIn
  rw [l]
  dsimp only
  rw [← Array.all_toList]
  exact h
theorem tail_last {K : PySem.W.Frag} : PySem.W.tailIn K Hx.exLast Hx.exLast = true := by
  unfold PySem.W.tailIn
  simp
theorem tail_one {K : PySem.W.Frag} {CW n : Addr} {oc oc2 : Value} {od od2 : Option Addr} {nm qn : Str} {bs mro sub : List Value} {hd ab dl : Bool} {sn : List Str} {col : Option Bool} {sl sl2 : Array (Option Value)} {es : Array DictEntry} {k : Nat}
    (l : K.lookup CW = some ⟨oc, od, .cls ⟨nm, bs, mro, n, qn, hd, sn, sub, ab, col, dl⟩, sl⟩) (l2 : K.lookup n = some ⟨oc2, od2, .dict es k, sl2⟩) (h : strKeys es = true) (ni : PySem.W.nsIn K n "__init__" = some none) : PySem.W.tailIn K Hx.exLast (.ref CW :: Hx.exLast) = true := by
  unfold PySem.W.tailIn
  dsimp only
  rw [l]
  dsimp only
  rw [ns_ok l2 h, ni, tail_last]
  simp
theorem EB.mk1 {K : PySem.W.Frag} {c : Str} {C : Addr} {up : List Value} {od : Option Addr} {bs sub : List Value} {n : Addr} {qn : Str} {sn : List Str} {ab : Bool} {col : Option Bool} {k0 k1 k2 k3 k5 : Option Value} {oc2 : Value} {od2 : Option Addr} {sl2 : Array (Option Value)} {es : Array DictEntry} {k' : Nat}
    (a : PySem.W.nsIn K mainGlobals c = some (some (.ref C))) (l : K.lookup C = some ⟨.type "type", od, .cls ⟨c, bs, .ref C :: up, n, qn, true, sn, sub, ab, col, false⟩, excSl k0 k1 k2 k3 k5⟩)
    (ga : PySem.W.findIn K (.ref C) "__getattribute__" = some (some (.builtin "BaseException.__getattribute__"))) (gg : PySem.W.findIn K (.ref C) "__getattr__" = some none) (ha : PySem.W.findIn K (.ref C) "__class__" = some (some (.builtin "object.__class__")))
    (l2 : K.lookup n = some ⟨oc2, od2, .dict es k', sl2⟩) (h : strKeys es = true) (ni : PySem.W.nsIn K n "__init__" = some none) (tl : PySem.W.tailIn K Hx.exLast up = true) (k : PySem.W.keepIn K (.ref C) = true) : EB K c C up :=
  ⟨a, ⟨⟨_, _, _, _, _, _, _, _, _, _, l⟩, ga, gg, ha⟩, by
    unfold PySem.W.excIn
    rw [l]
    simp [tl, ns_ok l2 h, ni], k⟩
theorem EC.over {K : PySem.W.Frag} {c : Str} {C CW : Addr} (h : EC K c C (.ref CW :: Hx.exLast)) : PySem.W.excOver K C Hx.exLast = true := by
  obtain ⟨cd, e, _, hm, _⟩ := h.cls
  unfold PySem.W.excOver
  rw [e]
  show (match cd.mro with | .ref C' :: bm => C' == C && PySem.W.excTail Hx.exLast bm | _ => false) = true
  rw [hm]
  simp [PySem.W.excTail]
theorem EF.err {K : PySem.W.Frag} {c name q : Str} {st : PySem.Stmt} {C CW : Addr} (h : EF K c name q st C (.ref CW :: Hx.exLast)) : ∃ (f : Addr) (fd : FuncData), Hx.Err K C f ∧ Fun K "__init__" q st f fd ∧ PySem.W.takerIn K C name = some none := by
  obtain ⟨f, fd, i, t, F⟩ := h.fn
  refine ⟨f, fd, ⟨h.made, h.ec.over, h.ec.dict, h.put, ?_, h.ec.ty, h.keep, i, t⟩, F, ?_⟩
  · rw [h.ec.sub, List.contains_cons, List.contains_cons, ex_base, Bool.or_true, Bool.or_true]
  · unfold PySem.W.takerIn
    rw [h.no]
    rfl
section
end
abbrev FF0 := List D → Sto → Option (R D × Sto)
section
variable {P : Program} {wo : World} {K : PySem.W.Frag} {mg : Str → Option Value} {base h : Heap} {k n : Nat} {x : Str} {st : PySem.Stmt} {ps : List Str} {sp : Sp}
theorem DF.cal {CX : CXT} (d : DF K x st) (X : K.In h) (G : h.Ns mainGlobals mg)
    (bd : ∀ (kV doc pm : Value) (an : Option Addr) (cdv ct : Value) (us : List Value), us.length = ps.length → bindArgs (PySem.W.fnOf x x (defArgs st) (defBody st) (defScope st) .none kV doc pm an cdv ct) ⟨us, []⟩ = pure (ps.zip us))
    (ok : ∀ (f : Addr) (fd : FuncData), Fun K x x st f fd → FnG P wo K mg base CX k f fd ps sp) : Hg.Cal P wo K mg base CX k x sp := by
  obtain ⟨f, fd, a, F⟩ := d.ex
  exact ⟨f, fd, ps, ok f fd F, PySem.W.mg_of X G a, F.kp, F.binds bd⟩
theorem EF.errG {c name pn q : Str} {C CW : Addr} (e : EF K c name q st C (.ref CW :: Hx.exLast)) (X : K.In h) (G : h.Ns mainGlobals mg)
    (bd : ∀ (kV doc pm : Value) (an : Option Addr) (cdv ct : Value) (us : List Value), us.length = 2 → bindArgs (PySem.W.fnOf "__init__" q (defArgs st) (defBody st) (defScope st) .none kV doc pm an cdv ct) ⟨us, []⟩ = pure ([("self" : Str), pn].zip us))
    (bk : ∀ (kV doc pm : Value) (an : Option Addr) (cdv ct y z : Value), bindArgs (PySem.W.fnOf "__init__" q (defArgs st) (defBody st) (defScope st) .none kV doc pm an cdv ct) ⟨[y], [(pn, z)]⟩ = pure [(("self" : Str), y), (pn, z)])
    (ok : ∀ (f : Addr) (fd : FuncData), Fun K "__init__" q st f fd → FnOk P wo K mg base CX0 1 f fd ["self", pn] (Hx.spKeep K name)) : ErrG P wo K mg base 1 c name pn := by
  obtain ⟨f, fd, T, F, no⟩ := e.err
  refine ⟨C, f, fd, ["self", pn], PySem.W.mg_of X G e.ns, T, no, ok f fd F, rfl, F.binds bd, fun s y z _ => ?_⟩
  obtain ⟨oc, od, kV, doc, pm, an, cdv, ct, osl, rfl, lk, hcd⟩ := F.ex
  exact .of_eq (bk kV doc pm an cdv ct y z)
/-- a def that promises nothing -/
theorem fn_none {CX : CXT} {f : Addr} {fd : FuncData} : FnG P wo K mg base CX k f fd ps (spD K mg n fun _ _ => none) := by
  refine ⟨fun vs H Q E h => ?_, fun A out s H args us vs Q E g hr e0 hb r h => ?_⟩
  · obtain ⟨w, S, ds, _, _, _, r, S', e, _⟩ := h
    cases e
  · obtain ⟨w, S, ds, _, _, _, r, S', e, _⟩ := h
    cases e
/-- the law, as its row asks -/
def spLaw (K : PySem.W.Frag) : Sp := fun vs H Q _ => ∃ (a : Addr) (ns : List Int), vs = [.ref a] ∧ SqL K H a (ns.map V.int) ∧ ns.length ≤ 63 ∧ ∀ H2, Q (.bl true) H2
theorem fnG_law {fa : Addr} {fd : FuncData} {F : FF0} (g : FnG P wo K mg base (L2.CX P wo) k fa fd [x] (spD K mg 1 F)) (hq : ∀ ns : List Int, ns.length ≤ 63 → ∃ S', F [.scr ns] [] = some (.ok (.bl true), S')) : FnG P wo K mg base CX0 k fa fd [x] (spLaw K) := by
  refine ⟨fun vs H Q E h => by obtain ⟨a, ns, rfl, _⟩ := h; rfl, fun A out s H args us vs Q E gq hr e0 hb r h => ?_⟩
  obtain ⟨a, ns, rfl, hS, hl, q⟩ := h
  obtain ⟨S', e⟩ := hq ns hl
  have at0 : At K mg ⟨H, []⟩ H [] := ⟨Ex.refl _, rfl, List.nodup_nil, fun a ha => absurd ha List.not_mem_nil, fun k a o h => by simp at h⟩
  have sp : spD K mg 1 F [.ref a] H Q (fun _ _ _ => False) := by
    refine ⟨⟨H, []⟩, [], [.scr ns], at0, .cons (.scr hS) .nil, rfl, _, _, e, fun d hd v H' w' _ _ hv => ?_, fun _ _ z => nomatch z⟩
    cases hd
    cases hv
    exact q H'
  refine codeAny_mono (g.go A out s H args us [.ref a] Q (fun _ _ _ => False) gq hr e0 hb r sp) fun r s' z => ?_
  match r, z with
  | .error er, z =>
    obtain ⟨_, _, _, _, _, _, _, _, _, _, _, _, f⟩ := z
    exact f.elim
  | .ok (.ret u), z => exact z
  | .ok .next, z => exact z
  | .ok .brk, z => exact z
  | .ok .cont, z => exact z
theorem walkD {l : PySem.W.OpenLaw} {q : Program} {loose : List Str} {XP : (Str → Option Value) → Heap → Prop} {YP : World → Heap → Prop} {d : DefRec} {K : Params → PySem.W.Frag} (hn : l.most = some 63) (hdf : d.params.defaults = []) (hi : PyProof.Rows.importsNone q = true) {k : Nat} (hr : Room k callerA)
    (hY : ∀ (w : World) (h : Heap), YP w h → (K w.params).In h)
    (F : ∀ (w : World) (mg : Str → Option Value) (fa : Addr) (h : Heap), (K w.params).In h → h.Ns mainGlobals mg → mg d.name = some (.ref fa) →
      ∃ fd : FuncData, (∀ (s : Shared) (u : Value), BindsTo s fd ⟨[u], []⟩ [("_law_script", u)]) ∧ ∀ base : Heap, (K w.params).In base → base.Ns mainGlobals mg → Sys base → FnG l.prog w (K w.params) mg base CX0 k fa fd ["_law_script"] (spLaw (K w.params))) :
    PySem.W.WalkO q loose XP YP l.row.toRowW d [] (fun f vs => PySem.call f vs) :=
  Hg.walkG (n := 63) (k := k) (x := "_law_script") (sp := fun K => spLaw K) hn (by decide) hdf hr hi hY F fun K H a ns hl _ hS => ⟨a, ns, rfl, hS, hl, fun _ => rfl⟩
end
/-- the address of a class -/
noncomputable def adOf (mg : Str → Option Value) (c : Str) : Addr := match mg c with
  | some (.ref a) => a
  | _ => 0
theorem adOf_eq {mg : Str → Option Value} {c : Str} {C : Addr} (h : mg c = some (.ref C)) : adOf mg c = C := by unfold adOf; rw [h]
end Pd

/-! sorted(set(t)) of a tuple of whole numbers. -/
namespace Pd
open PySem L2 Evl Hg
open PySem.Spec PyProof.Rows
section
variable {X : Cx} {W : WX} {z : Option Zi} {w0 : W0} {w w' w1 : Wd} {σ : L2.St} {H H' H1 : Hp} {ρ ρ' : Rho} {S S' S1 : Sto} {K : PySem.W.Frag} {mg : Str → Option Value} {e : Expr} {me : M D} {p p2 q pos : Pos}
def rSetTI (K : PySem.W.Frag) (w : World) : List V → Hp → VK → Prop := fun xs H Q => ∃ (l : Addr) (ns : List Int), xs = [.ref l] ∧ SqT K H l (ns.map V.int) ∧ ns.length ≤ 1000 ∧
  ∀ (a : Addr) (S : Int → Bool) (n : Nat), H a = none → (∀ k, S k = true ↔ k ∈ ns) → n ≤ ns.length → Q (.ref a) (upd H a (SetO w a S n))
theorem cr_setTI (hc : X.calm = true) : CallR X (.type "set") (rSetTI X.K X.w) := by
  intro pins s σ H xs us Q I r h
  obtain ⟨l, ns, rfl, hq, hl, k⟩ := h
  cases r with
  | cons rx rr =>
    cases rr
    cases rx
    obtain ⟨its, rv, pt, hz⟩ := I.tuple hq
    refine call_set_tupI ns (I.ok.hd hc) (show s.heap.IsTuple l its.toArray from pt) (show IntsAre its.toArray.toList ns from ints_of_vals rv) (by unfold scanBound; omega) fun h' tk c R1 hcn kp => ?_
    have nf : H s.heap.objs.size = none := I.hok.fresh (Nat.le_refl _)
    exact ⟨.ref _, _, I.laid (t' := tk) kp (Nat.le_refl _) (setO_new R1), rfl, k _ _ c nf (fun k => by simp) hcn⟩
/-! ### ascending, each one once -/
def insI (k : Int) : List Int → List Int
  | [] => [k]
  | x :: l => if k < x then k :: x :: l else if k = x then x :: l else x :: insI k l
def sortI : List Int → List Int
  | [] => []
  | k :: l => insI k (sortI l)
theorem mem_insI (k j : Int) : ∀ l : List Int, j ∈ insI k l ↔ j = k ∨ j ∈ l
  | [] => by simp [insI]
  | x :: l => by
    have ih := mem_insI k j l
    unfold insI
    split
    · simp
    · split
      · rename_i e
        subst e
        simp
      · simp only [List.mem_cons, ih]
        constructor
        · rintro (h | h | h)
          · exact .inr (.inl h)
          · exact .inl h
          · exact .inr (.inr h)
        · rintro (h | h | h)
          · exact .inr (.inl h)
          · exact .inl h
          · exact .inr (.inr h)
theorem asc_insI (k : Int) : ∀ {l : List Int}, l.Pairwise (· < ·) → (insI k l).Pairwise (· < ·)
  | [], _ => by simp [insI]
  | x :: l, h => by
    obtain ⟨h1, h2⟩ := List.pairwise_cons.mp h
    unfold insI
    split
    · rename_i c
      refine List.pairwise_cons.mpr ⟨fun y hy => ?_, h⟩
      rcases List.mem_cons.mp hy with rfl | hy
      · exact c
      · have := h1 y hy; omega
    · split
      · exact h
      · refine List.pairwise_cons.mpr ⟨fun y hy => ?_, asc_insI k h2⟩
        rcases (mem_insI k y l).mp hy with rfl | hy
        · omega
        · exact h1 y hy
theorem mem_sortI (j : Int) : ∀ l : List Int, j ∈ sortI l ↔ j ∈ l
  | [] => Iff.rfl
  | k :: l => by
    show j ∈ insI k (sortI l) ↔ _
    rw [mem_insI, mem_sortI j l, List.mem_cons]
theorem asc_sortI : ∀ l : List Int, (sortI l).Pairwise (· < ·)
  | [] => List.Pairwise.nil
  | k :: l => asc_insI k (asc_sortI l)
theorem asc_ext : ∀ {l m : List Int}, l.Pairwise (· < ·) → m.Pairwise (· < ·) → (∀ k, k ∈ l ↔ k ∈ m) → l = m
  | [], [], _, _, _ => rfl
  | [], y :: m, _, _, h => absurd ((h y).mpr List.mem_cons_self) List.not_mem_nil
  | x :: l, [], _, _, h => absurd ((h x).mp List.mem_cons_self) List.not_mem_nil
  | x :: l, y :: m, hl, hm, h => by
    obtain ⟨a1, a2⟩ := List.pairwise_cons.mp hl
    obtain ⟨b1, b2⟩ := List.pairwise_cons.mp hm
    have e : x = y := by
      have hx := (h x).mp List.mem_cons_self
      have hy := (h y).mpr List.mem_cons_self
      rcases List.mem_cons.mp hx with e | hx
      · exact e
      · rcases List.mem_cons.mp hy with e | hy
        · exact e.symm
        · have := b1 x hx
          have := a1 y hy
          omega
    subst e
    have : l = m := asc_ext a2 b2 fun k => by
      constructor
      · intro hk
        rcases List.mem_cons.mp ((h k).mp (List.mem_cons_of_mem _ hk)) with e | z
        · have := a1 k hk; omega
        · exact z
      · intro hk
        rcases List.mem_cons.mp ((h k).mpr (List.mem_cons_of_mem _ hk)) with e | z
        · have := b1 k hk; omega
        · exact z
    rw [this]
def intsOfD : List D → Option (List Int)
  | [] => some []
  | .int i :: r => (intsOfD r).map (i :: ·)
  | _ => none
theorem ints_dt : ∀ {vs : List V} {ds : List D} {ns : List Int}, DtA K mg w vs ds → intsOfD ds = some ns → vs = ns.map V.int
  | _, _, _, .nil, e => by cases e; rfl
  | _, _, _, .cons (d := d) (ds := ds) h hs, e => by
    cases d <;> first | (exfalso; simp [intsOfD] at e; done) | skip
    simp only [intsOfD] at e
    cases q : intsOfD ds with
    | none => rw [q] at e; cases e
    | some r =>
      rw [q] at e
      cases e
      cases h
      rw [ints_dt hs q]
      rfl
def sortSetD : D → Option D
  | .tup ds => (intsOfD ds).bind fun ns => if ns.length < 64 then some (.lst ((sortI ns).map D.int)) else none
  | _ => none
def m_sortSet (m : M D) : M D := m.bind fun d => M.lift fun ρ S => (rsv ρ S d).bind sortSetD
theorem dta_ints : ∀ ns : List Int, DtA K mg w (ns.map V.int) (ns.map D.int)
  | [] => .nil
  | i :: r => .cons (.int i) (dta_ints r)
/-- sorted(set(e)) -/
theorem pd_sortSetI (hc : X.calm = true) (hg : Gl X "sorted") (hm : X.mg "sorted" = none) (hg2 : Gl X "set") (hm2 : X.mg "set" = none) (he : PD X W z e me)
    (h1 : starEach [e] X.env = (false, eval e X.env) :: starEach [] X.env := by rfl) (hpl : (backTo q (starEach [] X.env)).any (·.1) = false := by rfl)
    (h2 : starEach [.Call (.Name "set" p2) [e] [] q] X.env = (false, eval (.Call (.Name "set" p2) [e] [] q) X.env) :: starEach [] X.env := by rfl) (hpl2 : (backTo pos (starEach [] X.env)).any (·.1) = false := by rfl) :
    PD X W z (.Call (.Name "sorted" p) [.Call (.Name "set" p2) [e] [] q] [] pos) (m_sortSet me) :=
  pe_mono (pe_callB (cr_sortedSet hc) hg hm (by decide +kernel) (pa_cons (pe_callTy (cr_setTI hc) hg2 hm2 (by decide +kernel) (pa_cons he pa_nil h1) (by decide) (by decide) h1 hpl) pa_nil h2) (by decide) (by decide) h2 hpl2) fun σ H Q h => by
    obtain ⟨w, ρ, S, h⟩ := h
    refine ⟨w, ρ, S, h.bind fun d v w1 H1 S1 st rd h1 => ?_⟩
    obtain ⟨y, e, k⟩ := h1.lift
    cases q1 : rsv ρ S1 d with
    | none => rw [q1] at e; cases e
    | some d' =>
      rw [q1, Option.bind_some] at e
      have rs := Rs.of h1.t h1.s rd q1
      cases d' <;> first | (exfalso; simp [sortSetD] at e; done) | skip
      rename_i ds
      obtain ⟨l, xs, rfl, hl, hx⟩ := rs
      simp only [sortSetD] at e
      cases q2 : intsOfD ds with
      | none => rw [q2] at e; cases e
      | some ns =>
        rw [q2, Option.bind_some] at e
        split at e
        · rename_i c64
          cases e
          have ex := ints_dt hx q2
          subst ex
          refine ⟨l, ns, rfl, ex_t h1.t.sub hl, by omega, fun a S n na hS hn => ?_⟩
          refine ⟨a, S, n, rfl, upd_same, by omega, fun out b asc mem len nb => ?_⟩
          have eo : out = sortI ns := asc_ext asc (asc_sortI ns) fun k => by rw [mem_sortI, mem, hS]
          subst eo
          have nab : b ≠ a := fun e => by rw [e, upd_same] at nb; cases nb
          have nb1 : H1 b = none := by rwa [upd_ne nab] at nb
          have sub2 : Ex w1.G (upd H1 a (SetO X.w a S n)) := h1.t.sub.trans (Ex.new na)
          have g := Grow.new (w := w1) (o := .lst ((sortI ns).map V.int)) sub2 nb
          have gG : Grow w1 (w1.new b (.lst ((sortI ns).map V.int))) H1 (upd (upd H1 a (SetO X.w a S n)) b (.lst ((sortI ns).map V.int))) := by
            refine ⟨g.g, rfl, (Ex.new na).trans g.h, g.sub, fun c o hc => ?_⟩
            have hc : upd w1.G b (.lst ((sortI ns).map V.int)) c = some o := hc
            by_cases e : c = b
            · subst e
              exact .inr nb1
            · rw [upd_ne e] at hc
              exact .inl hc
          exact k _ _ _ gG (.inl (.lst (Rd.of upd_same) (dta_ints _)))
        · cases e
end
end Pd

/-! Sets of texts that can be walked: what an add leaves. -/
namespace Pd
open PySem PySem.Froz L2
section
variable {P : Program} {w : World} {A : Around} {E : Value → Shared → Prop} {s : Shared} {a : Addr} {l : List Str} {k : Str} {u : Tok} {D : SD}
/-- its table rises, and can be walked -/
structure Walkable (w : World) (D : SD) : Prop where
  ris : Ris D.2.2.place.toList
  led : w.params.followText "set-order" = true ∨ D.2.2.led = true
theorem Walkable.add {h : Int} {v : Value} (W : Walkable w D) : Walkable w (addTx h v D) := by
  obtain ⟨es, ep, t⟩ := D
  have r1 := layNew_ris t es h v W.ris
  have l1 := layNew_led t es h v
  have l2 : w.params.followText "set-order" = true ∨ (layNew t es h v).2.1.led = true := W.led.imp id fun z => by rw [l1]; exact z
  unfold addTx tailTx
  dsimp only
  generalize layNew t es h v = Z at r1 l2 ⊢
  obtain ⟨es1, t1, wd, gv⟩ := Z
  dsimp only at r1 l2 ⊢
  have r2 : Ris (if t1.plain = true then { t1 with plain := false } else t1).place.toList := by split <;> exact r1
  have l3 : w.params.followText "set-order" = true ∨ (if t1.plain = true then { t1 with plain := false } else t1).led = true := by split <;> exact l2
  generalize (if t1.plain = true then { t1 with plain := false } else t1) = t2 at r2 l3 ⊢
  split
  · exact ⟨relayAll_ris t2 es1 _, l3.imp id fun z => by show (relayAll t2 es1 _).2.1.led = true; rw [relayAll_led]; exact z⟩
  · exact ⟨r2, l3⟩
/-- the set of texts at a: l its members, each once -/
def SetS (P : Program) (w : World) (h : Heap) (a : Addr) (l : List Str) : Prop := ∃ D : SD, h.get? a = some (sObj "set" D) ∧ TxOk P w D l ∧ l.Nodup ∧ Walkable w D
theorem upd_but (h : Heap) (a : Addr) (f : Obj → Obj) : Heap.SameBut a h (h.update a f) := Heap.SameBut.update h a f
theorem setS_new {Q : Bool → Shared → Prop} (S : SetS P w s.heap a l) (hk : k ∉ l) (room : l.length + 1 < scanBound) (q : ∀ h', Heap.SameBut a s.heap h' → SetS P w h' a (k :: l) → Q true { s with heap := h' }) :
    wpAny (model P w) A (setAddHashed a (.str k u) (hashStr w k)) Q E s := by
  obtain ⟨D, ho, F, nd, W⟩ := S
  refine add_x ho F hk room (q _ (upd_but _ _ _) ⟨_, get_upd _ ho rfl, add_ok u F, List.nodup_cons.mpr ⟨hk, nd⟩, W.add⟩)
theorem setS_old {Q : Bool → Shared → Prop} (S : SetS P w s.heap a l) (hk : k ∈ l) (room : l.length < scanBound) (q : Q false s) : wpAny (model P w) A (setAddHashed a (.str k u) (hashStr w k)) Q E s := by
  obtain ⟨⟨es, ep, t⟩, ho, F, nd, W⟩ := S
  have hd : (sObj "set" (es, ep, t)).data = .set es ep t := rfl
  have hf : t.fits es.size = true := F.fit
  have hsz : es.size = l.length := F.sz
  have hel : ElemsOf (strKind P w) es.toList := F.el
  have is_k : (strKind P w).is k (.str k u) = true := is_str k u
  obtain ⟨e0, he0, p0⟩ := (F.mem k).mp hk
  unfold setAddHashed setAddHashedIn
  refine wpAny_holding (wpAny_bind (wpAny_setState_of ho hd hf ?_))
  dsimp only
  rw [byScan_of rfl (by omega) hel]
  simp only [↓reduceIte]
  unfold setAddByScan
  refine wpAny_bind ?_
  refine wpAny_bind (wpAny_rule ?_)
  refine wpAny_bind (wpAny_setScan_of (knd := strKind P w) (k := k) is_k ho hd hf hel ?_)
  cases hr : List.findIdx? (fun e => (strKind P w).is k e.2) es.toList with
  | none =>
    have c := List.findIdx?_eq_none_iff.mp hr e0 he0
    rw [p0] at c
    cases c
  | some j =>
    dsimp only
    exact wpAny_pure (wpAny_pure q)
/-- an add, whether it is there or not -/
def putS (l : List Str) (k : Str) : List Str := if k ∈ l then l else k :: l
theorem setS_add {Q : Bool → Shared → Prop} (S : SetS P w s.heap a l) (room : l.length + 1 < scanBound) (q : ∀ b h', Heap.SameBut a s.heap h' → SetS P w h' a (putS l k) → Q b { s with heap := h' }) :
    wpAny (model P w) A (setAddHashed a (.str k u) (hashStr w k)) Q E s := by
  by_cases hk : k ∈ l
  · have e : putS l k = l := if_pos hk
    rw [e] at q
    exact setS_old S hk (by omega) (q false s.heap (Heap.SameBut.refl a s.heap) S)
  · have e : putS l k = k :: l := if_neg hk
    rw [e] at q
    exact setS_new S hk room fun h' sb r => q true h' sb r
theorem SetS.at {h h' : Heap} (S : SetS P w h a l) (k : ∀ o, h.get? a = some o → h'.get? a = some o) : SetS P w h' a l := by
  obtain ⟨D, ho, r⟩ := S
  exact ⟨D, k _ ho, r⟩
theorem setS_fresh {h : Heap} (w : World) : SetS P w (h.push { cls := .type "set", dict := none, data := .set #[] 0 (.fresh 0 0 (!w.params.followText "set-order")) }) h.objs.size [] := by
  refine ⟨(#[], 0, .fresh 0 0 (!w.params.followText "set-order")), Heap.get?_push_size _ rfl, TxOk.nil (by rfl), List.nodup_nil, List.Pairwise.nil, ?_⟩
  show _ ∨ (!w.params.followText "set-order") = true
  cases w.params.followText "set-order"
  · exact .inr rfl
  · exact .inl rfl
end
end Pd

/-! set(text): the signs, one by one. -/
namespace Pd
open PySem PySem.Froz L2
open PySem.Spec PyProof.Rows
def signs (x : Str) : List Str := x.cps.toList.map fun c => ⟨#[c]⟩
def putAll (xs : List Str) : List Str := xs.foldl putS []
theorem putS_len (l : List Str) (k : Str) : (putS l k).length ≤ l.length + 1 := by
  unfold putS
  split
  · omega
  · simp
theorem putAll_snoc (xs : List Str) (k : Str) : putAll (xs ++ [k]) = putS (putAll xs) k := by simp [putAll]
theorem putAll_len : ∀ (n : Nat) (xs : List Str), xs.length = n → (putAll xs).length ≤ n
  | 0, xs, h => by
    have : xs = [] := List.length_eq_zero_iff.mp h
    subst this
    exact Nat.le_refl _
  | n + 1, xs, h => by
    rcases List.eq_nil_or_concat xs with e | ⟨r, y, e⟩
    · subst e; cases h
    · rw [List.concat_eq_append] at e
      subst e
      have hr : r.length = n := by simpa using h
      have := putAll_len n r hr
      rw [putAll_snoc]
      have := putS_len (putAll r) y
      omega
theorem mem_putS {l : List Str} {k j : Str} : j ∈ putS l k ↔ j ∈ l ∨ j = k := by
  unfold putS
  split
  · rename_i h
    constructor
    · exact .inl
    · rintro (h' | rfl)
      · exact h'
      · exact h
  · rw [List.mem_cons]
    exact Or.comm
theorem mem_foldS : ∀ {xs acc : List Str} {j : Str}, j ∈ xs.foldl putS acc ↔ j ∈ acc ∨ j ∈ xs
  | [], acc, j => by simp
  | x :: xs, acc, j => by
    rw [List.foldl_cons, mem_foldS, mem_putS, List.mem_cons]
    constructor
    · rintro ((h | h) | h)
      · exact .inl h
      · exact .inr (.inl h)
      · exact .inr (.inr h)
    · rintro (h | h | h)
      · exact .inl (.inl h)
      · exact .inl (.inr h)
      · exact .inr h
theorem mem_putAll {xs : List Str} {j : Str} : j ∈ putAll xs ↔ j ∈ xs := by
  unfold putAll
  rw [mem_foldS]
  simp
section
variable {P : Program} {w : World} {A : Around} {E : Value → Shared → Prop} {s : Shared}
theorem upd_strs {I : Addr} {fp wr : List Addr} {G : Array GenState → Array GenState → Prop} {n : Nat} {Pv : Nat → Value → Prop} {St : Nat → Shared → Prop} {R : Result → Shared → Prop}
    (W : WalksS P w A.in1 I fp wr G n Pv St) (S : Addr) (off : S ∉ fp) (xs : List Str) (hn : n = xs.length) (hb : xs.length + 1 < scanBound) (hv : ∀ i v, Pv i v → ∃ k t, xs[i]? = some k ∧ v = .str k t) :
    ∀ (k i : Nat) (s : Shared), n - i = k → i ≤ n → St i s → SetS P w s.heap S (putAll (xs.take i)) → (∀ s', Moved (S :: wr) G s s' → SetS P w s'.heap S (putAll xs) → R (.ok (.ret .none)) s') →
      codeAny (model P w) A (.builtin "set.update.loop" ⟨[.ref S, .ref I], []⟩) R s := by
  have offw : S ∉ wr := fun h => off (W.sub _ h)
  have inc : ∀ b ∈ wr, b ∈ S :: wr := fun b hb => List.mem_cons_of_mem _ hb
  intro k
  induction k with
  | zero =>
    intro i s hk hi st hS go
    obtain rfl : i = n := by omega
    refine codeAny_builtin PyProof.Rows.F.entry_set_update_loop ?_
    rw [Around.under_plainId PyProof.Rows.F.plain_set_update_loop _]
    show wpAny _ A.in1 (pyNext (.ref I) >>= _) _ _ s
    refine wpAny_bind (W.done s _ _ st fun s' mv => ?_)
    show wpAny _ A.in1 (ret Value.none) _ _ s'
    rw [List.take_of_length_le (by omega)] at hS
    exact wpAny_pure (go s' (mv.mono inc) (hS.at fun o e => mv.heap S o offw e))
  | succ k ih =>
    intro i s hk hi st hS go
    have lt : i < n := by omega
    refine codeAny_builtin PyProof.Rows.F.entry_set_update_loop ?_
    rw [Around.under_plainId PyProof.Rows.F.plain_set_update_loop _]
    show wpAny _ A.in1 (pyNext (.ref I) >>= _) _ _ s
    refine wpAny_bind (W.item i s _ _ lt st fun v s' hp st' mv => ?_)
    obtain ⟨y, t, hy, rfl⟩ := hv i v hp
    have hS1 : SetS P w s'.heap S (putAll (xs.take i)) := hS.at fun o e => mv.heap S o offw e
    show wpAny _ A.in1 (holding [Value.str y t] (setAdd S (.str y t)) >>= _) _ _ s'
    refine wpAny_bind (wpAny_holding ?_)
    unfold setAdd
    refine wpAny_holding ?_
    refine wpAny_bind ((strKind P w).pyHash (k := y) (is_str _ _) ?_)
    have small : (putAll (xs.take i)).length + 1 < scanBound := by
      have := putAll_len _ (xs.take i) rfl
      have := List.length_take_le i xs
      omega
    refine setS_add (s := { s' with toks := s'.toks + 1 }) hS1 small fun b h' sb hS2 => ?_
    have hS3 : SetS P w h' S (putAll (xs.take (i + 1))) := by
      rw [List.take_add_one, hy]
      show SetS P w h' S (putAll (xs.take i ++ [y]))
      rw [putAll_snoc]
      exact hS2
    refine wpAny_pure ⟨plainId_quiet PyProof.Rows.F.plain_set_update_loop _, ih (i + 1) _ (by omega) lt (W.frame _ s' _ _ st' (Nat.le_succ _) fun c hc o e => ?_) hS3 fun s2 mv2 hS4 => ?_⟩
    · rw [sb.2 c (fun h : c = S => off (by rw [← h]; exact hc))]; exact e
    · refine go s2 (Moved.trans W.gtrans ((mv.mono inc).then_heap (Nat.le_succ _) fun c o hc e => ?_) mv2) hS4
      rw [sb.2 c (fun h : c = S => hc (by rw [h]; exact List.mem_cons_self))]; exact e
end
end Pd

/-! The call set(text). -/
namespace Pd
open PySem PySem.Froz L2
open PySem.Spec PyProof.Rows
section
variable {P : Program} {w : World} {A : Around} {E : Value → Shared → Prop} {s : Shared}
theorem call_setS {x : Str} {t : Tok} {Q : Value → Shared → Prop} (hh : A.handled = none) (hb : x.cps.size + 1 < scanBound)
    (h : ∀ (h' : Heap) (tk : Nat), SetS P w h' s.heap.objs.size (putAll (signs x)) → (∀ b o, s.heap.get? b = some o → h'.get? b = some o) → Q (.ref s.heap.objs.size) { s with heap := h', toks := tk }) :
    wpAny (model P w) A (call (.type "set") [.str x t]) Q E s := by
  have hlen : (signs x).length = x.cps.size := by simp [signs]
  obtain ⟨c, tl, hmro⟩ := F.called_set.mro
  have hmade := F.called_set.made
  have hsub := F.called_set.sub
  refine wpAny_call (codeAny_of_tree ?_)
  show wpAny _ _ (callAny (.type "set") _) _ _ _
  refine wpAny_pure ⟨Code.quiet_builtin _ (by decide +kernel), codeAny_builtin F.entry_type_call ?_⟩
  rw [Around.under_plain (weight_type_call_type "set" [.str x t] []) rfl]
  have h1 := F.called_set.notType
  have h2 := F.called_set.canCreate
  have hct := F.typeCall_set_1 (.str x t)
  repeat (any_goals (first | assumption | wp_step))
  refine codeAny_mono (code_set_led1 (.str x t) (E := E) (Q₁ := fun obj s₁ => obj = .ref s.heap.objs.size ∧ s₁ = { s with heap := s.heap.push { cls := .type "set", dict := none, data := .set #[] 0 (.fresh 0 0 (!w.params.followText "set-order")) } }) ⟨rfl, rfl⟩) fun r s₁ hr => ?_
  cases r with
  | error e => exact hr
  | ok fl =>
    cases fl with
    | ret obj =>
      obtain ⟨rfl, rfl⟩ := hr
      have hS : (s.heap.push { cls := .type "set", dict := none, data := .set #[] 0 (.fresh 0 0 (!w.params.followText "set-order")) }).get? s.heap.objs.size = some { cls := .type "set", dict := none, data := .set #[] 0 (.fresh 0 0 (!w.params.followText "set-order")) } := Heap.get?_push_size _ rfl
      have hT : Shared.TypeIs { s with heap := s.heap.push { cls := .type "set", dict := none, data := .set #[] 0 (.fresh 0 0 (!w.params.followText "set-order")) } } (.ref s.heap.objs.size) "set" := ⟨_, hS, rfl⟩
      have hli := F.called_set.init.lookup
      have hbi := F.called_set.init.bind (.ref s.heap.objs.size)
      repeat (any_goals (first | assumption | wp_step))
      refine codeAny_mono (codeAny_call_builtin (R := wants (fun r s₂ => r = .none ∧ ∃ h' tk, s₂ = { s with heap := h', toks := tk } ∧ SetS P w h' s.heap.objs.size (putAll (signs x)) ∧
          (∀ b o, s.heap.get? b = some o → h'.get? b = some o)) E) F.called_set.init.plain F.entry_set_init (check_set_init_1 hT ?_)) fun r₂ s₂ hr₂ => ?_
      · have hsls := F.sub_str_set
        have hslf := F.sub_str_frozenset
        have hne : (Value.type "str" == Value.type "dict") = false := by decide
        unfold Builtin.«set.__init__» noKeywords Builtin.Frozenset.updateFrom
        generalize hPI : pyIter = PI
        wp_walk
        subst hPI
        refine wpAny_pyIter_str fun o St W st0 => ?_
        refine wpAny_bind (wpAny_runValue ?_)
        have hh3 : A.in1.in1.in1.handled = none := by simp [hh]
        have hSf : s.heap.objs.size ∉ [(s.heap.push { cls := .type "set", dict := none, data := .set #[] 0 (.fresh 0 0 (!w.params.followText "set-order")) }).objs.size] := by
          rw [Heap.size_push]; simp only [List.mem_singleton]
          exact Nat.ne_of_lt (Nat.lt_succ_self _)
        refine upd_strs ((W _ hh3).toS) s.heap.objs.size hSf (signs x) hlen.symm (by omega) ?hV (x.cps.size - 0) 0 _ (by omega) (Nat.zero_le _) ?hSt ?hS0 ?hR
        case hV =>
          rintro i v ⟨c, u, hc, rfl⟩
          refine ⟨_, u, ?_, rfl⟩
          simp only [signs, List.getElem?_map, Array.getElem?_toList, hc, Option.map_some]
        case hSt => exact st0
        case hS0 => exact (setS_fresh w).at fun o e => Heap.get?_push_of_some _ e
        case hR =>
          intro s' hm hS'
          obtain ⟨h', g2, d', tk', os'⟩ := s'
          have eg : g2 = s.gens := hm.gens
          have ed : d' = s.drawn := hm.drawn
          have eo : os' = s.os := hm.os
          subst eg; subst ed; subst eo
          show wpAny _ _ _ _ _ _
          refine wpAny_pure ?_
          show wpAny _ _ (ret Value.none) _ _ _
          refine wpAny_pure ⟨rfl, h', tk', rfl, hS', fun b o e => ?_⟩
          have hb0 : b < s.heap.objs.size := Heap.lt_size e
          have hb1 : b ≠ s.heap.objs.size := Nat.ne_of_lt hb0
          have hb2 : b ≠ (s.heap.push { cls := .type "set", dict := none, data := .set #[] 0 (.fresh 0 0 (!w.params.followText "set-order")) }).objs.size := by
            rw [Heap.size_push]; exact Nat.ne_of_lt (Nat.lt_succ_of_lt hb0)
          exact hm.heap b o (by simp only [List.mem_cons, List.mem_singleton, List.not_mem_nil, or_false, not_or]; exact ⟨hb1, hb2⟩) (Heap.get?_push_of_some _ (Heap.get?_push_of_some _ e))
      · cases r₂ with
        | error e => exact hr₂
        | ok fl₂ =>
          cases fl₂ with
          | ret r =>
            obtain ⟨rfl, h', tk, rfl, hS', hk'⟩ := hr₂
            repeat (any_goals (first | assumption | wp_step))
            exact h _ _ hS' hk'
          | _ => exact hr₂.elim
    | _ => exact hr.elim
end
end Pd

/-! sorted of a set of texts. -/
namespace Pd
open PySem PySem.Froz L2
open PySem.Spec PyProof.Rows
theorem perm_of_sub {α : Type} : ∀ {l m : List α}, l.Nodup → (∀ x, x ∈ l → x ∈ m) → m.length ≤ l.length → m.Perm l
  | [], m, _, _, h => by
    have : m = [] := List.length_eq_zero_iff.mp (Nat.le_zero.mp h)
    subst this
    exact List.Perm.nil
  | x :: l, m, nd, s, h => by
    obtain ⟨n1, n2⟩ := List.nodup_cons.mp nd
    obtain ⟨m1, m2, e⟩ := List.append_of_mem (s x List.mem_cons_self)
    subst e
    have p : (m1 ++ x :: m2).Perm (x :: (m1 ++ m2)) := List.perm_middle
    refine p.trans (List.Perm.cons x (perm_of_sub n2 (fun y hy => ?_) ?_))
    · rcases List.mem_cons.mp (p.mem_iff.mp (s y (List.mem_cons_of_mem _ hy))) with e | z
      · subst e; exact absurd hy n1
      · exact z
    · have := p.length_eq
      simp only [List.length_cons] at this h
      omega
theorem strs_ex : ∀ (vs : List Value), (∀ v ∈ vs, ∃ k t, v = .str k t) → ∃ ss, StrsAre vs ss
  | [], _ => ⟨[], .nil⟩
  | v :: vs, h => by
    obtain ⟨k, t, rfl⟩ := h v List.mem_cons_self
    obtain ⟨ss, hs⟩ := strs_ex vs fun u hu => h u (List.mem_cons_of_mem _ hu)
    exact ⟨k :: ss, .cons k t hs⟩
theorem strs_mem : ∀ {vs : List Value} {ss : List Str}, StrsAre vs ss → ∀ k t, Value.str k t ∈ vs → k ∈ ss
  | _, _, .nil, _, _, h => by cases h
  | _, _, .cons y u hs, k, t, h => by
    rcases List.mem_cons.mp h with e | z
    · cases e; exact List.mem_cons_self
    · exact List.mem_cons_of_mem _ (strs_mem hs k t z)
section
variable {P : Program} {w : World} {A : Around} {E : Value → Shared → Prop} {s : Shared}
theorem sorted_setS {a : Addr} {l : List Str} {Q : Value → Shared → Prop} (S : SetS P w s.heap a l) (hh : A.handled = none) (h64 : l.length < 64)
    (hQ : ∀ s' p (out : Array Value) (c : Nat) (ss : List Str), (∀ b o, s.heap.get? b = some o → s'.heap.get? b = some o) → s'.gens = s.gens → s'.os = s.os → s.heap.objs.size ≤ p →
      s'.heap.get? p = some (seqObj "list" out c) → StrsAre out.toList ss → ss.Perm l → sortedS ss = true → Q (.ref p) s') :
    wpAny (model P w) A (call (.builtin "sorted") [.ref a]) Q E s := by
  obtain ⟨⟨es, ep, t⟩, ho, F, nd, W⟩ := S
  have hsz : es.size = l.length := F.sz
  refine Calls.call_function_entry kind_sorted plain_sorted entry_sorted (args_sorted1 _) ?_
  unfold Builtin.«sorted»
  refine wpAny_bind (m := checkCount "sorted" 1 1 _) (wpAny_pure ?_)
  refine wpAny_bind (collect_set (A := A.in1) (es := es) (ep := ep) (t := t) hh ⟨_, ho, rfl, rfl⟩ F.fit (by unfold scanBound; omega) W.ris W.led fun s1 vs k1 hz g1 o1 pm => ?_)
  have hvl : vs.length = l.length := by rw [pm.length_eq, List.length_map, Array.length_toList]; exact hsz
  obtain ⟨ss, hS⟩ := strs_ex vs fun v hv => by
    obtain ⟨e, he, q⟩ := List.mem_map.mp (pm.mem_iff.mp hv)
    obtain ⟨⟨k, hk, _⟩, _⟩ := F.el e he
    obtain ⟨t, ev⟩ := Value.isStrOf_shape (x := k) (v := e.2) hk
    exact ⟨k, t, by rw [← q]; exact ev⟩
  have hsl : ss.length = vs.length := hS.length.symm
  have pl : ss.Perm l := perm_of_sub nd (fun k hk => by
    obtain ⟨e, he, hi⟩ := (F.mem k).mp hk
    obtain ⟨t, ev⟩ := Value.isStrOf_shape (x := k) (v := e.2) hi
    exact strs_mem hS k t (pm.mem_iff.mpr (List.mem_map.mpr ⟨e, he, ev⟩))) (by omega)
  refine wpAny_bind (wpAny_newList ?_ (by rw [hvl, sizeLine_eq]; omega))
  have hoL : (s1.heap.push (seqObj "list" vs.toArray 0)).get? s1.heap.objs.size = some (seqObj "list" vs.toArray 0) := Heap.get?_push_size _ rfl
  refine wpAny_bind (wpAny_holding (wpAny_call_entry slot_list_sort ⟨_, hoL, rfl⟩ entry_list_sort
    (list_sort_treeK strKind_oneLt (s := { s1 with heap := s1.heap.push (seqObj "list" vs.toArray 0) }) hoL hS.keysOf (fun v₁ v₂ rest e => keyKind_strs (by rw [← e]; exact hS)) (by rw [hvl]; exact h64) fun st' hp hs => ⟨_, rfl, ?_⟩) (args_list_sort _)))
  obtain ⟨ys, b1, b2, b3⟩ := sorted_out_str hS hp hs
  obtain ⟨c, hc⟩ := sortedHeap_at (vs := vs) (out := (arrOf st').map (·.2)) hoL
  refine wpAny_pure ⟨_, rfl, hQ _ s1.heap.objs.size ((arrOf st').map (·.2)) c ys (fun b u e => ?_) g1 o1 hz hc b1 (b2.trans pl) b3⟩
  have q := k1 b u e
  have hlt := Heap.lt_size q
  show (sortedHeap (s1.heap.push (seqObj "list" vs.toArray 0)) s1.heap.objs.size vs _).get? b = some u
  rw [sortedHeap_old (Nat.ne_of_lt hlt) (by rw [size_push']; exact Nat.lt_succ_of_lt hlt)]
  exact Heap.get?_push_of_some _ q
end
def SetSO (P : Program) (w : World) (a : Addr) (l : List Str) : HO := .ext fun h => SetS P w h a l
section
open Evl Hg
variable {X : Cx}
theorem setSO_new {w : World} {P P' : Program} {H : Hp} {h : Heap} {a : Addr} {l : List Str} (R : SetS P' w h a l) : ObjOk P w H h a (SetSO P' w a l) := by
  have ⟨D, ho, _⟩ := R
  exact ⟨R, ⟨_, ho⟩, fun h1 h2 p k => SetS.at p k⟩
theorem setSO_get {pins : List (Addr × Obj)} {σ : L2.St} {H : Hp} {s : Shared} {a : Addr} {l : List Str} (I : Inv X pins σ H s) (ha : H a = some (SetSO X.prog X.w a l)) : SetS X.prog X.w s.heap a l := (I.hok a _ ha).1
/-- set(text) -/
def rSetStr (P : Program) (w : World) : List V → Hp → VK → Prop := fun xs H Q => ∃ x : Str, xs = [.str x] ∧ x.cps.size + 1 < scanBound ∧ ∀ a, H a = none → Q (.ref a) (upd H a (SetSO P w a (putAll (signs x))))
theorem cr_setStr (hc : X.calm = true) : CallR X (.type "set") (rSetStr X.prog X.w) := by
  intro pins s σ H xs us Q I r h
  obtain ⟨x, rfl, hb, k⟩ := h
  cases r with
  | cons rx rr =>
    cases rr
    obtain ⟨t, rfl⟩ := rx
    refine call_setS (I.ok.hd hc) hb fun h' tk R1 kp => ?_
    have nf : H s.heap.objs.size = none := I.hok.fresh (Nat.le_refl _)
    exact ⟨.ref _, _, I.laid (t' := tk) kp (Nat.le_refl _) (setSO_new R1), rfl, k _ nf⟩
/-- sorted(of it), fewer than 64 members -/
def rSortedSetS (P : Program) (w : World) : List V → Hp → VK → Prop := fun vs H Q => ∃ (a : Addr) (l : List Str), vs = [V.ref a] ∧ H a = some (SetSO P w a l) ∧ l.length < 64 ∧
  ∀ (ss : List Str) (p : Addr), ss.Perm l → sortedS ss = true → H p = none → Q (.ref p) (upd H p (.lst (ss.map V.str)))
theorem cr_sortedSetS (hc : X.calm = true) : CallR X (.builtin "sorted") (rSortedSetS X.prog X.w) := by
  intro pins s σ H vs us Q I r h
  obtain ⟨a, l, rfl, ha, h64, q⟩ := h
  have R := setSO_get I ha
  rw [Vals.ref1 r]
  refine sorted_setS R (I.ok.hd hc) h64 fun s' p out c ss k g o hp hg hi pm hs => ?_
  have hlen : (ss.map V.str).length ≤ sizeLine := by rw [List.length_map, pm.length_eq, sizeLine_eq]; omega
  have hn : H p = none := I.hok.fresh hp
  have J : Inv X pins σ (upd H p (.lst (ss.map V.str))) { s with heap := s'.heap, gens := s'.gens, drawn := s'.drawn, toks := s'.toks } :=
    I.call (ch := []) (Un.laid k hp hn) (I.hok.laid k hp ⟨hlen, out.toList, c, vals_of_strs hi, by rw [Array.toArray_toList]; exact hg⟩) (by rw [g]; exact I.bare) (fun _ z => nomatch z)
  have e : s' = { s with heap := s'.heap, gens := s'.gens, drawn := s'.drawn, toks := s'.toks } := by
    cases s'
    cases s
    cases o
    rfl
  rw [e]
  exact ⟨.ref p, _, J, rfl, q ss p pm hs hn⟩
end
end Pd

/-! The rule sorted(set(text)). -/
namespace Pd
open PySem L2 Evl Hg
open PySem.Spec PyProof.Rows
def insN (k : Nat) : List Nat → List Nat
  | [] => [k]
  | x :: l => if k < x then k :: x :: l else if k = x then x :: l else x :: insN k l
def sortN : List Nat → List Nat
  | [] => []
  | k :: l => insN k (sortN l)
theorem mem_insN (k j : Nat) : ∀ l : List Nat, j ∈ insN k l ↔ j = k ∨ j ∈ l
  | [] => by simp [insN]
  | x :: l => by
    have ih := mem_insN k j l
    unfold insN
    split
    · simp
    · split
      · rename_i e
        subst e
        simp
      · simp only [List.mem_cons, ih]
        constructor
        · rintro (h | h | h)
          · exact .inr (.inl h)
          · exact .inl h
          · exact .inr (.inr h)
        · rintro (h | h | h)
          · exact .inr (.inl h)
          · exact .inl h
          · exact .inr (.inr h)
theorem asc_insN (k : Nat) : ∀ {l : List Nat}, l.Pairwise (· < ·) → (insN k l).Pairwise (· < ·)
  | [], _ => by simp [insN]
  | x :: l, h => by
    obtain ⟨h1, h2⟩ := List.pairwise_cons.mp h
    unfold insN
    split
    · rename_i c
      refine List.pairwise_cons.mpr ⟨fun y hy => ?_, h⟩
      rcases List.mem_cons.mp hy with rfl | hy
      · exact c
      · have := h1 y hy; omega
    · split
      · exact h
      · refine List.pairwise_cons.mpr ⟨fun y hy => ?_, asc_insN k h2⟩
        rcases (mem_insN k y l).mp hy with rfl | hy
        · omega
        · exact h1 y hy
theorem mem_sortN (j : Nat) : ∀ l : List Nat, j ∈ sortN l ↔ j ∈ l
  | [] => Iff.rfl
  | k :: l => by
    show j ∈ insN k (sortN l) ↔ _
    rw [mem_insN, mem_sortN j l, List.mem_cons]
theorem asc_sortN : ∀ l : List Nat, (sortN l).Pairwise (· < ·)
  | [] => List.Pairwise.nil
  | k :: l => asc_insN k (asc_sortN l)
theorem asc_extN : ∀ {l m : List Nat}, l.Pairwise (· < ·) → m.Pairwise (· < ·) → (∀ k, k ∈ l ↔ k ∈ m) → l = m
  | [], [], _, _, _ => rfl
  | [], y :: m, _, _, h => absurd ((h y).mpr List.mem_cons_self) List.not_mem_nil
  | x :: l, [], _, _, h => absurd ((h x).mp List.mem_cons_self) List.not_mem_nil
  | x :: l, y :: m, hl, hm, h => by
    obtain ⟨a1, a2⟩ := List.pairwise_cons.mp hl
    obtain ⟨b1, b2⟩ := List.pairwise_cons.mp hm
    have e : x = y := by
      have hx := (h x).mp List.mem_cons_self
      have hy := (h y).mpr List.mem_cons_self
      rcases List.mem_cons.mp hx with e | hx
      · exact e
      · rcases List.mem_cons.mp hy with e | hy
        · exact e.symm
        · have := b1 x hx
          have := a1 y hy
          omega
    subst e
    have : l = m := asc_extN a2 b2 fun k => by
      constructor
      · intro hk
        rcases List.mem_cons.mp ((h k).mp (List.mem_cons_of_mem _ hk)) with e | z
        · have := a1 k hk; omega
        · exact z
      · intro hk
        rcases List.mem_cons.mp ((h k).mpr (List.mem_cons_of_mem _ hk)) with e | z
        · have := b1 k hk; omega
        · exact z
    rw [this]
def sg (c : Nat) : Str := ⟨#[c]⟩
theorem sg_inj {c d : Nat} (h : sg c = sg d) : c = d := by
  unfold sg at h
  injection h with h
  have := congrArg Array.toList h
  simpa using this
theorem putS_nodup {l : List Str} {k : Str} (h : l.Nodup) : (putS l k).Nodup := by
  unfold putS
  split
  · exact h
  · rename_i c
    exact List.nodup_cons.mpr ⟨c, h⟩
theorem foldS_nodup : ∀ (xs : List Str) {l : List Str}, l.Nodup → (xs.foldl putS l).Nodup
  | [], _, h => h
  | x :: xs, _, h => foldS_nodup xs (putS_nodup h)
theorem rising_sg : ∀ (r : List Nat) (p : Nat), risingS (sg p) (r.map sg) = true → (p :: r).Pairwise (· ≤ ·)
  | [], p, _ => List.pairwise_cons.mpr ⟨fun _ h => (nomatch h), .nil⟩
  | x :: r, p, h => by
    rw [List.map_cons] at h
    unfold risingS at h
    rw [Bool.and_eq_true] at h
    have ih := rising_sg r x h.2
    have px : p ≤ x := by
      have q := h.1
      simp [sg, ltCps] at q
      exact q
    refine List.pairwise_cons.mpr ⟨fun y hy => ?_, ih⟩
    rcases List.mem_cons.mp hy with rfl | hy
    · exact px
    · exact Nat.le_trans px ((List.pairwise_cons.mp ih).1 y hy)
theorem sorted_sg : ∀ (cs : List Nat), sortedS (cs.map sg) = true → cs.Pairwise (· ≤ ·)
  | [], _ => .nil
  | x :: r, h => rising_sg r x h
theorem all_sg : ∀ (ss : List Str), (∀ y ∈ ss, ∃ c, y = sg c) → ∃ cs : List Nat, ss = cs.map sg
  | [], _ => ⟨[], rfl⟩
  | y :: ss, h => by
    obtain ⟨c, rfl⟩ := h y List.mem_cons_self
    obtain ⟨cs, rfl⟩ := all_sg ss fun z hz => h z (List.mem_cons_of_mem _ hz)
    exact ⟨c :: cs, rfl⟩
theorem lt_of_le_ne : ∀ {l : List Nat}, l.Pairwise (· ≤ ·) → l.Nodup → l.Pairwise (· < ·)
  | [], _, _ => .nil
  | x :: l, h, d => by
    obtain ⟨h1, h2⟩ := List.pairwise_cons.mp h
    obtain ⟨d1, d2⟩ := List.nodup_cons.mp d
    refine List.pairwise_cons.mpr ⟨fun y hy => ?_, lt_of_le_ne h2 d2⟩
    have a := h1 y hy
    have b : x ≠ y := fun z => d1 (z ▸ hy)
    omega
theorem mem_signs {x : Str} {y : Str} : y ∈ signs x ↔ ∃ c ∈ x.cps.toList, y = sg c := by
  unfold signs
  rw [List.mem_map]
  constructor
  · rintro ⟨c, h, e⟩; exact ⟨c, h, e.symm⟩
  · rintro ⟨c, h, e⟩; exact ⟨c, h, e.symm⟩
theorem only_sorted {x : Str} {ss : List Str} (p : ss.Perm (putAll (signs x))) (h : sortedS ss = true) : ss = (sortN x.cps.toList).map sg := by
  obtain ⟨cs, rfl⟩ := all_sg ss fun y hy => by
    obtain ⟨c, _, e⟩ := mem_signs.mp (mem_putAll.mp (p.mem_iff.mp hy))
    exact ⟨c, e⟩
  have nd : (cs.map sg).Nodup := p.nodup_iff.mpr (foldS_nodup _ List.nodup_nil)
  have ndc : cs.Nodup := by
    refine List.Pairwise.imp (fun {a b} hab e => hab (by rw [e])) (List.pairwise_map.mp nd)
  have lt := lt_of_le_ne (sorted_sg cs h) ndc
  have e : cs = sortN x.cps.toList := asc_extN lt (asc_sortN _) fun k => by
    rw [mem_sortN]
    constructor
    · intro hk
      obtain ⟨c, hc, e⟩ := mem_signs.mp (mem_putAll.mp (p.mem_iff.mp (List.mem_map_of_mem (f := sg) hk)))
      rw [sg_inj e]
      exact hc
    · intro hk
      have q := p.mem_iff.mpr (mem_putAll.mpr (mem_signs.mpr ⟨k, hk, rfl⟩))
      obtain ⟨c, hc, e⟩ := List.mem_map.mp q
      rw [← sg_inj e]
      exact hc
  rw [e]
section
variable {X : Cx} {W : WX} {z : Option Zi} {w0 : W0} {w w' w1 : Wd} {σ : L2.St} {H H' H1 : Hp} {ρ ρ' : Rho} {S S' S1 : Sto} {K : PySem.W.Frag} {mg : Str → Option Value} {e : Expr} {me : M D} {p p2 q pos : Pos}
def sortTxtD : D → Option D
  | .str x => if x.cps.size < 64 then some (.lst ((sortN x.cps.toList).map fun c => D.str (sg c))) else none
  | _ => none
def m_sortTxt (m : M D) : M D := m.bind fun d => M.lift fun ρ S => (rsv ρ S d).bind sortTxtD
theorem dta_sgs : ∀ cs : List Nat, DtA K mg w ((cs.map sg).map V.str) (cs.map fun c => D.str (sg c))
  | [] => .nil
  | i :: r => .cons (.str _) (dta_sgs r)
/-- sorted(set(text)) -/
theorem pd_sortSetS (hc : X.calm = true) (hg : Gl X "sorted") (hm : X.mg "sorted" = none) (hg2 : Gl X "set") (hm2 : X.mg "set" = none) (he : PD X W z e me)
    (h1 : starEach [e] X.env = (false, eval e X.env) :: starEach [] X.env := by rfl) (hpl : (backTo q (starEach [] X.env)).any (·.1) = false := by rfl)
    (h2 : starEach [.Call (.Name "set" p2) [e] [] q] X.env = (false, eval (.Call (.Name "set" p2) [e] [] q) X.env) :: starEach [] X.env := by rfl) (hpl2 : (backTo pos (starEach [] X.env)).any (·.1) = false := by rfl) :
    PD X W z (.Call (.Name "sorted" p) [.Call (.Name "set" p2) [e] [] q] [] pos) (m_sortTxt me) :=
  pe_mono (pe_callB (cr_sortedSetS hc) hg hm (by decide +kernel) (pa_cons (pe_callTy (cr_setStr hc) hg2 hm2 (by decide +kernel) (pa_cons he pa_nil h1) (by decide) (by decide) h1 hpl) pa_nil h2) (by decide) (by decide) h2 hpl2) fun σ H Q h => by
    obtain ⟨w, ρ, S, h⟩ := h
    refine ⟨w, ρ, S, h.bind fun d v w1 H1 S1 st rd h1 => ?_⟩
    obtain ⟨y, e, k⟩ := h1.lift
    cases q1 : rsv ρ S1 d with
    | none => rw [q1] at e; cases e
    | some d' =>
      rw [q1, Option.bind_some] at e
      have rs := Rs.of h1.t h1.s rd q1
      cases d' <;> first | (exfalso; simp [sortTxtD] at e; done) | skip
      rename_i x
      simp only [sortTxtD] at e
      split at e
      · rename_i c64
        cases e
        have rs : v = V.str x := rs
        subst rs
        have hl : (putAll (signs x)).length < 64 := by
          have := putAll_len _ (signs x) rfl
          have : (signs x).length = x.cps.size := by simp [signs]
          omega
        refine ⟨x, rfl, by unfold scanBound; omega, fun a na => ?_⟩
        refine ⟨a, _, rfl, upd_same, hl, fun out b pm srt nb => ?_⟩
        have eo := only_sorted pm srt
        subst eo
        have nab : b ≠ a := fun e => by rw [e, upd_same] at nb; cases nb
        have nb1 : H1 b = none := by rwa [upd_ne nab] at nb
        have sub2 : Ex w1.G (upd H1 a (SetSO X.prog X.w a (putAll (signs x)))) := h1.t.sub.trans (Ex.new na)
        have g := Grow.new (w := w1) (o := .lst (((sortN x.cps.toList).map sg).map V.str)) sub2 nb
        have gG : Grow w1 (w1.new b (.lst (((sortN x.cps.toList).map sg).map V.str))) H1 (upd (upd H1 a (SetSO X.prog X.w a (putAll (signs x)))) b (.lst (((sortN x.cps.toList).map sg).map V.str))) := by
          refine ⟨g.g, rfl, (Ex.new na).trans g.h, g.sub, fun c o hc => ?_⟩
          have hc : upd w1.G b (.lst (((sortN x.cps.toList).map sg).map V.str)) c = some o := hc
          by_cases e : c = b
          · subst e
            exact .inr nb1
          · rw [upd_ne e] at hc
            exact .inl hc
        exact k _ _ _ gG (.inl (.lst (Rd.of upd_same) (dta_sgs _)))
      · cases e
end
end Pd

/-! The rule sorted(set(e)), e a text or a tuple of whole numbers. -/
namespace Pd
open PySem L2 Evl Hg
open PySem.Spec PyProof.Rows
section
variable {X : Cx} {W : WX} {z : Option Zi} {e : Expr} {me : M D} {p p2 q pos : Pos}
theorem cr_or {f : Value} {r1 r2 : List V → Hp → VK → Prop} (h1 : CallR X f r1) (h2 : CallR X f r2) : CallR X f (fun xs H Q => r1 xs H Q ∨ r2 xs H Q) := by
  intro pins s σ H xs us Q I r h
  rcases h with h | h
  · exact h1 pins s σ H xs us Q I r h
  · exact h2 pins s σ H xs us Q I r h
def sortAnyD : D → Option D
  | .str x => sortTxtD (.str x)
  | .tup ds => sortSetD (.tup ds)
  | _ => none
def m_sortAny (m : M D) : M D := m.bind fun d => M.lift fun ρ S => (rsv ρ S d).bind sortAnyD
/-- sorted(set(e)) -/
theorem pd_sortAny (hc : X.calm = true) (hg : Gl X "sorted") (hm : X.mg "sorted" = none) (hg2 : Gl X "set") (hm2 : X.mg "set" = none) (he : PD X W z e me)
    (h1 : starEach [e] X.env = (false, eval e X.env) :: starEach [] X.env := by rfl) (hpl : (backTo q (starEach [] X.env)).any (·.1) = false := by rfl)
    (h2 : starEach [.Call (.Name "set" p2) [e] [] q] X.env = (false, eval (.Call (.Name "set" p2) [e] [] q) X.env) :: starEach [] X.env := by rfl) (hpl2 : (backTo pos (starEach [] X.env)).any (·.1) = false := by rfl) :
    PD X W z (.Call (.Name "sorted" p) [.Call (.Name "set" p2) [e] [] q] [] pos) (m_sortAny me) :=
  pe_mono (pe_callB (cr_or (cr_sortedSet hc) (cr_sortedSetS hc)) hg hm (by decide +kernel) (pa_cons (pe_callTy (cr_or (cr_setTI hc) (cr_setStr hc)) hg2 hm2 (by decide +kernel) (pa_cons he pa_nil h1) (by decide) (by decide) h1 hpl) pa_nil h2) (by decide) (by decide) h2 hpl2) fun σ H Q h => by
    obtain ⟨w, ρ, S, h⟩ := h
    refine ⟨w, ρ, S, h.bind fun d v w1 H1 S1 st rd h1 => ?_⟩
    obtain ⟨y, e, k⟩ := h1.lift
    cases q1 : rsv ρ S1 d with
    | none => rw [q1] at e; cases e
    | some d' =>
      rw [q1, Option.bind_some] at e
      have rs := Rs.of h1.t h1.s rd q1
      cases d' <;> first | (exfalso; simp [sortAnyD] at e; done) | skip
      case str x =>
        simp only [sortAnyD, sortTxtD] at e
        split at e
        · rename_i c64
          cases e
          have rs : v = V.str x := rs
          subst rs
          have hl : (putAll (signs x)).length < 64 := by
            have := putAll_len _ (signs x) rfl
            have : (signs x).length = x.cps.size := by simp [signs]
            omega
          refine .inr ⟨x, rfl, by unfold scanBound; omega, fun a na => ?_⟩
          refine .inr ⟨a, _, rfl, upd_same, hl, fun out b pm srt nb => ?_⟩
          have eo := only_sorted pm srt
          subst eo
          have nab : b ≠ a := fun e => by rw [e, upd_same] at nb; cases nb
          have nb1 : H1 b = none := by rwa [upd_ne nab] at nb
          have sub2 : Ex w1.G (upd H1 a (SetSO X.prog X.w a (putAll (signs x)))) := h1.t.sub.trans (Ex.new na)
          have g := Grow.new (w := w1) (o := .lst (((sortN x.cps.toList).map sg).map V.str)) sub2 nb
          have gG : Grow w1 (w1.new b (.lst (((sortN x.cps.toList).map sg).map V.str))) H1 (upd (upd H1 a (SetSO X.prog X.w a (putAll (signs x)))) b (.lst (((sortN x.cps.toList).map sg).map V.str))) := by
            refine ⟨g.g, rfl, (Ex.new na).trans g.h, g.sub, fun c o hc => ?_⟩
            have hc : upd w1.G b (.lst (((sortN x.cps.toList).map sg).map V.str)) c = some o := hc
            by_cases e : c = b
            · subst e
              exact .inr nb1
            · rw [upd_ne e] at hc
              exact .inl hc
          exact k _ _ _ gG (.inl (.lst (Rd.of upd_same) (dta_sgs _)))
        · cases e
      case tup ds =>
        obtain ⟨l, xs, rfl, hl, hx⟩ := rs
        simp only [sortAnyD, sortSetD] at e
        cases q2 : intsOfD ds with
        | none => rw [q2] at e; cases e
        | some ns =>
          rw [q2, Option.bind_some] at e
          split at e
          · rename_i c64
            cases e
            have ex := ints_dt hx q2
            subst ex
            refine .inl ⟨l, ns, rfl, ex_t h1.t.sub hl, by omega, fun a S n na hS hn => ?_⟩
            refine .inl ⟨a, S, n, rfl, upd_same, by omega, fun out b asc mem len nb => ?_⟩
            have eo : out = sortI ns := asc_ext asc (asc_sortI ns) fun k => by rw [mem_sortI, mem, hS]
            subst eo
            have nab : b ≠ a := fun e => by rw [e, upd_same] at nb; cases nb
            have nb1 : H1 b = none := by rwa [upd_ne nab] at nb
            have sub2 : Ex w1.G (upd H1 a (SetO X.w a S n)) := h1.t.sub.trans (Ex.new na)
            have g := Grow.new (w := w1) (o := .lst ((sortI ns).map V.int)) sub2 nb
            have gG : Grow w1 (w1.new b (.lst ((sortI ns).map V.int))) H1 (upd (upd H1 a (SetO X.w a S n)) b (.lst ((sortI ns).map V.int))) := by
              refine ⟨g.g, rfl, (Ex.new na).trans g.h, g.sub, fun c o hc => ?_⟩
              have hc : upd w1.G b (.lst ((sortI ns).map V.int)) c = some o := hc
              by_cases e : c = b
              · subst e
                exact .inr nb1
              · rw [upd_ne e] at hc
                exact .inl hc
            exact k _ _ _ gG (.inl (.lst (Rd.of upd_same) (dta_ints _)))
          · cases e
end
end Pd

/-! text[::-1]. -/
namespace Pd
open PySem L2 Evl Hg
open PySem.Spec PyProof.Rows
def revTxt (z : Str) : Str := ⟨((Builtin.Str.strSliceIndices none none (-1) z.length).filterMap (z.cps[·]?)).toArray⟩
theorem revTxt_len (z : Str) : (revTxt z).length ≤ z.length := by
  show ((Builtin.Str.strSliceIndices none none (-1) z.length).filterMap (z.cps[·]?)).toArray.size ≤ _
  rw [List.size_toArray]
  refine Nat.le_trans (List.length_filterMap_le _ _) ?_
  rw [picked_rev, List.length_map, List.length_range]
  exact Nat.le_refl _
section
variable {X : Cx}
def tRevS (te : TE) : TE := fun σ H Q => te σ H fun x H1 => ∃ z, x = .str z ∧ z.length ≤ sizeLine ∧ Q (.str (revTxt z)) H1
theorem pe_revS {e : Expr} {te : TE} {k : Nat} {p1 p2 p3 pos : Pos} (he : PE X e te) : PE X (.Subscript e (.Slice none none (some (.UnaryOp .USub (.Constant (.int 1) k p1) p2)) p3) pos) (tRevS te) := by
  refine ⟨fun pins s σ H Q I h => ?_⟩
  refine Subscript_ (thn (he.run pins s σ H _ I h) fun v s1 ⟨x, H1, I1, r1, q1⟩ => ?_)
  obtain ⟨z, ex, hz, q⟩ := q1
  subst ex
  obtain ⟨t, rfl⟩ := r1
  have hst : PO X (some (.UnaryOp .USub (.Constant (.int 1) k p1) p2)) (tPart (tUn (rU fun i => .int (-i)) (tC (.int 1)))) := po_some (pe_un un_neg pe_int)
  refine wpAny_Slice (thn (po_none.run pins s1 σ H1 (fun o H2 => o = none ∧ H2 = H1) I1 ⟨rfl, rfl⟩) fun vl s2 ⟨l, H2, I2, pl, el, e2⟩ => ?_)
  subst el e2
  refine thn (po_none.run pins s2 σ H2 (fun o H3 => o = none ∧ H3 = H2) I2 ⟨rfl, rfl⟩) fun vu s3 ⟨u, H3, I3, pu, eu, e3⟩ => ?_
  subst eu e3
  refine thn (hst.run pins s3 σ H3 (fun o H4 => o = some (-1) ∧ H4 = H3) I3 ⟨1, rfl, -1, rfl, rfl, rfl⟩) fun vs s4 ⟨o, H4, I4, ps, eo, e4⟩ => ?_
  subst eo e4
  have I5 : Inv X pins σ H4 { s4 with heap := s4.heap.push { cls := .type "slice", data := .fields #[vl, vu, vs] } } := I4.kept (t' := s4.toks) fun b ob q => Heap.get?_push_of_some _ q
  obtain ⟨l, rfl, hl⟩ := IsPart.raw pl
  obtain ⟨u, rfl, hu⟩ := IsPart.raw pu
  obtain ⟨st, rfl, hs⟩ := IsPart.raw ps
  cases l with
  | some _ => cases hl
  | none =>
  cases u with
  | some _ => cases hu
  | none =>
  cases st with
  | none => cases hs
  | some st =>
  obtain ⟨i, ti⟩ := st
  have hi : i = -1 := by simpa using hs
  subst hi
  show wpAny (model X.prog X.w) X.A (subscriptTail e (.Slice none none (some (.UnaryOp .USub (.Constant (.int 1) k p1) p2)) p3) (.str z t) (.ref s4.heap.objs.size)) (EP X pins σ Q) X.xe _
  refine tail_any (ops := [.str z t, .ref s4.heap.objs.size]) (typeIs_str _ _ _) (PySem.F.slot_str_getitem.lookup) ?_ (by with_unfolding_all rfl)
  refine wpAny_getItem_str_slice (l := none) (u := none) (st := some (-1, ti)) ⟨_, Heap.get?_push_size _ rfl, rfl, rfl⟩ rfl ?_
  have hlen : (revTxt z).length ≤ sizeLine := Nat.le_trans (revTxt_len z) hz
  show Made.post (if (((-1 : Int)) == 1 && (Builtin.Str.strSliceIndices none none (-1) z.length).length == z.length) = true then Made.val (.str z t) else Made.str (revTxt z)) (EP X pins σ Q) _
  rw [if_neg (by simp)]
  exact ⟨hlen, .str (revTxt z), H4, I5.tok _, ⟨_, rfl⟩, q⟩
end
section
variable {X : Cx} {W : WX} {zz : Option Zi} {e : Expr} {me : M D}
def revTxtD : D → Option D
  | .str x => if x.length ≤ sizeLine then some (.str (revTxt x)) else none
  | _ => none
def m_revS (m : M D) : M D := m.bind fun d => M.lift fun ρ S => (rsv ρ S d).bind revTxtD
/-- text[::-1] -/
theorem pd_revS {k : Nat} {p1 p2 p3 pos : Pos} (he : PD X W zz e me) : PD X W zz (.Subscript e (.Slice none none (some (.UnaryOp .USub (.Constant (.int 1) k p1) p2)) p3) pos) (m_revS me) :=
  pe_mono (pe_revS he) fun σ H Q h => by
    obtain ⟨w, ρ, S, h⟩ := h
    refine ⟨w, ρ, S, h.bind fun d v w1 H1 S1 st rd h1 => ?_⟩
    obtain ⟨y, e, kk⟩ := h1.lift
    cases q1 : rsv ρ S1 d with
    | none => rw [q1] at e; cases e
    | some d' =>
      rw [q1, Option.bind_some] at e
      have rs := Rs.of h1.t h1.s rd q1
      cases d' <;> first | (exfalso; simp [revTxtD] at e; done) | skip
      rename_i x
      simp only [revTxtD] at e
      split at e
      · rename_i c
        cases e
        have rs : v = V.str x := rs
        subst rs
        exact ⟨x, rfl, c, kk _ _ _ (Grow.refl h1.t.sub) (.inl (.str _))⟩
      · cases e
end
end Pd

/-! tuple[::-1]. -/
namespace Pd
open PySem L2 Evl Hg
open PySem.Spec PyProof.Rows
section
variable {prog : Program} {w : World} {A : Around} {E : Value → Shared → Prop} {s : Shared}
theorem adj_rev (n : Nat) : Builtin.Slice.sliceAdjust none none (-1) (n : Int) = ((n : Int) - 1, -1) := by
  unfold Builtin.Slice.sliceAdjust
  simp
theorem places_rev (n : Nat) : Builtin.Slice.slicePlaces ((n : Int) - 1) (-1) (-1) = n := by
  unfold Builtin.Slice.slicePlaces
  simp
  try omega
theorem applied_rev {sl : Addr} {vl vu vs : Value} {n : Nat} {Q : Int × Int × Nat → Shared → Prop} (hs : s.heap.IsSliceOf sl vl vu vs) (pl : IsPart vl none) (pu : IsPart vu none) (ps : IsPart vs (some (-1)))
    (h : Q ((n : Int) - 1, -1, n) s) : wpAny (model prog w) A (Builtin.Slice.sliceApplied (.ref sl) (pure (n : Int))) Q E s := by
  obtain ⟨os, hos, hcs, hds⟩ := id hs
  unfold Builtin.Slice.sliceApplied Builtin.Slice.sliceFields
  refine wpAny_bind (wpAny_bind (wpAny_field hos hds (x := vl) rfl (wpAny_bind (wpAny_field hos hds (x := vu) rfl (wpAny_bind (wpAny_field hos hds (x := vs) rfl (wpAny_pure ?_)))))))
  refine wpAny_bind (HT.slicePart_ ps ?_)
  show wpAny _ _ (if ((-1 : Int) == 0) = true then _ else _) _ _ s
  rw [if_neg (by decide)]
  refine wpAny_bind (HT.slicePart_ pl (wpAny_bind (HT.slicePart_ pu (wpAny_bind (wpAny_pure ?_)))))
  show wpAny _ _ (match Builtin.Slice.sliceAdjust none none (-1) (n : Int) with | (lo, hi) => pure (lo, (-1 : Int), Builtin.Slice.slicePlaces lo hi (-1))) _ _ s
  rw [adj_rev n]
  show wpAny _ _ (pure ((n : Int) - 1, (-1 : Int), Builtin.Slice.slicePlaces ((n : Int) - 1) (-1) (-1))) _ _ s
  rw [places_rev]
  exact wpAny_pure h
theorem pick_rev (xs : Array Value) : ((List.range xs.size).filterMap fun (m : Nat) => xs[(((xs.size : Int) - 1) + (m : Int) * (-1)).toNat]?).toArray = xs.toList.reverse.toArray := by
  rw [← PySem.W.krv_pick]
  unfold slicePick
  rw [PySem.W.krv_bounds]
  show _ = ((sliceRange ((xs.size : Int) - 1) (-1) (-1)).filterMap (xs[·]?)).toArray
  rw [PySem.W.krv_sliceRange, List.filterMap_map]
  congr 1
  have e : (fun (m : Nat) => xs[(((xs.size : Int) - 1) + (m : Int) * (-1)).toNat]?) = ((fun x => xs[x]?) ∘ fun k => xs.size - 1 - k) := by
    funext m
    have : (((xs.size : Int) - 1) + (m : Int) * (-1)).toNat = xs.size - 1 - m := by omega
    show _ = xs[xs.size - 1 - m]?
    rw [this]
  rw [e]
theorem getItem_tuple_rev {t sl : Addr} {items : Array Value} {vl vu vs : Value} {Q : Value → Shared → Prop} (ht : IsTup s.heap t items) (hs : s.heap.IsSliceOf sl vl vu vs) (pl : IsPart vl none) (pu : IsPart vu none) (ps : IsPart vs (some (-1)))
    (h : Q (.ref s.heap.objs.size) { s with heap := s.heap.push { cls := .type "tuple", data := .seq items.toList.reverse.toArray } })
    (hsz : items.size ≤ sizeLine) : wpAny (model prog w) A (getItem (.ref t) (.ref sl)) Q E s := by
  have htake : sizeOk (.seq items.toList.reverse.toArray) := by
    show items.toList.reverse.toArray.size ≤ sizeLine
    rw [List.size_toArray, List.length_reverse, Array.length_toList]
    exact hsz
  obtain ⟨os, hos, hcs, hds⟩ := id hs
  have hTs : s.TypeIs (.ref sl) "slice" := ⟨os, hos, hcs⟩
  unfold getItem
  try with_reducible refine wpAny_holding ?_
  first | refine wpAny_bind (wpAny_pure ?_) | skip
  refine wpAny_bind (wpAny_sequenceKey ht.typeIs (by decide) ?_)
  refine wpAny_bind (wpAny_callSpecial?_slot (name := Str.ofString "__getitem__") ht.typeIs PyProof.Rows.slot_tuple_getitem
    (wpAny_call_entry PyProof.Rows.slot_tuple_getitem ht.typeIs entry_tuple_getitem ?_ (args_tuple_getitem _ _)))
  show wpAny _ _ (Builtin.Tuple.tupleItemsOf (.ref t) >>= _) _ _ s
  refine wpAny_bind (tupleItemsOf_ ht ?_)
  refine wpAny_bind (wpAny_typeOf hTs ?_)
  rw [if_pos (by decide)]
  refine wpAny_bind (applied_rev (n := items.size) hs pl pu ps ?_)
  have hno : ¬ ((((items.size : Int) - 1) == 0 && (-1 : Int) == 1 && items.size == items.size) = true) := by simp
  show wpAny _ _ (if (((items.size : Int) - 1) == 0 && (-1 : Int) == 1 && items.size == items.size) = true then _ else _) _ _ s
  rw [if_neg hno, pick_rev]
  first
    | exact wpAny_bind (m := Builtin.Tuple.tupleExact _) (wpAny_newObj_type (wpAny_pure ⟨_, rfl, wpAny_pure h⟩) htake)
    | exact wpAny_bind (m := Builtin.Tuple.tupleExact _) (wpAny_newObj_type (wpAny_bind (wpAny_pure (wpAny_pure ⟨_, rfl, wpAny_pure h⟩))) htake)
    | exact wpAny_bind (wpAny_bind (m := Builtin.Tuple.tupleExact _) (wpAny_newObj_type (wpAny_pure (wpAny_pure ⟨_, rfl, wpAny_pure h⟩)) htake))
    | exact wpAny_bind (wpAny_bind (m := Builtin.Tuple.tupleExact _) (wpAny_newObj_type (wpAny_pure ⟨_, rfl, wpAny_pure h⟩) htake))
end
end Pd

/-! e[::-1], e a text or a tuple. -/
namespace Pd
open PySem L2 Evl Hg
open PySem.Spec PyProof.Rows
section
variable {X : Cx}
def tRevA (K : PySem.W.Frag) (te : TE) : TE := fun σ H Q => te σ H fun x H1 => (∃ z, x = .str z ∧ z.length ≤ sizeLine ∧ Q (.str (revTxt z)) H1) ∨
  (∃ a xs, x = .ref a ∧ SqT K H1 a xs ∧ ∀ p, H1 p = none → Q (.ref p) (upd H1 p (.tup xs.reverse)))
theorem pe_revA {e : Expr} {te : TE} {k : Nat} {p1 p2 p3 pos : Pos} (he : PE X e te) : PE X (.Subscript e (.Slice none none (some (.UnaryOp .USub (.Constant (.int 1) k p1) p2)) p3) pos) (tRevA X.K te) := by
  refine ⟨fun pins s σ H Q I h => ?_⟩
  refine Subscript_ (thn (he.run pins s σ H _ I h) fun v s1 ⟨x, H1, I1, r1, q1⟩ => ?_)
  have hst : PO X (some (.UnaryOp .USub (.Constant (.int 1) k p1) p2)) (tPart (tUn (rU fun i => .int (-i)) (tC (.int 1)))) := po_some (pe_un un_neg pe_int)
  refine wpAny_Slice (thn (po_none.run pins s1 σ H1 (fun o H2 => o = none ∧ H2 = H1) I1 ⟨rfl, rfl⟩) fun vl s2 ⟨l, H2, I2, pl, el, e2⟩ => ?_)
  subst el e2
  refine thn (po_none.run pins s2 σ H2 (fun o H3 => o = none ∧ H3 = H2) I2 ⟨rfl, rfl⟩) fun vu s3 ⟨u, H3, I3, pu, eu, e3⟩ => ?_
  subst eu e3
  refine thn (hst.run pins s3 σ H3 (fun o H4 => o = some (-1) ∧ H4 = H3) I3 ⟨1, rfl, -1, rfl, rfl, rfl⟩) fun vs s4 ⟨o, H4, I4, ps, eo, e4⟩ => ?_
  subst eo e4
  have I5 : Inv X pins σ H4 { s4 with heap := s4.heap.push { cls := .type "slice", data := .fields #[vl, vu, vs] } } := I4.kept (t' := s4.toks) fun b ob q => Heap.get?_push_of_some _ q
  rcases q1 with ⟨z, ex, hz, q⟩ | ⟨a, xs, ex, hx, q⟩
  · subst ex
    obtain ⟨t, rfl⟩ := r1
    obtain ⟨l, rfl, hl⟩ := IsPart.raw pl
    obtain ⟨u, rfl, hu⟩ := IsPart.raw pu
    obtain ⟨st, rfl, hs⟩ := IsPart.raw ps
    cases l with
    | some _ => cases hl
    | none =>
    cases u with
    | some _ => cases hu
    | none =>
    cases st with
    | none => cases hs
    | some st =>
    obtain ⟨i, ti⟩ := st
    have hi : i = -1 := by simpa using hs
    subst hi
    show wpAny (model X.prog X.w) X.A (subscriptTail e (.Slice none none (some (.UnaryOp .USub (.Constant (.int 1) k p1) p2)) p3) (.str z t) (.ref s4.heap.objs.size)) (EP X pins σ Q) X.xe _
    refine tail_any (ops := [.str z t, .ref s4.heap.objs.size]) (typeIs_str _ _ _) (PySem.F.slot_str_getitem.lookup) ?_ (by with_unfolding_all rfl)
    refine wpAny_getItem_str_slice (l := none) (u := none) (st := some (-1, ti)) ⟨_, Heap.get?_push_size _ rfl, rfl, rfl⟩ rfl ?_
    have hlen : (revTxt z).length ≤ sizeLine := Nat.le_trans (revTxt_len z) hz
    show Made.post (if (((-1 : Int)) == 1 && (Builtin.Str.strSliceIndices none none (-1) z.length).length == z.length) = true then Made.val (.str z t) else Made.str (revTxt z)) (EP X pins σ Q) _
    rw [if_neg (by simp)]
    exact ⟨hlen, .str (revTxt z), H4, I5.tok _, ⟨_, rfl⟩, q⟩
  · subst ex
    cases r1
    obtain ⟨its, r, ht, hz⟩ := I5.tuple hx
    have hlen := r.length
    show wpAny (model X.prog X.w) X.A (subscriptTail e (.Slice none none (some (.UnaryOp .USub (.Constant (.int 1) k p1) p2)) p3) (.ref a) (.ref s4.heap.objs.size)) (EP X pins σ Q) X.xe { s4 with heap := s4.heap.push { cls := .type "slice", data := .fields #[vl, vu, vs] } }
    refine tail_any (ops := [.ref a, .ref s4.heap.objs.size]) ht.typeIs (PyProof.Rows.slot_tuple_getitem.lookup) ?_ (by with_unfolding_all rfl)
    refine getItem_tuple_rev ht (Heap.IsSliceOf.new _ vl vu vs) pl pu ps ?_ (by rw [List.size_toArray]; omega)
    refine ⟨.ref _, _, I5.laid (t' := s4.toks) (o := .tup xs.reverse) (fun b ob q => Heap.get?_push_of_some _ q) (Nat.le_refl _) ?_, rfl, q _ (I5.hok.fresh (Nat.le_refl _))⟩
    exact ⟨by rw [List.length_reverse]; exact hz, _, r.reverse, IsTup.new _ _⟩
end
section
variable {X : Cx} {W : WX} {zz : Option Zi} {e : Expr} {me : M D}
def revAnyD : D → Option D
  | .str x => if x.length ≤ sizeLine then some (.str (revTxt x)) else none
  | .tup ds => some (.tup ds.reverse)
  | _ => none
def m_rev (m : M D) : M D := m.bind fun d => M.lift fun ρ S => (rsv ρ S d).bind revAnyD
/-- e[::-1] -/
theorem pd_rev {k : Nat} {p1 p2 p3 pos : Pos} (he : PD X W zz e me) : PD X W zz (.Subscript e (.Slice none none (some (.UnaryOp .USub (.Constant (.int 1) k p1) p2)) p3) pos) (m_rev me) :=
  pe_mono (pe_revA he) fun σ H Q h => by
    obtain ⟨w, ρ, S, h⟩ := h
    refine ⟨w, ρ, S, h.bind fun d v w1 H1 S1 st rd h1 => ?_⟩
    obtain ⟨y, e, kk⟩ := h1.lift
    cases q1 : rsv ρ S1 d with
    | none => rw [q1] at e; cases e
    | some d' =>
      rw [q1, Option.bind_some] at e
      have rs := Rs.of h1.t h1.s rd q1
      cases d' <;> first | (exfalso; simp [revAnyD] at e; done) | skip
      case str x =>
        simp only [revAnyD] at e
        split at e
        · rename_i c
          cases e
          have rs : v = V.str x := rs
          subst rs
          exact .inl ⟨x, rfl, c, kk _ _ _ (Grow.refl h1.t.sub) (.inl (.str _))⟩
        · cases e
      case tup ds =>
        obtain ⟨a, xs, rfl, hx, hd⟩ := rs
        simp only [revAnyD] at e
        cases e
        refine .inr ⟨a, xs, rfl, ex_t h1.t.sub hx, fun b nb => ?_⟩
        have gn := Grow.new (w := w1) (o := .tup xs.reverse) h1.t.sub nb
        exact kk _ _ _ gn (.inl (.tup (st_of upd_same) (hd.reverse.mono gn.le)))
end
end Pd

/-! text.removeprefix, text.isdigit, text.split. -/
namespace Pd
open PySem L2 Evl Hg
open PySem.Spec PyProof.Rows
section
variable {X : Cx}
def rmpreD (a : Str) : List D → Option D
  | [.str b] => if a.length ≤ sizeLine then some (.str (Txt.removeprefix a b)) else none
  | _ => none
theorem om_rmpre : OpM X (fun x xs H Q => ∃ a b, x = .str a ∧ xs = [.str b] ∧ a.length ≤ sizeLine ∧ Q (.str (Txt.removeprefix a b)) H) rmpreD := by
  intro w H x vs ds d s rs e Q q
  have g := Grow.refl s
  cases rs with
  | nil => cases e
  | cons h hs =>
    cases hs with
    | cons _ _ => simp [rmpreD] at e
    | nil =>
      rename_i v d0
      cases d0 <;> first | (exfalso; simp [rmpreD] at e; done) | skip
      rename_i b
      have h : v = V.str b := h
      subst h
      simp only [rmpreD] at e
      split at e
      · rename_i c
        cases e
        exact ⟨x, b, rfl, rfl, c, q _ _ _ g (.str _)⟩
      · cases e
def isdigF (x : Str) : Option D := some (.bl (Txt.isdigit x))
theorem om_isdigit : OpM X (fun x xs H Q => ∃ a, x = .str a ∧ xs = [] ∧ True ∧ Q (.bl (Txt.isdigit a)) H) fun x ds => if ds.isEmpty = true then isdigF x else none := by
  intro w H x vs ds d s rs e Q q
  have g := Grow.refl s
  cases rs with
  | nil =>
    cases e
    exact ⟨x, rfl, rfl, trivial, q _ _ _ g (.bl _)⟩
  | cons h hs => simp at e
def isascF (x : Str) : Option D := some (.bl (Txt.isascii x))
theorem om_isascii : OpM X (fun x xs H Q => ∃ a, x = .str a ∧ xs = [] ∧ True ∧ Q (.bl (Txt.isascii a)) H) fun x ds => if ds.isEmpty = true then isascF x else none := by
  intro w H x vs ds d s rs e Q q
  have g := Grow.refl s
  cases rs with
  | nil =>
    cases e
    exact ⟨x, rfl, rfl, trivial, q _ _ _ g (.bl _)⟩
  | cons h hs => simp at e
def splitD (a : Str) : List D → Option D
  | [.str b] => if (b.length == 0) = false ∧ a.length + 2 ≤ sizeLine then some (.lst ((Txt.split a b).map D.str)) else none
  | _ => none
theorem dta_strs {K : PySem.W.Frag} {mg : Str → Option Value} {w : Wd} : ∀ ys : List Str, DtA K mg w (ys.map V.str) (ys.map D.str)
  | [] => .nil
  | y :: r => .cons (.str y) (dta_strs r)
theorem om_split : OpM X (fun x xs H Q => ∃ a b, x = .str a ∧ xs = [.str b] ∧ (b.length == 0) = false ∧ a.length + 2 ≤ sizeLine ∧ rNewStrs (Txt.split a b) H Q) splitD := by
  intro w H x vs ds d s rs e Q q
  cases rs with
  | nil => cases e
  | cons h hs =>
    cases hs with
    | cons _ _ => simp [splitD] at e
    | nil =>
      rename_i v d0
      cases d0 <;> first | (exfalso; simp [splitD] at e; done) | skip
      rename_i b
      have h : v = V.str b := h
      subst h
      simp only [splitD] at e
      split at e
      · rename_i c
        cases e
        refine ⟨x, b, rfl, rfl, c.1, c.2, ?_⟩
        intro p nb
        have gn := Grow.new (w := w) (o := .lst ((Txt.split x b).map V.str)) s nb
        exact q _ _ _ gn (.lst (Rd.of upd_same) (dta_strs _))
      · cases e
end
end Pd

/-! f-texts of texts and whole numbers. -/
namespace Pd
open PySem L2 Evl Hg
open PySem.Spec PyProof.Rows
section
variable {X : Cx} {W : WX} {z : Option Zi} {e v1 v2 : Expr} {me : M D} {pos : Pos} {es : List Expr} {ms : List (M D)} {σ : L2.St}
def fmtD : D → Option D
  | .str y => if y.length ≤ sizeLine then some (.str y) else none
  | .int i => if i.natAbs.log2 < 1920 then some (.str (toString i)) else none
  | _ => none
def m_fmt (m : M D) : M D := m.bind fun d => M.lift fun ρ S => (rsv ρ S d).bind fmtD
theorem pd_fmt (he : PD X W z e me) : PD X W z (.FormattedValue e (-1) none pos) (m_fmt me) :=
  pe_mono (pe_fmt he) fun σ H Q h => by
    obtain ⟨w, ρ, S, h⟩ := h
    refine ⟨w, ρ, S, h.bind fun d v w1 H1 S1 st rd h1 => ?_⟩
    obtain ⟨y, e, kk⟩ := h1.lift
    cases q1 : rsv ρ S1 d with
    | none => rw [q1] at e; cases e
    | some d' =>
      rw [q1, Option.bind_some] at e
      have rs := Rs.of h1.t h1.s rd q1
      cases d' <;> first | (exfalso; simp [fmtD] at e; done) | skip
      case str x =>
        simp only [fmtD] at e
        split at e
        · rename_i c
          cases e
          have rs : v = V.str x := rs
          subst rs
          exact .inl ⟨x, rfl, c, kk _ _ _ (Grow.refl h1.t.sub) (.inl (.str _))⟩
        · cases e
      case int i =>
        simp only [fmtD] at e
        split at e
        · rename_i c
          cases e
          have rs : v = V.int i := rs
          subst rs
          exact .inr ⟨i, rfl, c, kk _ _ _ (Grow.refl h1.t.sub) (.inl (.str _))⟩
        · cases e
/-- the parts -/
inductive PDJ (X : Cx) (W : WX) (z : Option Zi) : List Expr → List (M D) → Prop where
  | nil : PDJ X W z [] []
  | cons {e : Expr} {m : M D} {es : List Expr} {ms : List (M D)} (h : PD X W z e m) (r : PDJ X W z es ms) : PDJ X W z (e :: es) (m :: ms)
theorem PDJ.pj : ∀ {es : List Expr} {ms : List (M D)}, PDJ X W z es ms → PJ X es (ms.map fun m => tD X.K X.mg W z m)
  | _, _, .nil => .nil
  | _, _, .cons h r => .cons h r.pj
def m_js : List (M D) → Str → M D
  | [], acc => M.pure (.str acc)
  | m :: ms, acc => m.bind fun d => (M.lift fun _ _ => (strIs d).bind fun y => if (acc ++ y).length ≤ sizeLine then some y else none).bind fun y => m_js ms (acc ++ y)
theorem js_go : ∀ (ms : List (M D)) (acc : Str) (H : Hp) (Q : VK), tD X.K X.mg W z (m_js ms acc) σ H Q → tJs (ms.map fun m => tD X.K X.mg W z m) acc σ H fun out H1 => Q (.str out) H1
  | [], acc, H, Q, h => by
    obtain ⟨w, ρ, S, h⟩ := h
    exact h.pure (V.str acc) (.inl (.str acc))
  | m :: ms, acc, H, Q, h => by
    obtain ⟨w, ρ, S, h⟩ := h
    refine ⟨w, ρ, S, h.bind fun d v w1 H1 S1 st rd h1 => ?_⟩
    obtain ⟨y, e, h2⟩ := h1.liftB
    cases q : strIs d with
    | none => rw [q] at e; cases e
    | some x =>
      rw [q, Option.bind_some] at e
      split at e
      · rename_i c
        cases e
        obtain rfl := strIs_eq q
        obtain rfl := rr_str rd
        exact ⟨y, rfl, c, js_go ms (acc ++ y) H1 Q ⟨w1, ρ, S1, h2⟩⟩
      · cases e
/-- f'..' of two parts or more -/
theorem pd_joined (h : PDJ X W z (v1 :: v2 :: es) ms) : PD X W z (.JoinedStr (v1 :: v2 :: es) pos) (m_js ms Str.empty) :=
  pe_mono (pe_joined h.pj) fun σ H Q hh => js_go ms Str.empty H Q hh
/-- of one -/
theorem pd_joined1 (he : PD X W z e me) : PD X W z (.JoinedStr [e] pos) me := pe_joined1 he
end
end Pd

/-! == and != of any list or tuple and the empty one. -/
namespace Pd
open PySem L2 Evl Hg SeqAt
section
variable {X : Cx} {w : Wd} {H : Hp} {a b : D}
def rEqE (K : PySem.W.Frag) (f : Bool → Bool) : R2 := fun x y H Q => ∃ a b xs, x = .ref a ∧ y = .ref b ∧ ((Rd H a (.lst xs) ∧ Rd H b (.lst [])) ∨ (SqT K H a xs ∧ SqT K H b [])) ∧ Q (.bl (f xs.isEmpty)) H
theorem op_eqE (hu : X.A.units + 64 < cLine) : OpR X (compareOp .Eq) (rEqE X.K id) := by
  intro pins s σ H x y v u Q I rx ry h
  obtain ⟨a, b, xs, rfl, rfl, h, q⟩ := h
  cases rx
  cases ry
  have fin : ∀ k, k = xs.isEmpty → RcAt X.A s (.ref a) (.ref b) k → wpAny (model X.prog X.w) X.A (compareOp .Eq (.ref a) (.ref b)) (EP X pins σ Q) X.xe s := fun k hk r => r X.prog X.w _ _ ⟨.bl _, H, I, rfl, by subst hk; exact q⟩
  rcases h with ⟨ha, hb⟩ | ⟨ha, hb⟩
  · obtain ⟨z, its, n, r, e⟩ := ha.ok I.hok
    obtain ⟨z2, its2, n2, r2, e2⟩ := hb.ok I.hok
    have hl := r.length
    have hl2 := r2.length
    have h2 : its2 = [] := List.length_eq_zero_iff.mp (by simpa using hl2.symm)
    subst h2
    cases xs with
    | nil =>
      have h1 : its = [] := List.length_eq_zero_iff.mp (by simpa using hl.symm)
      subst h1
      exact fin _ rfl (RcAt.lists (e := fun _ => true) ⟨_, e, rfl, _, rfl⟩ ⟨_, e2, rfl, _, rfl⟩ rfl (by omega) (fun j h1 _ => absurd h1 (by simp)))
    | cons x xs =>
      exact fin _ rfl (RcAt.lists_lengths ⟨_, e, rfl, _, rfl⟩ ⟨_, e2, rfl, _, rfl⟩ (by have : 0 < its.length := by rw [← hl]; simp
                                                                                       simp; intro z; subst z; simp at this) (by omega))
  · obtain ⟨its, r, e, _⟩ := I.tuple ha
    obtain ⟨its2, r2, e2, _⟩ := I.tuple hb
    have hl := r.length
    have h2 : its2 = [] := List.length_eq_zero_iff.mp (by simpa using r2.length.symm)
    subst h2
    have t := RcAt.tuples (A := X.A) (e := fun _ => true) e e2 (by omega) (fun j _ h2 => absurd h2 (by simp))
    refine fin _ ?_ t
    cases xs with
    | nil =>
      have h1 : its = [] := List.length_eq_zero_iff.mp (by simpa using hl.symm)
      subst h1
      rfl
    | cons x xs =>
      have : 0 < its.length := by rw [← hl]; simp
      cases its with
      | nil => simp at this
      | cons i its => simp
theorem op_neE (hu : X.A.units + 64 < cLine) : OpR X (compareOp .NotEq) (rEqE X.K (!·)) := by
  intro pins s σ H x y v u Q I rx ry h
  obtain ⟨a, b, xs, rfl, rfl, h, q⟩ := h
  cases rx
  cases ry
  have fin : ∀ k, k = (!xs.isEmpty) → RcNeAt X.A s (.ref a) (.ref b) k → wpAny (model X.prog X.w) X.A (compareOp .NotEq (.ref a) (.ref b)) (EP X pins σ Q) X.xe s := fun k hk r => r X.prog X.w _ _ ⟨.bl _, H, I, rfl, by subst hk; exact q⟩
  rcases h with ⟨ha, hb⟩ | ⟨ha, hb⟩
  · obtain ⟨z, its, n, r, e⟩ := ha.ok I.hok
    obtain ⟨z2, its2, n2, r2, e2⟩ := hb.ok I.hok
    have hl := r.length
    have hl2 := r2.length
    have h2 : its2 = [] := List.length_eq_zero_iff.mp (by simpa using hl2.symm)
    subst h2
    cases xs with
    | nil =>
      have h1 : its = [] := List.length_eq_zero_iff.mp (by simpa using hl.symm)
      subst h1
      exact fin _ rfl (RcNeAt.lists (e := fun _ => true) ⟨_, e, rfl, _, rfl⟩ ⟨_, e2, rfl, _, rfl⟩ rfl (by omega) (fun j h1 _ => absurd h1 (by simp)))
    | cons x xs =>
      exact fin _ rfl (RcNeAt.lists_lengths ⟨_, e, rfl, _, rfl⟩ ⟨_, e2, rfl, _, rfl⟩ (by have : 0 < its.length := by rw [← hl]; simp
                                                                                         simp; intro z; subst z; simp at this) (by omega))
  · obtain ⟨its, r, e, _⟩ := I.tuple ha
    obtain ⟨its2, r2, e2, _⟩ := I.tuple hb
    have hl := r.length
    have h2 : its2 = [] := List.length_eq_zero_iff.mp (by simpa using r2.length.symm)
    subst h2
    have t := RcNeAt.tuples (A := X.A) (e := fun _ => true) e e2 (by omega) (fun j _ h2 => absurd h2 (by simp))
    refine fin _ ?_ t
    cases xs with
    | nil =>
      have h1 : its = [] := List.length_eq_zero_iff.mp (by simpa using hl.symm)
      subst h1
      rfl
    | cons x xs =>
      have : 0 < its.length := by rw [← hl]; simp
      cases its with
      | nil => simp at this
      | cons i its => simp
/-- == of texts, of data, of anything in a row and the empty row -/
def eqG (a b : D) : Option Bool := match a, b with
  | .tup ds, .tup [] => some ds.isEmpty
  | .lst ds, .lst [] => some ds.isEmpty
  | a, b => eqF a b
def neG (a b : D) : Option Bool := (eqG a b).map (!·)
abbrev rEqG (K : PySem.W.Frag) : R2 := fun x y H Q => rEqE K id x y H Q ∨ (rEq x y H Q ∨ rEqD K x y H Q)
abbrev rNeG (K : PySem.W.Frag) : R2 := fun x y H Q => rEqE K (!·) x y H Q ∨ (rNe x y H Q ∨ rNeD K x y H Q)
theorem op_eqG (hu : X.A.units + 64 < cLine) : OpR X (compareOp .Eq) (rEqG X.K) := OpR.or (op_eqE hu) (op_eqF hu)
theorem op_neG (hu : X.A.units + 64 < cLine) : OpR X (compareOp .NotEq) (rNeG X.K) := OpR.or (op_neE hu) (op_neF hu)
theorem eqG_cases {a b : D} {c : Bool} (e : eqG a b = some c) : (∃ ds, (a = .tup ds ∧ b = .tup [] ∨ a = .lst ds ∧ b = .lst []) ∧ c = ds.isEmpty) ∨ eqF a b = some c := by
  unfold eqG at e
  split at e
  · cases e; exact .inl ⟨_, .inl ⟨rfl, rfl⟩, rfl⟩
  · cases e; exact .inl ⟨_, .inr ⟨rfl, rfl⟩, rfl⟩
  · exact .inr e
theorem rEqE_of {f : Bool → Bool} {x y : V} {ds : List D} {Q : VK} (s : Ex w.G H) (ra : Rs X.K X.mg w H x a) (rb : Rs X.K X.mg w H y b) (h : a = .tup ds ∧ b = .tup [] ∨ a = .lst ds ∧ b = .lst []) (q : Q (.bl (f ds.isEmpty)) H) : rEqE X.K f x y H Q := by
  have em : ∀ {xs : List V}, DtA X.K X.mg w xs ds → xs.isEmpty = ds.isEmpty := fun hx => by cases hx <;> rfl
  rcases h with ⟨rfl, rfl⟩ | ⟨rfl, rfl⟩
  · obtain ⟨a, xs, rfl, ha, hx⟩ := ra
    obtain ⟨b, ys, rfl, hb, hy⟩ := rb
    cases hy
    exact ⟨a, b, xs, rfl, rfl, .inr ⟨ex_t s ha, ex_t s hb⟩, by rw [em hx]; exact q⟩
  · obtain ⟨a, xs, rfl, ha, hx⟩ := ra
    obtain ⟨b, ys, rfl, hb, hy⟩ := rb
    cases hy
    exact ⟨a, b, xs, rfl, rfl, .inl ⟨ha, hb⟩, by rw [em hx]; exact q⟩
theorem c2_eqG : Cm2 X (rEqG X.K) eqG := by
  intro w H x y a b c s ra rb e Q q
  rcases eqG_cases e with ⟨ds, h, rfl⟩ | e
  · exact .inl (rEqE_of (f := id) s ra rb h (q H (Ex.refl _)))
  · exact .inr (c2_eq w H x y a b c s ra rb e Q q)
theorem c2_neG : Cm2 X (rNeG X.K) neG := by
  intro w H x y a b c s ra rb e Q q
  unfold neG at e
  cases q1 : eqG a b with
  | none => rw [q1] at e; cases e
  | some k =>
    rw [q1] at e
    cases e
    rcases eqG_cases q1 with ⟨ds, h, rfl⟩ | e
    · exact .inl (rEqE_of (f := (!·)) s ra rb h (q H (Ex.refl _)))
    · exact .inr (c2_ne w H x y a b _ s ra rb (by dsimp only; rw [e]; rfl) Q q)
end
end Pd

/-! Running the models by rewriting: what is to come stands in frames that are named, so that nothing ahead of its turn is rewritten. -/
namespace Pd
open PySem L2
abbrev FFs := List D → Sto → Option (R D × Sto)
abbrev EQ := Str → List (Str × D) → Sto → Prop
def WM {α : Type} (m : M α) (ρ : Rho) (S : Sto) (Q : α → Sto → Prop) (E : EQ) : Prop :=
  match m ρ S with
  | some (.ok a, S1) => Q a S1
  | some (.er c fs, S1) => E c fs S1
  | none => False
def WS (m : SM) (ρ : Rho) (S : Sto) (Q : Fl → Rho → Sto → Prop) : Prop :=
  match m ρ S with
  | some (f, ρ1, S1) => Q f ρ1 S1
  | none => False
def WF (F : FFs) (ds : List D) (S : Sto) (Q : D → Sto → Prop) (E : EQ) : Prop := WM (fun _ S => F ds S) [] S Q E
def NoE : EQ := fun _ _ _ => False
/-- an outcome that may be missing -/
def Op {α : Type} (o : Option α) (S : Sto) (Q : α → Sto → Prop) : Prop := match o with
  | some a => Q a S
  | none => False
def OpR (o : Option Rho) (S : Sto) (Q : Rho → Sto → Prop) : Prop := match o with
  | some a => Q a S
  | none => False
def Fx (d : D) : Prop := fixed d = true
def Fxs : List D → Prop
  | [] => True
  | d :: ds => Fx d ∧ Fxs ds
theorem fxs_all : ∀ (ds : List D), (ds.all fixed = true) = Fxs ds
  | [] => by simp [Fxs]
  | d :: ds => by simp only [List.all_cons, Bool.and_eq_true, Fxs, fxs_all ds]; rfl
def Short (ds : List D) : Prop := ds.length ≤ sizeLine
def nth : Rho → Nat → Sv
  | [], _ => .un
  | s :: _, 0 => s
  | _ :: ρ, n + 1 => nth ρ n
def put : Rho → Nat → Sv → Rho
  | [], _, _ => []
  | _ :: ρ, 0, t => t :: ρ
  | s :: ρ, n + 1, t => s :: put ρ n t
theorem nth_get : ∀ (ρ : Rho) (i : Nat), (match ρ[i]? with | some s => s | none => Sv.un) = nth ρ i
  | [], i => by simp [nth]
  | s :: ρ, 0 => by simp [nth]
  | s :: ρ, n + 1 => by simpa [nth] using nth_get ρ n
theorem put_set : ∀ (ρ : Rho) (i : Nat) (t : Sv), ρ.set i t = put ρ i t
  | [], i, t => by simp [put]
  | s :: ρ, 0, t => by simp [put]
  | s :: ρ, n + 1, t => by simpa [put] using put_set ρ n t
theorem nth_0 {s : Sv} {ρ : Rho} : nth (s :: ρ) 0 = s := rfl
theorem nth_s {s : Sv} {ρ : Rho} {n : Nat} : nth (s :: ρ) (n + 1) = nth ρ n := rfl
theorem put_0 {s t : Sv} {ρ : Rho} : put (s :: ρ) 0 t = t :: ρ := rfl
theorem put_s {s t : Sv} {ρ : Rho} {n : Nat} : put (s :: ρ) (n + 1) t = s :: put ρ n t := rfl
section
variable {α β : Type} {m : M α} {f : α → M β} {ρ : Rho} {S S1 : Sto} {Q : α → Sto → Prop} {Q2 : β → Sto → Prop} {E : EQ} {QD : D → Sto → Prop} {QB : Bool → Sto → Prop} {QL : List D → Sto → Prop} {QO : Option Int → Sto → Prop} {QS : Fl → Rho → Sto → Prop} {QR : Rho → Sto → Prop} {ma mb mc me mo mk mv : M D} {mt mu : M Bool} {ms mi : M (List D)} {ml mh : M (Option Int)} {n : Nat} {F : FFs} {d d' x y : D} {ds es : List D} {i j : Nat} {a b : SM} {k : Bool}
theorem op_some {a : α} : Op (some a) S Q = Q a S := rfl
theorem op_none : Op (none : Option α) S Q = False := rfl
theorem op_guard {P : Prop} [Decidable P] {o : Option α} : Op (if P then o else none) S Q = (P ∧ Op o S Q) := by
  by_cases h : P
  · rw [if_pos h]; simp [h]
  · rw [if_neg h]; simp [h, Op]
theorem opr_some {a : Rho} : OpR (some a) S QR = QR a S := rfl
theorem opr_none : OpR none S QR = False := rfl
theorem wm_bind : WM (m.bind f) ρ S Q2 E = WM m ρ S (fun a S1 => WM (f a) ρ S1 Q2 E) E := by
  unfold WM M.bind
  cases m ρ S with
  | none => rfl
  | some p => obtain ⟨r, S1⟩ := p; cases r <;> rfl
theorem wm_lift {g : Rho → Sto → Option α} : WM (M.lift g) ρ S Q E = Op (g ρ S) S Q := by
  unfold WM M.lift Op
  cases g ρ S <;> rfl
theorem wm_pure {x : α} : WM (M.pure x) ρ S Q E = Q x S := rfl
/-! ### truth values that are not known -/
def Br (k : Bool) (ma mb : M α) (ρ : Rho) (S : Sto) (Q : α → Sto → Prop) (E : EQ) : Prop := WM (if k = true then ma else mb) ρ S Q E
def BrS (k : Bool) (a b : SM) (ρ : Rho) (S : Sto) (Q : Fl → Rho → Sto → Prop) : Prop := WS (if k = true then a else b) ρ S Q
theorem br_t {ma mb : M α} : Br true ma mb ρ S Q E = WM ma ρ S Q E := rfl
theorem br_f {ma mb : M α} : Br false ma mb ρ S Q E = WM mb ρ S Q E := rfl
theorem brs_t : BrS true a b ρ S QS = WS a ρ S QS := rfl
theorem brs_f : BrS false a b ρ S QS = WS b ρ S QS := rfl
/-! ### expressions -/
theorem wm_c : WM (m_c d) ρ S QD E = QD d S := rfl
def VarQ (s : Sv) (i : Nat) (S : Sto) (Q : D → Sto → Prop) : Prop := match s with
  | .d d => Q d S
  | .m _ => Q (.loc i) S
  | .un => False
theorem var_d : VarQ (.d d) i S QD = QD d S := rfl
theorem var_m {o : Mo} : VarQ (.m o) i S QD = QD (.loc i) S := rfl
theorem wm_var : WM (m_var i) ρ S QD E = VarQ (nth ρ i) i S QD := by
  unfold m_var
  rw [wm_lift, ← nth_get]
  cases ρ[i]? with
  | none => rfl
  | some s => cases s <;> rfl
def op2 {γ : Type} (f : D → D → Option γ) (a b : Option D) : Option γ := match a, b with
  | some a', some b' => f a' b'
  | _, _ => none
theorem op2_some {γ : Type} {f : D → D → Option γ} : op2 f (some x) (some y) = f x y := rfl
section
variable {f g : D → D → Option D} {fb gb : D → D → Option Bool}
def KOp (f : D → D → Option D) (mb : M D) (ρ : Rho) (Q : D → Sto → Prop) (E : EQ) (x : D) (S : Sto) : Prop := WM mb ρ S (fun y S2 => Op (op2 f (rsv ρ S2 x) (rsv ρ S2 y)) S2 Q) E
def KOp2 (f : D → D → Option D) (x : D) (ρ : Rho) (Q : D → Sto → Prop) (y : D) (S : Sto) : Prop := Op (op2 f (rsv ρ S x) (rsv ρ S y)) S Q
theorem wm_op : WM (m_op f ma mb) ρ S QD E = WM ma ρ S (KOp f mb ρ QD E) E := by
  unfold m_op KOp
  simp only [wm_bind, wm_lift]
  rfl
theorem k_op : KOp f mb ρ QD E x S = WM mb ρ S (KOp2 f x ρ QD) E := rfl
theorem k_op2 : KOp2 f x ρ QD y S = Op (op2 f (rsv ρ S x) (rsv ρ S y)) S QD := rfl
def KBl (Q : D → Sto → Prop) (k : Bool) (S : Sto) : Prop := Q (.bl k) S
theorem k_bl : KBl QD k S = QD (.bl k) S := rfl
def KCmT (f : D → D → Option Bool) (mb : M D) (ρ : Rho) (Q : Bool → Sto → Prop) (E : EQ) (x : D) (S : Sto) : Prop := WM mb ρ S (fun y S2 => Op (op2 f (rsv ρ S2 x) (rsv ρ S2 y)) S2 Q) E
def KCmT2 (f : D → D → Option Bool) (x : D) (ρ : Rho) (Q : Bool → Sto → Prop) (y : D) (S : Sto) : Prop := Op (op2 f (rsv ρ S x) (rsv ρ S y)) S Q
theorem wm_cmpT : WM (m_cmpT fb ma mb) ρ S QB E = WM ma ρ S (KCmT fb mb ρ QB E) E := by
  unfold m_cmpT KCmT
  simp only [wm_bind, wm_lift]
  rfl
theorem k_cmT : KCmT fb mb ρ QB E x S = WM mb ρ S (KCmT2 fb x ρ QB) E := rfl
theorem k_cmT2 : KCmT2 fb x ρ QB y S = Op (op2 fb (rsv ρ S x) (rsv ρ S y)) S QB := rfl
theorem op_map {γ : Type} {o : Option γ} {g : γ → α} : Op (o.map g) S Q = Op o S (fun a S => Q (g a) S) := by cases o <;> rfl
theorem op_bind {γ : Type} {o : Option γ} {g : γ → Option α} : Op (o.bind g) S Q = Op o S (fun a S => Op (g a) S Q) := by cases o <;> rfl
theorem op2_map {o1 o2 : Option D} : Op (op2 (fun a b => (fb a b).map D.bl) o1 o2) S QD = Op (op2 fb o1 o2) S (KBl QD) := by
  cases o1 <;> cases o2 <;> first | rfl | exact op_map
theorem wm_cmp : WM (m_cmp fb ma mb) ρ S QD E = WM (m_cmpT fb ma mb) ρ S (KBl QD) E := by
  unfold m_cmp
  rw [wm_op, wm_cmpT]
  congr 1
  funext x S1
  rw [k_op, k_cmT]
  congr 1
  funext y S2
  rw [k_op2, k_cmT2, op2_map]
theorem op2_neF {o1 o2 : Option D} : Op (op2 (fun a b => (fb a b).map (!·)) o1 o2) S QB = Op (op2 fb o1 o2) S (fun k S => QB (!k) S) := by
  cases o1 <;> cases o2 <;> first | rfl | exact op_map
def KCh (f g : D → D → Option Bool) (mb mc : M D) (ρ : Rho) (Q : D → Sto → Prop) (E : EQ) (x : D) (S : Sto) : Prop := WM mb ρ S (fun y S2 => Op (op2 f (rsv ρ S2 x) (rsv ρ S2 y)) S2 (fun k S3 => WM (if k = true then m_cmp g (m_c y) mc else m_c (.bl false)) ρ S3 Q E)) E
def KCh2 (f g : D → D → Option Bool) (x : D) (mc : M D) (ρ : Rho) (Q : D → Sto → Prop) (E : EQ) (y : D) (S : Sto) : Prop := Op (op2 f (rsv ρ S x) (rsv ρ S y)) S (fun k S3 => WM (if k = true then m_cmp g (m_c y) mc else m_c (.bl false)) ρ S3 Q E)
def KCh3 (g : D → D → Option Bool) (y : D) (mc : M D) (ρ : Rho) (Q : D → Sto → Prop) (E : EQ) (k : Bool) (S : Sto) : Prop := Br k (m_cmp g (m_c y) mc) (m_c (.bl false)) ρ S Q E
theorem wm_chain : WM (m_chain fb gb ma mb mc) ρ S QD E = WM ma ρ S (KCh fb gb mb mc ρ QD E) E := by
  unfold m_chain KCh
  simp only [wm_bind, wm_lift]
  congr 1
theorem k_ch : KCh fb gb mb mc ρ QD E x S = WM mb ρ S (KCh2 fb gb x mc ρ QD E) E := rfl
theorem k_ch2 : KCh2 fb gb x mc ρ QD E y S = Op (op2 fb (rsv ρ S x) (rsv ρ S y)) S (KCh3 gb y mc ρ QD E) := rfl
theorem k_ch3 : KCh3 gb y mc ρ QD E k S = Br k (m_cmp gb (m_c y) mc) (m_c (.bl false)) ρ S QD E := rfl
end
def KIsT (Q : Bool → Sto → Prop) (d : D) (S : Sto) : Prop := match d with
  | .bl b => Q b S
  | _ => False
theorem wm_isT : WM (m_isT me) ρ S QB E = WM me ρ S (KIsT QB) E := by
  unfold m_isT
  simp only [wm_bind, wm_lift]
  congr 1
  funext d S1
  cases d <;> rfl
theorem k_isT : KIsT QB (.bl k) S = QB k S := rfl
def KTr (ρ : Rho) (Q : Bool → Sto → Prop) (d : D) (S : Sto) : Prop := Op ((rsv ρ S d).bind truth) S Q
theorem wm_tr : WM (m_tr me) ρ S QB E = WM me ρ S (KTr ρ QB) E := by
  unfold m_tr
  simp only [wm_bind, wm_lift]
  rfl
theorem k_tr : KTr ρ QB d S = Op ((rsv ρ S d).bind truth) S QB := rfl
def KBo (w : Bool) (mb : M D) (ρ : Rho) (Q : D → Sto → Prop) (E : EQ) (d : D) (S : Sto) : Prop := Op ((rsv ρ S d).bind truth) S (fun k S => Br (k == w) mb (m_c d) ρ S Q E)
def KBo2 (w : Bool) (d : D) (mb : M D) (ρ : Rho) (Q : D → Sto → Prop) (E : EQ) (k : Bool) (S : Sto) : Prop := Br (k == w) mb (m_c d) ρ S Q E
theorem wm_and : WM (m_and ma mb) ρ S QD E = WM ma ρ S (KBo true mb ρ QD E) E := by
  unfold m_and
  simp only [wm_bind, wm_lift]
  congr 1
  funext d S1
  show _ = Op _ _ _
  congr 1
  funext k S2
  cases k <;> rfl
theorem wm_or : WM (m_or ma mb) ρ S QD E = WM ma ρ S (KBo false mb ρ QD E) E := by
  unfold m_or
  simp only [wm_bind, wm_lift]
  congr 1
  funext d S1
  show _ = Op _ _ _
  congr 1
  funext k S2
  cases k <;> rfl
theorem k_bo {w : Bool} : KBo w mb ρ QD E d S = Op ((rsv ρ S d).bind truth) S (KBo2 w d mb ρ QD E) := rfl
theorem k_bo2t : KBo2 true d mb ρ QD E k S = Br k mb (m_c d) ρ S QD E := by cases k <;> rfl
theorem k_bo2f : KBo2 false d mb ρ QD E k S = Br k (m_c d) mb ρ S QD E := by cases k <;> rfl
def KNotD (ρ : Rho) (Q : D → Sto → Prop) (d : D) (S : Sto) : Prop := Op ((rsv ρ S d).bind truth) S (fun k S => Q (.bl (!k)) S)
def KNot2 (Q : D → Sto → Prop) (k : Bool) (S : Sto) : Prop := Q (.bl (!k)) S
theorem wm_not : WM (m_not me) ρ S QD E = WM me ρ S (KNotD ρ QD) E := by
  unfold m_not
  simp only [wm_bind, wm_lift]
  rfl
theorem k_notD : KNotD ρ QD d S = Op ((rsv ρ S d).bind truth) S (KNot2 QD) := rfl
theorem k_not2 : KNot2 QD k S = QD (.bl (!k)) S := rfl
def KtBo (w : Bool) (mu : M Bool) (ρ : Rho) (Q : Bool → Sto → Prop) (E : EQ) (k : Bool) (S : Sto) : Prop := Br k (if w = true then mu else M.pure true) (if w = true then M.pure false else mu) ρ S Q E
theorem wt_and' : WM (mt_and mt mu) ρ S QB E = WM mt ρ S (KtBo true mu ρ QB E) E := by
  unfold mt_and
  simp only [wm_bind]
  rfl
theorem wt_or' : WM (mt_or mt mu) ρ S QB E = WM mt ρ S (KtBo false mu ρ QB E) E := by
  unfold mt_or
  simp only [wm_bind]
  rfl
theorem kt_bot : KtBo true mu ρ QB E k S = Br k mu (M.pure false) ρ S QB E := rfl
theorem kt_bof : KtBo false mu ρ QB E k S = Br k (M.pure true) mu ρ S QB E := rfl
def KtNot (Q : Bool → Sto → Prop) (k : Bool) (S : Sto) : Prop := Q (!k) S
theorem wt_not' : WM (mt_not mt) ρ S QB E = WM mt ρ S (KtNot QB) E := by
  unfold mt_not
  simp only [wm_bind]
  rfl
theorem kt_not : KtNot QB k S = QB (!k) S := rfl
def KIf (ma mb : M D) (ρ : Rho) (Q : D → Sto → Prop) (E : EQ) (k : Bool) (S : Sto) : Prop := Br k ma mb ρ S Q E
theorem wm_if : WM (m_if mt ma mb) ρ S QD E = WM mt ρ S (KIf ma mb ρ QD E) E := by
  unfold m_if
  simp only [wm_bind]
  rfl
theorem k_if : KIf ma mb ρ QD E k S = Br k ma mb ρ S QD E := rfl
theorem wm_nil : WM ma_nil ρ S QL E = QL [] S := rfl
def KCons (ms : M (List D)) (ρ : Rho) (Q : List D → Sto → Prop) (E : EQ) (d : D) (S : Sto) : Prop := WM ms ρ S (fun ds S2 => Q (d :: ds) S2) E
def KCons2 (d : D) (Q : List D → Sto → Prop) (ds : List D) (S : Sto) : Prop := Q (d :: ds) S
theorem wm_cons : WM (ma_cons me ms) ρ S QL E = WM me ρ S (KCons ms ρ QL E) E := by
  unfold ma_cons
  simp only [wm_bind]
  rfl
theorem k_cons : KCons ms ρ QL E d S = WM ms ρ S (KCons2 d QL) E := rfl
theorem k_cons2 : KCons2 d QL ds S = QL (d :: ds) S := rfl
def KTup (Q : D → Sto → Prop) (ds : List D) (S : Sto) : Prop := (Fxs ds ∧ Short ds) ∧ Q (.tup ds) S
def KLst (Q : D → Sto → Prop) (ds : List D) (S : Sto) : Prop := (Fxs ds ∧ Short ds) ∧ Q (.lst ds) S
theorem wm_tup : WM (m_tup ms) ρ S QD E = WM ms ρ S (KTup QD) E := by
  unfold m_tup
  simp only [wm_bind, wm_lift, op_guard, fxs_all]
  rfl
theorem k_tup : KTup QD ds S = ((Fxs ds ∧ Short ds) ∧ QD (.tup ds) S) := rfl
theorem wm_lst : WM (m_lst ms) ρ S QD E = WM ms ρ S (KLst QD) E := by
  unfold m_lst
  simp only [wm_bind, wm_lift, op_guard, fxs_all]
  rfl
theorem k_lst : KLst QD ds S = ((Fxs ds ∧ Short ds) ∧ QD (.lst ds) S) := rfl
theorem fxs_nil : Fxs [] = True := rfl
theorem fxs_cons : Fxs (d :: ds) = (Fx d ∧ Fxs ds) := rfl
theorem short_nil : Short [] = True := by simp [Short]
theorem short_cons : Short (d :: ds) = (ds.length + 1 ≤ 16777216) := by simp [Short, sizeLine_eq]
theorem fx_non : Fx .non = True := by simp [Fx, fixed]
theorem fx_bl : Fx (.bl k) = True := by simp [Fx, fixed]
theorem fx_int {i : Int} : Fx (.int i) = True := by simp [Fx, fixed]
theorem fx_str {x : Str} : Fx (.str x) = True := by simp [Fx, fixed]
theorem fx_tup : Fx (.tup ds) = True := by simp [Fx, fixed]
theorem fx_lst : Fx (.lst ds) = True := by simp [Fx, fixed]
theorem fx_dct {kvs : List (Key × D)} : Fx (.dct kvs) = True := by simp [Fx, fixed]
theorem fx_ins {c : Str} {fs : List (Str × D)} : Fx (.ins c fs) = True := by simp [Fx, fixed]
theorem fx_exc {c : Str} {fs : List (Str × D)} : Fx (.exc c fs) = True := by simp [Fx, fixed]
theorem fx_own : Fx (.own n) = True := by simp [Fx, fixed]
theorem fx_scr {ns : List Int} : Fx (.scr ns) = True := by simp [Fx, fixed]
theorem fx_cls {c : Str} : Fx (.cls c) = True := by simp [Fx, fixed]
theorem rs_non : rsv ρ S .non = some .non := rfl
theorem rs_bl : rsv ρ S (.bl k) = some (.bl k) := rfl
theorem rs_int {i : Int} : rsv ρ S (.int i) = some (.int i) := rfl
theorem rs_str {x : Str} : rsv ρ S (.str x) = some (.str x) := rfl
theorem rs_tup : rsv ρ S (.tup ds) = some (.tup ds) := rfl
theorem rs_lst : rsv ρ S (.lst ds) = some (.lst ds) := rfl
theorem rs_dct {kvs : List (Key × D)} : rsv ρ S (.dct kvs) = some (.dct kvs) := rfl
theorem rs_ins {c : Str} {fs : List (Str × D)} : rsv ρ S (.ins c fs) = some (.ins c fs) := rfl
theorem rs_exc {c : Str} {fs : List (Str × D)} : rsv ρ S (.exc c fs) = some (.exc c fs) := rfl
theorem rs_scr {ns : List Int} : rsv ρ S (.scr ns) = some (.scr ns) := rfl
theorem rs_cls {c : Str} : rsv ρ S (.cls c) = some (.cls c) := rfl
theorem rs_own : rsv ρ S (.own n) = (S[n]?).map Mo.d := rfl
def Mol (s : Sv) : Option D := match s with
  | .m o => some o.d
  | _ => none
theorem rs_loc : rsv ρ S (.loc i) = Mol (nth ρ i) := by
  show (match ρ[i]? with | some (.m o) => some o.d | _ => none) = _
  rw [← nth_get]
  cases ρ[i]? with
  | none => rfl
  | some s => cases s <;> rfl
theorem mol_l : Mol (.m (.lst ds)) = some (.lst ds) := rfl
theorem mol_d {kvs : List (Key × D)} : Mol (.m (.dct kvs)) = some (.dct kvs) := rfl
theorem mol_i {c : Str} {fs : List (Str × D)} : Mol (.m (.ins c fs)) = some (.ins c fs) := rfl
theorem rsA_nil : rsvA ρ S [] = some [] := rfl
def rsC (a : Option D) (b : Option (List D)) : Option (List D) := match a, b with
  | some a, some b => some (a :: b)
  | _, _ => none
theorem rsA_cons : rsvA ρ S (d :: ds) = rsC (rsv ρ S d) (rsvA ρ S ds) := by
  unfold rsC
  rw [rsvA]
  all_goals (cases rsv ρ S d <;> cases rsvA ρ S ds <;> rfl)
theorem rsC_some : rsC (some d) (some ds) = some (d :: ds) := rfl
def KNeg (Q : D → Sto → Prop) (d : D) (S : Sto) : Prop := match d with
  | .int i => Q (.int (-i)) S
  | _ => False
theorem wm_neg : WM (m_neg me) ρ S QD E = WM me ρ S (KNeg QD) E := by
  unfold m_neg
  simp only [wm_bind, wm_lift]
  congr 1
  funext d S1
  cases d <;> rfl
theorem k_neg {i : Int} : KNeg QD (.int i) S = QD (.int (-i)) S := rfl
theorem wo_none' : WM mo_none ρ S QO E = QO none S := rfl
def KoS (Q : Option Int → Sto → Prop) (d : D) (S : Sto) : Prop := match d with
  | .int i => Q (some i) S
  | _ => False
theorem wo_some' : WM (mo_some me) ρ S QO E = WM me ρ S (KoS QO) E := by
  unfold mo_some
  simp only [wm_bind, wm_lift]
  congr 1
  funext d S1
  cases d <;> rfl
theorem k_oS {i : Int} : KoS QO (.int i) S = QO (some i) S := rfl
def KSl (ml mh : M (Option Int)) (ρ : Rho) (Q : D → Sto → Prop) (E : EQ) (d : D) (S : Sto) : Prop := WM ml ρ S (fun lo S2 => WM mh ρ S2 (fun hi S3 => Op ((rsv ρ S3 d).bind (sliceD lo hi)) S3 Q) E) E
def KSl2 (d : D) (mh : M (Option Int)) (ρ : Rho) (Q : D → Sto → Prop) (E : EQ) (lo : Option Int) (S : Sto) : Prop := WM mh ρ S (fun hi S3 => Op ((rsv ρ S3 d).bind (sliceD lo hi)) S3 Q) E
def KSl3 (d : D) (lo : Option Int) (ρ : Rho) (Q : D → Sto → Prop) (hi : Option Int) (S : Sto) : Prop := Op ((rsv ρ S d).bind (sliceD lo hi)) S Q
theorem wm_slice : WM (m_slice me ml mh) ρ S QD E = WM me ρ S (KSl ml mh ρ QD E) E := by
  unfold m_slice
  simp only [wm_bind, wm_lift]
  rfl
theorem k_sl : KSl ml mh ρ QD E d S = WM ml ρ S (KSl2 d mh ρ QD E) E := rfl
theorem k_sl2 {lo : Option Int} : KSl2 d mh ρ QD E lo S = WM mh ρ S (KSl3 d lo ρ QD) E := rfl
theorem k_sl3 {lo hi : Option Int} : KSl3 d lo ρ QD hi S = Op ((rsv ρ S d).bind (sliceD lo hi)) S QD := rfl
/-- what a call of a built-in gives -/
def KCb (f : List D → Option D) (ρ : Rho) (Q : D → Sto → Prop) (ds : List D) (S : Sto) : Prop := Op ((rsvA ρ S ds).bind f) S Q
theorem wm_cb {f : List D → Option D} : WM (m_cb f ms) ρ S QD E = WM ms ρ S (KCb f ρ QD) E := by
  unfold m_cb
  simp only [wm_bind, wm_lift]
  rfl
theorem k_cb {f : List D → Option D} : KCb f ρ QD ds S = Op ((rsvA ρ S ds).bind f) S QD := rfl
/-- one argument, asked for what it is now -/
def KU (f : D → Option D) (ρ : Rho) (Q : D → Sto → Prop) (d : D) (S : Sto) : Prop := Op ((rsv ρ S d).bind f) S Q
theorem k_u {f : D → Option D} : KU f ρ QD d S = Op ((rsv ρ S d).bind f) S QD := rfl
theorem bind_map_op {γ : Type} {o : Option D} {f : D → Option γ} {g : γ → D} : Op ((o.bind f).map g) S QD = Op (o.bind fun d => (f d).map g) S QD := by cases o <;> rfl
theorem wm_isi {T : String} : WM (m_isi T me) ρ S QD E = WM me ρ S (KU (fun d => (isTy T d).map D.bl) ρ QD) E := by
  unfold m_isi
  simp only [wm_bind, wm_lift, bind_map_op]
  rfl
theorem wm_isO {c : Str} {cs : List Str} : WM (m_isO c cs me) ρ S QD E = WM me ρ S (KU (fun d => (isO c cs d).map D.bl) ρ QD) E := by
  unfold m_isO
  simp only [wm_bind, wm_lift, bind_map_op]
  rfl
theorem wm_sortAny : WM (m_sortAny me) ρ S QD E = WM me ρ S (KU sortAnyD ρ QD) E := by
  unfold m_sortAny
  simp only [wm_bind, wm_lift]
  rfl
theorem wm_rev : WM (m_rev me) ρ S QD E = WM me ρ S (KU revAnyD ρ QD) E := by
  unfold m_rev
  simp only [wm_bind, wm_lift]
  rfl
theorem wm_fmt : WM (m_fmt me) ρ S QD E = WM me ρ S (KU fmtD ρ QD) E := by
  unfold m_fmt
  simp only [wm_bind, wm_lift]
  rfl
def fldD (cs : List Str) (f : Str) : D → Option D
  | .ins c fs => if c ∈ cs then fs.lookup f else none
  | _ => none
theorem wm_fld {cs : List Str} {f : Str} : WM (m_fld cs f me) ρ S QD E = WM me ρ S (KU (fldD cs f) ρ QD) E := by
  unfold m_fld
  simp only [wm_bind, wm_lift]
  congr 1
  funext d S1
  rw [k_u]
  cases rsv ρ S1 d with
  | none => rfl
  | some e => cases e <;> rfl
def KSm (f : Str → List D → Option D) (ms : M (List D)) (ρ : Rho) (Q : D → Sto → Prop) (E : EQ) (o : D) (S : Sto) : Prop := match o with
  | .str x => WM ms ρ S (KCb (f x) ρ Q) E
  | _ => False
theorem wm_sm {f : Str → List D → Option D} : WM (m_sm f mo ms) ρ S QD E = WM mo ρ S (KSm f ms ρ QD E) E := by
  unfold m_sm
  simp only [wm_bind, wm_lift]
  congr 1
  funext o S1
  cases o <;> rfl
theorem k_sm {f : Str → List D → Option D} {x : Str} : KSm f ms ρ QD E (.str x) S = WM ms ρ S (KCb (f x) ρ QD) E := rfl
def KSm0 (f : Str → Option D) (Q : D → Sto → Prop) (o : D) (S : Sto) : Prop := match o with
  | .str x => Op (f x) S Q
  | _ => False
theorem wm_sm0 {f : Str → Option D} : WM (m_sm0 f mo) ρ S QD E = WM mo ρ S (KSm0 f QD) E := by
  unfold m_sm0
  simp only [wm_bind, wm_lift]
  congr 1
  funext o S1
  cases o <;> rfl
theorem k_sm0 {f : Str → Option D} {x : Str} : KSm0 f QD (.str x) S = Op (f x) S QD := rfl
def KDg (mk : M D) (ρ : Rho) (Q : D → Sto → Prop) (E : EQ) (o : D) (S : Sto) : Prop := WM mk ρ S (fun k S2 => Op ((rsv ρ S2 o).bind fun o' => dgetD o' k) S2 Q) E
def KDg2 (o : D) (ρ : Rho) (Q : D → Sto → Prop) (k : D) (S : Sto) : Prop := Op ((rsv ρ S o).bind fun o' => dgetD o' k) S Q
theorem wm_dget : WM (m_dget mo mk) ρ S QD E = WM mo ρ S (KDg mk ρ QD E) E := by
  unfold m_dget
  simp only [wm_bind, wm_lift]
  rfl
theorem k_dg {o : D} : KDg mk ρ QD E o S = WM mk ρ S (KDg2 o ρ QD) E := rfl
theorem k_dg2 {o kd : D} : KDg2 o ρ QD kd S = Op ((rsv ρ S o).bind fun o' => dgetD o' kd) S QD := rfl
theorem wm_pnil : WM (m_pairs []) ρ S QL E = QL [] S := rfl
def KPc (r : List (Str × M D)) (ρ : Rho) (Q : List D → Sto → Prop) (E : EQ) (d : D) (S : Sto) : Prop := WM (m_pairs r) ρ S (fun ds S2 => Q (d :: ds) S2) E
theorem wm_pcons {kx : Str} {r : List (Str × M D)} : WM (m_pairs ((kx, me) :: r)) ρ S QL E = WM me ρ S (KPc r ρ QL E) E := by
  show WM (me.bind fun d => (m_pairs r).bind fun ds => M.pure (d :: ds)) ρ S QL E = _
  simp only [wm_bind]
  rfl
theorem k_pc {r : List (Str × M D)} : KPc r ρ QL E d S = WM (m_pairs r) ρ S (KCons2 d QL) E := rfl
def dctOf (ps : List (Str × M D)) (ds : List D) : List (Key × D) := mergeD [] ((ps.map fun p => (Sum.inr p.1 : Key)).zip ds)
def KDi (ps : List (Str × M D)) (Q : D → Sto → Prop) (ds : List D) (S : Sto) : Prop := (Fxs ds ∧ ps.length ≤ 15) ∧ Q (.dct (dctOf ps ds)) S
theorem wm_disp {ps : List (Str × M D)} : WM (m_disp ps) ρ S QD E = WM (m_pairs ps) ρ S (KDi ps QD) E := by
  unfold m_disp
  simp only [wm_bind, wm_lift, op_guard, fxs_all]
  rfl
theorem k_di {ps : List (Str × M D)} : KDi ps QD ds S = ((Fxs ds ∧ ps.length ≤ 15) ∧ QD (.dct (dctOf ps ds)) S) := rfl
def KDiO (ps : List (Str × M D)) (Q : D → Sto → Prop) (ds : List D) (S : Sto) : Prop := (Fxs ds ∧ ps.length ≤ 15) ∧ Q (.own S.length) (S ++ [.dct (dctOf ps ds)])
theorem wm_dispO {ps : List (Str × M D)} : WM (m_dispO ps) ρ S QD E = WM (m_pairs ps) ρ S (KDiO ps QD) E := by
  unfold m_dispO
  rw [wm_bind]
  congr 1
  funext ds S1
  show WM _ ρ S1 QD E = KDiO ps QD ds S1
  unfold WM KDiO
  simp only [← fxs_all]
  by_cases h : ds.all fixed = true ∧ ps.length ≤ 15
  · rw [if_pos h]
    exact (propext ⟨fun q => ⟨h, q⟩, fun q => q.2⟩)
  · rw [if_neg h]
    exact (propext ⟨fun q => False.elim q, fun q => absurd q.1 h⟩)
theorem k_diO {ps : List (Str × M D)} : KDiO ps QD ds S = ((Fxs ds ∧ ps.length ≤ 15) ∧ QD (.own S.length) (S ++ [.dct (dctOf ps ds)])) := rfl
def KPub (Q : D → Sto → Prop) (ds : List D) (S : Sto) : Prop := Q (.own S.length) (S ++ [.lst ds])
theorem wm_pub : WM (m_pub ms) ρ S QD E = WM ms ρ S (KPub QD) E := by
  unfold m_pub
  rw [wm_bind]
  rfl
theorem k_pub : KPub QD ds S = QD (.own S.length) (S ++ [.lst ds]) := rfl
def revL : D → Option (List D)
  | .lst ds => some ds.reverse
  | _ => none
def KRv (ρ : Rho) (Q : List D → Sto → Prop) (d : D) (S : Sto) : Prop := Op ((rsv ρ S d).bind revL) S Q
theorem wm_mrev : WM (mf_rev me) ρ S QL E = WM me ρ S (KRv ρ QL) E := by
  unfold mf_rev
  simp only [wm_bind, wm_lift]
  congr 1
  funext d S1
  unfold KRv
  cases rsv ρ S1 d with
  | none => rfl
  | some e => cases e <;> rfl
theorem k_rv : KRv ρ QL d S = Op ((rsv ρ S d).bind revL) S QL := rfl
def KOpop (Q : D → Sto → Prop) (o : D) (S : Sto) : Prop := match o with
  | .own k => match S[k]? with
    | some (.lst ds) => Op (ds[ds.length - 1]?) (S.set k (.lst ds.dropLast)) Q
    | _ => False
  | _ => False
theorem wm_opop : WM (m_opop mo) ρ S QD E = WM mo ρ S (KOpop QD) E := by
  unfold m_opop
  rw [wm_bind]
  congr 1
  funext o S1
  unfold WM KOpop Op
  cases o with
  | own k =>
    dsimp only
    cases S1[k]? with
    | none => rfl
    | some mo =>
      cases mo with
      | lst ds => dsimp only; cases ds[ds.length - 1]? <;> rfl
      | _ => rfl
  | _ => rfl
/-- a call of a def -/
def KCall (n : Nat) (F : FFs) (Q : D → Sto → Prop) (E : EQ) (ds : List D) (S : Sto) : Prop := Fxs ds ∧ ds.length = n ∧ WF F ds S Q E
theorem wm_call : WM (m_call n F ms) ρ S QD E = WM ms ρ S (KCall n F QD E) E := by
  unfold m_call
  rw [wm_bind]
  congr 1
  funext ds S1
  unfold KCall
  rw [← fxs_all]
  by_cases h : ds.all fixed = true ∧ ds.length = n
  · show WM (fun _ S => if ds.all fixed = true ∧ ds.length = n then F ds S else none) ρ S1 QD E = _
    unfold WF WM
    simp only [if_pos h]
    exact propext ⟨fun q => ⟨h.1, h.2, q⟩, fun q => q.2.2⟩
  · show WM (fun _ S => if ds.all fixed = true ∧ ds.length = n then F ds S else none) ρ S1 QD E = _
    unfold WF WM
    simp only [if_neg h]
    exact propext ⟨fun q => q.elim, fun q => h ⟨q.1, q.2.1⟩⟩
theorem k_call : KCall n F QD E ds S = (Fxs ds ∧ ds.length = n ∧ WF F ds S QD E) := rfl
def KCallK (n : Nat) (pm : List Nat) (F : FFs) (Q : D → Sto → Prop) (E : EQ) (ds : List D) (S : Sto) : Prop := Fxs ds ∧ ds.length = n ∧ WF F (pick pm ds) S Q E
theorem wm_callK {pm : List Nat} : WM (m_callK n pm F ms) ρ S QD E = WM ms ρ S (KCallK n pm F QD E) E := by
  unfold m_callK
  rw [wm_bind]
  congr 1
  funext ds S1
  unfold KCallK
  rw [← fxs_all]
  by_cases h : ds.all fixed = true ∧ ds.length = n
  · show WM (fun _ S => if ds.all fixed = true ∧ ds.length = n then F (pick pm ds) S else none) ρ S1 QD E = _
    unfold WF WM
    simp only [if_pos h]
    exact propext ⟨fun q => ⟨h.1, h.2, q⟩, fun q => q.2.2⟩
  · show WM (fun _ S => if ds.all fixed = true ∧ ds.length = n then F (pick pm ds) S else none) ρ S1 QD E = _
    unfold WF WM
    simp only [if_neg h]
    exact propext ⟨fun q => q.elim, fun q => h ⟨q.1, q.2.1⟩⟩
theorem k_callK {pm : List Nat} : KCallK n pm F QD E ds S = (Fxs ds ∧ ds.length = n ∧ WF F (pick pm ds) S QD E) := rfl
theorem pkd_nil {l : List D} : pick [] l = [] := rfl
def pickC (o : Option D) (l : List D) : List D := match o with
  | some a => a :: l
  | none => l
theorem pkd_cons {l : List D} {i : Nat} {r : List Nat} : pick (i :: r) l = pickC (l[i]?) (pick r l) := by
  rw [pick]
  cases l[i]? <;> rfl
theorem pkC {l : List D} : pickC (some d) l = d :: l := rfl
def KFz (Q : D → Sto → Prop) (ds : List D) (S : Sto) : Prop := Q (.lst ds) S
theorem wm_fz : WM (m_fz ms) ρ S QD E = WM ms ρ S (KFz QD) E := by
  unfold m_fz
  simp only [wm_bind]
  rfl
theorem k_fz : KFz QD ds S = QD (.lst ds) S := rfl
def KItems (Q : List D → Sto → Prop) (d : D) (S : Sto) : Prop := Op (items d) S Q
theorem wi_of' : WM (mi_of me) ρ S QL E = WM me ρ S (KItems QL) E := by
  unfold mi_of
  simp only [wm_bind, wm_lift]
  rfl
theorem k_items : KItems QL d S = Op (items d) S QL := rfl
theorem it_tup : items (.tup ds) = some ds := rfl
theorem it_lst : items (.lst ds) = some ds := rfl
def KRg1 (Q : List D → Sto → Prop) (ds : List D) (S : Sto) : Prop := match ds with
  | [.int j] => (-(2 ^ 62) ≤ j ∧ j < 2 ^ 62) ∧ Q (rangeD 0 j.toNat) S
  | _ => False
theorem wi_range1' : WM (mi_range1 ms) ρ S QL E = WM ms ρ S (KRg1 QL) E := by
  unfold mi_range1
  simp only [wm_bind, wm_lift]
  congr 1
  funext ds S1
  unfold KRg1
  match ds with
  | [] => rfl
  | [d] => cases d <;> first | rfl | (dsimp only; rw [op_guard]; rfl)
  | d :: _ :: _ => cases d <;> rfl
theorem k_rg1 {j : Int} : KRg1 QL [.int j] S = ((-(2 ^ 62) ≤ j ∧ j < 2 ^ 62) ∧ QL (rangeD 0 j.toNat) S) := rfl
def KRg2 (Q : List D → Sto → Prop) (ds : List D) (S : Sto) : Prop := match ds with
  | [.int i, .int j] => (-(2 ^ 62) ≤ i ∧ i < 2 ^ 62 ∧ -(2 ^ 62) ≤ j ∧ j < 2 ^ 62) ∧ Q (rangeD i (j - i).toNat) S
  | _ => False
theorem wi_range2' : WM (mi_range2 ms) ρ S QL E = WM ms ρ S (KRg2 QL) E := by
  unfold mi_range2
  simp only [wm_bind, wm_lift]
  congr 1
  funext ds S1
  unfold KRg2
  match ds with
  | [] => rfl
  | [d] => cases d <;> rfl
  | [d, e] => cases d <;> first | rfl | (cases e <;> first | rfl | (dsimp only; rw [op_guard]; rfl))
  | d :: e :: _ :: _ => cases d <;> first | rfl | (cases e <;> rfl)
theorem k_rg2 {i j : Int} : KRg2 QL [.int i, .int j] S = ((-(2 ^ 62) ≤ i ∧ i < 2 ^ 62 ∧ -(2 ^ 62) ≤ j ∧ j < 2 ^ 62) ∧ QL (rangeD i (j - i).toNat) S) := rfl
def enOf : D → Option (List D)
  | .tup xs => some (enumD xs)
  | .lst xs => some (enumD xs)
  | _ => none
def KEnum (Q : List D → Sto → Prop) (ds : List D) (S : Sto) : Prop := match ds with
  | [d] => Op (enOf d) S Q
  | _ => False
theorem wi_enum' : WM (mi_enum ms) ρ S QL E = WM ms ρ S (KEnum QL) E := by
  unfold mi_enum
  simp only [wm_bind, wm_lift]
  congr 1
  funext ds S1
  unfold KEnum
  match ds with
  | [] => rfl
  | [d] => cases d <;> rfl
  | d :: _ :: _ => cases d <;> rfl
theorem k_enum : KEnum QL [d] S = Op (enOf d) S QL := rfl
theorem en_tup : enOf (.tup ds) = some (enumD ds) := rfl
theorem en_lst : enOf (.lst ds) = some (enumD ds) := rfl
/-- a comprehension from some item on -/
def LC (vs : List Nat) (g : D → Rho → Option Rho) (mt : M Bool) (me : M D) (ρ : Rho) (ds acc : List D) (S : Sto) (Q : List D → Sto → Prop) : Prop :=
  match m_lcD vs g mt me ρ ds acc S with
  | some (ys, S1) => Q ys S1
  | none => False
def KLc (vs : List Nat) (g : D → Rho → Option Rho) (mt : M Bool) (me : M D) (ρ : Rho) (Q : List D → Sto → Prop) (ds : List D) (S : Sto) : Prop := LC vs g mt me ρ ds [] S Q
variable {vs : List Nat} {g : D → Rho → Option Rho}
theorem wm_lc : WM (mf_lc mi vs g mt me) ρ S QL E = WM mi ρ S (KLc vs g mt me ρ QL) E := by
  unfold mf_lc
  rw [wm_bind]
  congr 1
  funext ds S1
  unfold KLc LC WM
  dsimp only
  cases m_lcD vs g mt me ρ ds [] S1 with
  | none => rfl
  | some p => rfl
theorem k_lc : KLc vs g mt me ρ QL ds S = LC vs g mt me ρ ds [] S QL := rfl
theorem lc_nil {acc : List D} : LC vs g mt me ρ [] acc S QL = QL acc S := rfl
def KLt (vs : List Nat) (g : D → Rho → Option Rho) (mt : M Bool) (me : M D) (ρ : Rho) (ds acc : List D) (Q : List D → Sto → Prop) (ρ1 : Rho) (k : Bool) (S : Sto) : Prop :=
  if k = true then WM me ρ1 S (fun y S2 => (Fx y ∧ acc.length < sizeLine) ∧ LC vs g mt me ρ ds (acc ++ [y]) S2 Q) NoE else LC vs g mt me ρ ds acc S Q
def KLe (vs : List Nat) (g : D → Rho → Option Rho) (mt : M Bool) (me : M D) (ρ : Rho) (ds acc : List D) (Q : List D → Sto → Prop) (y : D) (S : Sto) : Prop :=
  (Fx y ∧ acc.length < sizeLine) ∧ LC vs g mt me ρ ds (acc ++ [y]) S Q
def KLg (vs : List Nat) (g : D → Rho → Option Rho) (mt : M Bool) (me : M D) (ρ : Rho) (ds acc : List D) (Q : List D → Sto → Prop) (ρ1 : Rho) (S : Sto) : Prop :=
  WM mt ρ1 S (KLt vs g mt me ρ ds acc Q ρ1) NoE
theorem lc_cons {acc : List D} : LC vs g mt me ρ (d :: ds) acc S QL = OpR (g d (wipeR ρ vs)) S (KLg vs g mt me ρ ds acc QL) := by
  unfold LC OpR
  rw [m_lcD]
  cases g d (wipeR ρ vs) with
  | none => rfl
  | some ρ1 =>
    unfold KLg WM
    dsimp only
    cases mt ρ1 S with
    | none => rfl
    | some p =>
      obtain ⟨r, S1⟩ := p
      cases r with
      | er c fs => rfl
      | ok k =>
        cases k with
        | false => rfl
        | true =>
          unfold KLt WM
          dsimp only
          rw [if_pos rfl]
          cases me ρ1 S1 with
          | none => rfl
          | some p2 =>
            obtain ⟨r2, S2⟩ := p2
            cases r2 with
            | er c fs => rfl
            | ok y =>
              dsimp only
              by_cases h : fixed y = true ∧ acc.length < sizeLine
              · rw [if_pos h]
                exact propext ⟨fun q => ⟨h, q⟩, fun q => q.2⟩
              · rw [if_neg h]
                exact propext ⟨fun q => False.elim q, fun q => absurd q.1 h⟩
theorem k_lg {acc : List D} {ρ1 : Rho} : KLg vs g mt me ρ ds acc QL ρ1 S = WM mt ρ1 S (KLt vs g mt me ρ ds acc QL ρ1) NoE := rfl
theorem k_ltt {acc : List D} {ρ1 : Rho} : KLt vs g mt me ρ ds acc QL ρ1 true S = WM me ρ1 S (KLe vs g mt me ρ ds acc QL) NoE := rfl
theorem k_ltf {acc : List D} {ρ1 : Rho} : KLt vs g mt me ρ ds acc QL ρ1 false S = LC vs g mt me ρ ds acc S QL := rfl
theorem k_le {acc : List D} : KLe vs g mt me ρ ds acc QL y S = ((Fx y ∧ acc.length < sizeLine) ∧ LC vs g mt me ρ ds (acc ++ [y]) S QL) := rfl
theorem wipe_nil : wipeR ρ [] = ρ := rfl
theorem wipe_cons {v : Nat} {vs : List Nat} : wipeR ρ (v :: vs) = put (wipeR ρ vs) v .un := by rw [← put_set]; rfl
/-! errors as data, own classes -/
def KExc (c name : Str) (Q : D → Sto → Prop) (d : D) (S : Sto) : Prop := Fx d ∧ Q (.exc c [(name, d)]) S
theorem wm_exc {c name : Str} : WM (m_exc c name me) ρ S QD E = WM me ρ S (KExc c name QD) E := by
  unfold m_exc
  rw [wm_bind]
  congr 1
  funext d S1
  unfold WM KExc Fx
  dsimp only
  by_cases h : fixed d = true
  · rw [if_pos h]; exact propext ⟨fun q => ⟨h, q⟩, fun q => q.2⟩
  · rw [if_neg h]; exact propext ⟨fun q => False.elim q, fun q => absurd q.1 h⟩
theorem k_exc {c name : Str} : KExc c name QD d S = (Fx d ∧ QD (.exc c [(name, d)]) S) := rfl
def KIsX (f : Str → Option Bool) (Q : D → Sto → Prop) (d : D) (S : Sto) : Prop := match d with
  | .exc c _ => Op ((f c).map D.bl) S Q
  | _ => False
theorem wm_isX {f : Str → Option Bool} : WM (m_isX f me) ρ S QD E = WM me ρ S (KIsX f QD) E := by
  unfold m_isX
  simp only [wm_bind, wm_lift]
  congr 1
  funext d S1
  cases d <;> rfl
theorem k_isX {f : Str → Option Bool} {c : Str} {fs : List (Str × D)} : KIsX f QD (.exc c fs) S = Op ((f c).map D.bl) S QD := rfl
def KFldX (cs : List Str) (f : Str) (Q : D → Sto → Prop) (d : D) (S : Sto) : Prop := match d with
  | .exc c fs => Op (if c ∈ cs then fs.lookup f else none) S Q
  | _ => False
theorem wm_fldX {cs : List Str} {f : Str} : WM (m_fldX cs f me) ρ S QD E = WM me ρ S (KFldX cs f QD) E := by
  unfold m_fldX
  simp only [wm_bind, wm_lift]
  congr 1
  funext d S1
  cases d <;> rfl
theorem k_fldX {cs : List Str} {c f : Str} {fs : List (Str × D)} : KFldX cs f QD (.exc c fs) S = Op (if c ∈ cs then fs.lookup f else none) S QD := rfl
theorem wm_xf {fs : List (Str × D)} {f : Str} : WM (m_xf i fs f) ρ S QD E = Op (fs.lookup f) S QD := by
  unfold m_xf
  rw [wm_lift]
def KEqO (c : Str) (cs : List Str) (F : FFs) (ng : Bool → Bool) (mb : M D) (ρ : Rho) (Q : D → Sto → Prop) (E : EQ) (a : D) (S : Sto) : Prop := WM mb ρ S (fun b S => match a with
  | .ins c' _ => (c' = c ∧ Fx b ∧ tyOk cs b = true) ∧ WF F [a, b] S (fun r S' => match r with
    | .bl k => Q (.bl (ng k)) S'
    | _ => False) NoE
  | _ => False) E
def KEqR (ng : Bool → Bool) (Q : D → Sto → Prop) (r : D) (S : Sto) : Prop := match r with
    | .bl k => Q (.bl (ng k)) S
    | _ => False
def KEqO2 (c : Str) (cs : List Str) (F : FFs) (ng : Bool → Bool) (a : D) (Q : D → Sto → Prop) (b : D) (S : Sto) : Prop := match a with
  | .ins c' _ => (c' = c ∧ Fx b ∧ tyOk cs b = true) ∧ WF F [a, b] S (KEqR ng Q) NoE
  | _ => False
theorem wm_eqO {c : Str} {cs : List Str} {ng : Bool → Bool} : WM (m_eqO c cs F ng ma mb) ρ S QD E = WM ma ρ S (KEqO c cs F ng mb ρ QD E) E := by
  unfold m_eqO
  simp only [wm_bind]
  congr 1
  funext a S1
  unfold KEqO
  congr 1
  funext b S2
  unfold WM
  cases a with
  | ins c' fs =>
    dsimp only
    by_cases h : c' = c ∧ fixed b = true ∧ tyOk cs b = true
    · rw [if_pos h]
      refine (propext ⟨fun q => ⟨h, ?_⟩, fun q => ?_⟩)
      · unfold WF WM
        dsimp only
        cases hF : F [.ins c' fs, b] S2 with
        | none => rw [hF] at q; exact False.elim q
        | some p =>
          rw [hF] at q
          obtain ⟨r, S3⟩ := p
          cases r with
          | er c fs => exact False.elim q
          | ok d => cases d <;> first | exact q | exact False.elim q
      · replace q := q.2
        unfold WF WM at q
        dsimp only at q
        cases hF : F [.ins c' fs, b] S2 with
        | none => rw [hF] at q; exact False.elim q
        | some p =>
          rw [hF] at q
          obtain ⟨r, S3⟩ := p
          cases r with
          | er c fs => exact False.elim q
          | ok d => cases d <;> first | exact q | exact False.elim q
    · rw [if_neg h]
      exact propext ⟨fun q => False.elim q, fun q => absurd q.1 h⟩
  | _ => rfl
theorem k_eqO {c : Str} {cs : List Str} {ng : Bool → Bool} : KEqO c cs F ng mb ρ QD E x S = WM mb ρ S (KEqO2 c cs F ng x QD) E := by
  unfold KEqO
  congr 1
theorem k_eqO2 {c c' : Str} {fs : List (Str × D)} {cs : List Str} {ng : Bool → Bool} : KEqO2 c cs F ng (.ins c' fs) QD y S = ((c' = c ∧ Fx y ∧ tyOk cs y = true) ∧ WF F [.ins c' fs, y] S (KEqR ng QD) NoE) := rfl
theorem k_eqR {ng : Bool → Bool} : KEqR ng QD (.bl k) S = QD (.bl (ng k)) S := rfl
def KLenR (Q : D → Sto → Prop) (r : D) (S : Sto) : Prop := match r with
    | .int n => (0 ≤ n ∧ n < 2 ^ 63) ∧ Q (.int n) S
    | _ => False
def KLenO (c : Str) (F : FFs) (Q : D → Sto → Prop) (a : D) (S : Sto) : Prop := match a with
  | .ins c' _ => c' = c ∧ WF F [a] S (KLenR Q) NoE
  | _ => False
theorem wm_lenO {c : Str} : WM (m_lenO c F me) ρ S QD E = WM me ρ S (KLenO c F QD) E := by
  unfold m_lenO
  rw [wm_bind]
  congr 1
  funext a S1
  unfold WM KLenO
  cases a with
  | ins c' fs =>
    dsimp only
    by_cases h : c' = c
    · rw [if_pos h]
      unfold WF WM
      dsimp only
      cases hF : F [.ins c' fs] S1 with
      | none => exact propext ⟨fun q => False.elim q, fun q => False.elim q.2⟩
      | some p =>
        obtain ⟨r, S3⟩ := p
        cases r with
        | er c fs => exact propext ⟨fun q => False.elim q, fun q => False.elim q.2⟩
        | ok d =>
          cases d with
          | int n =>
            dsimp only
            by_cases hn : 0 ≤ n ∧ n < 2 ^ 63
            · rw [if_pos hn]; exact propext ⟨fun q => ⟨h, hn, q⟩, fun q => q.2.2⟩
            · rw [if_neg hn]; exact propext ⟨fun q => False.elim q, fun q => absurd q.2.1 hn⟩
          | _ => exact propext ⟨fun q => False.elim q, fun q => False.elim q.2⟩
    · rw [if_neg h]
      exact propext ⟨fun q => False.elim q, fun q => absurd q.1 h⟩
  | _ => rfl
theorem k_lenO {c c' : Str} {fs : List (Str × D)} : KLenO c F QD (.ins c' fs) S = (c' = c ∧ WF F [.ins c' fs] S (KLenR QD) NoE) := rfl
theorem k_lenR {i : Int} : KLenR QD (.int i) S = ((0 ≤ i ∧ i < 2 ^ 63) ∧ QD (.int i) S) := rfl
def KMe (c mn : Str) (n : Nat) (F : FFs) (ms : M (List D)) (ρ : Rho) (Q : D → Sto → Prop) (E : EQ) (o : D) (S : Sto) : Prop := match o with
  | .ins c' fs => (c' = c ∧ fs.lookup mn = none) ∧ WM ms ρ S (fun ds S => (Fxs ds ∧ ds.length + 1 = n) ∧ WF F (o :: ds) S Q E) E
  | _ => False
def KMe2 (n : Nat) (F : FFs) (o : D) (Q : D → Sto → Prop) (E : EQ) (ds : List D) (S : Sto) : Prop := (Fxs ds ∧ ds.length + 1 = n) ∧ WF F (o :: ds) S Q E
theorem wm_meth {c mn : Str} : WM (m_meth c mn n F mo ms) ρ S QD E = WM mo ρ S (KMe c mn n F ms ρ QD E) E := by
  unfold m_meth
  simp only [wm_bind, wm_lift]
  congr 1
  funext o S1
  unfold KMe
  cases o with
  | ins c' fs =>
    dsimp only
    rw [op_guard, op_some]
    congr 2
    funext ds S2
    unfold WM
    dsimp only
    by_cases h : ds.all fixed = true ∧ ds.length + 1 = n
    · rw [if_pos h, ← fxs_all]
      exact propext ⟨fun q => ⟨h, q⟩, fun q => q.2⟩
    · rw [if_neg h, ← fxs_all]
      exact propext ⟨fun q => False.elim q, fun q => absurd q.1 h⟩
  | _ => rfl
theorem k_me {c c' mn : Str} {fs : List (Str × D)} : KMe c mn n F ms ρ QD E (.ins c' fs) S = ((c' = c ∧ fs.lookup mn = none) ∧ WM ms ρ S (KMe2 n F (.ins c' fs) QD E) E) := rfl
theorem k_me2 : KMe2 n F x QD E ds S = ((Fxs ds ∧ ds.length + 1 = n) ∧ WF F (x :: ds) S QD E) := rfl
def KJs (mss : List (M D)) (acc : Str) (ρ : Rho) (Q : D → Sto → Prop) (E : EQ) (d : D) (S : Sto) : Prop := match d with
  | .str y => (acc ++ y).length ≤ sizeLine ∧ WM (m_js mss (acc ++ y)) ρ S Q E
  | _ => False
theorem wm_js0 {acc : Str} : WM (m_js [] acc) ρ S QD E = QD (.str acc) S := rfl
theorem wm_js {acc : Str} {mss : List (M D)} : WM (m_js (me :: mss) acc) ρ S QD E = WM me ρ S (KJs mss acc ρ QD E) E := by
  rw [m_js]
  simp only [wm_bind, wm_lift]
  congr 1
  funext d S1
  unfold KJs
  cases d with
  | str y =>
    show Op ((some y).bind _) S1 _ = _
    rw [Option.bind_some, op_guard, op_some]
  | _ => rfl
theorem k_js {acc z : Str} {mss : List (M D)} : KJs mss acc ρ QD E (.str z) S = ((acc ++ z).length ≤ sizeLine ∧ WM (m_js mss (acc ++ z)) ρ S QD E) := rfl
end
end Pd

/-! Running the models by rewriting: statements, defs. -/
namespace Pd
open PySem L2
section
variable {α β : Type} {m : M α} {ρ : Rho} {S S1 : Sto} {Q : α → Sto → Prop} {E : EQ} {QD : D → Sto → Prop} {QB : Bool → Sto → Prop} {QL : List D → Sto → Prop} {QS : Fl → Rho → Sto → Prop} {QR : Rho → Sto → Prop} {ma mb mc me mo mk mv : M D} {mt mu : M Bool} {ms mi : M (List D)} {n : Nat} {F : FFs} {d d' x y : D} {ds es : List D} {i j l : Nat} {a b : SM} {k : Bool} {c f : Str} {fs : List (Str × D)}
def KEr (ρ : Rho) (Q : Fl → Rho → Sto → Prop) : EQ := fun c fs S => Q (.er c fs) ρ S
theorem k_er : KEr ρ QS c fs S = QS (.er c fs) ρ S := rfl
theorem ws_toS {g : α → SM} : WS (m.toS g) ρ S QS = WM m ρ S (fun a S1 => WS (g a) ρ S1 QS) (KEr ρ QS) := by
  unfold WS WM M.toS KEr
  cases m ρ S with
  | none => rfl
  | some p => obtain ⟨r, S1⟩ := p; cases r <;> rfl
theorem ws_nx : WS s_nx ρ S QS = QS .nx ρ S := rfl
theorem ws_bk : WS s_bk ρ S QS = QS .bk ρ S := rfl
theorem ws_ct : WS s_ct ρ S QS = QS .ct ρ S := rfl
theorem ws_retN : WS s_retN ρ S QS = QS (.rt .non) ρ S := rfl
theorem ws_raise0 : WS (s_raise0 c) ρ S QS = QS (.er c []) ρ S := rfl
def KSeq (b : SM) (Q : Fl → Rho → Sto → Prop) (f : Fl) (ρ : Rho) (S : Sto) : Prop := match f with
  | .nx => WS b ρ S Q
  | f => Q f ρ S
theorem ws_seq : WS (s_seq a b) ρ S QS = WS a ρ S (KSeq b QS) := by
  unfold WS s_seq KSeq
  cases a ρ S with
  | none => rfl
  | some p => obtain ⟨f, ρ1, S1⟩ := p; cases f <;> rfl
theorem k_seq_nx : KSeq b QS .nx ρ S = WS b ρ S QS := rfl
theorem k_seq_bk : KSeq b QS .bk ρ S = QS .bk ρ S := rfl
theorem k_seq_ct : KSeq b QS .ct ρ S = QS .ct ρ S := rfl
theorem k_seq_rt : KSeq b QS (.rt d) ρ S = QS (.rt d) ρ S := rfl
theorem k_seq_er : KSeq b QS (.er c fs) ρ S = QS (.er c fs) ρ S := rfl
def KEx (ρ : Rho) (Q : Fl → Rho → Sto → Prop) (_ : D) (S : Sto) : Prop := Q .nx ρ S
theorem ws_ex : WS (s_ex me) ρ S QS = WM me ρ S (KEx ρ QS) (KEr ρ QS) := ws_toS
theorem k_ex : KEx ρ QS d S = QS .nx ρ S := rfl
theorem ws_ifg {P : Prop} [Decidable P] {g : Rho → Sto → Option (Fl × Rho × Sto)} : WS (fun ρ S => if P then g ρ S else none) ρ S QS = (P ∧ WS g ρ S QS) := by
  unfold WS
  by_cases h : P
  · simp [h]
  · simp [h]
def KRet (ρ : Rho) (Q : Fl → Rho → Sto → Prop) (d : D) (S : Sto) : Prop := Fx d ∧ Q (.rt d) ρ S
theorem ws_ret : WS (s_ret me) ρ S QS = WM me ρ S (KRet ρ QS) (KEr ρ QS) := by
  unfold s_ret
  rw [ws_toS]
  congr 1
  funext d S1
  exact ws_ifg
theorem k_ret : KRet ρ QS d S = (Fx d ∧ QS (.rt d) ρ S) := rfl
def KsIf (a b : SM) (ρ : Rho) (Q : Fl → Rho → Sto → Prop) (k : Bool) (S : Sto) : Prop := BrS k a b ρ S Q
theorem ws_if : WS (s_if mt a b) ρ S QS = WM mt ρ S (KsIf a b ρ QS) (KEr ρ QS) := ws_toS
theorem ks_if : KsIf a b ρ QS k S = BrS k a b ρ S QS := rfl
def KNx (Q : Fl → Rho → Sto → Prop) (ρ : Rho) (S : Sto) : Prop := Q .nx ρ S
theorem k_nx : KNx QS ρ S = QS .nx ρ S := rfl
def KAsg (g : D → Rho → Option Rho) (ρ : Rho) (Q : Fl → Rho → Sto → Prop) (d : D) (S : Sto) : Prop := Fx d ∧ OpR (g d ρ) S (KNx Q)
theorem ws_asg {g : D → Rho → Option Rho} : WS (s_asg g me) ρ S QS = WM me ρ S (KAsg g ρ QS) (KEr ρ QS) := by
  unfold s_asg
  rw [ws_toS]
  congr 1
  funext d S1
  rw [ws_ifg]
  unfold KAsg
  congr 1
  unfold WS OpR
  dsimp only
  cases g d ρ <;> rfl
theorem k_asg {g : D → Rho → Option Rho} : KAsg g ρ QS d S = (Fx d ∧ OpR (g d ρ) S (KNx QS)) := rfl
theorem g_nm : g_name i d ρ = some (put ρ i (.d d)) := by unfold g_name; rw [put_set]
theorem g_tp {gs : List D → Rho → Option Rho} : g_tup n gs (.tup ds) ρ = if ds.length = n then gs ds ρ else none := rfl
theorem g_nl : g_nil [] ρ = some ρ := rfl
def gC (o : Option Rho) (gs : List D → Rho → Option Rho) (ds : List D) : Option Rho := match o with
  | some ρ1 => gs ds ρ1
  | none => none
theorem g_cn {g : D → Rho → Option Rho} {gs : List D → Rho → Option Rho} : g_cons g gs (d :: ds) ρ = gC (g d ρ) gs ds := by
  unfold g_cons gC
  dsimp only
  all_goals (cases g d ρ <;> rfl)
theorem gC_some {gs : List D → Rho → Option Rho} : gC (some ρ) gs ds = gs ds ρ := rfl
theorem opr_guard {P : Prop} [Decidable P] {o : Option Rho} : OpR (if P then o else none) S QR = (P ∧ OpR o S QR) := by
  by_cases h : P
  · simp [h]
  · simp [h, OpR]
def KPar (i j : Nat) (ρ : Rho) (Q : Fl → Rho → Sto → Prop) (ds : List D) (S : Sto) : Prop := match ds with
  | [a, b] => (Fx a ∧ Fx b) ∧ Q .nx (put (put ρ i (.d a)) j (.d b)) S
  | _ => False
theorem ws_par : WS (s_par i j ms) ρ S QS = WM ms ρ S (KPar i j ρ QS) (KEr ρ QS) := by
  unfold s_par
  rw [ws_toS]
  congr 1
  funext ds S1
  unfold KPar
  match ds with
  | [] => rfl
  | [_] => rfl
  | [a, b] =>
    simp only [← put_set]
    exact ws_ifg
  | _ :: _ :: _ :: _ => rfl
theorem k_par : KPar i j ρ QS [x, y] S = ((Fx x ∧ Fx y) ∧ QS .nx (put (put ρ i (.d x)) j (.d y)) S) := rfl
def KPar3 (i j l : Nat) (ρ : Rho) (Q : Fl → Rho → Sto → Prop) (ds : List D) (S : Sto) : Prop := match ds with
  | [a, b, c] => (Fx a ∧ Fx b ∧ Fx c) ∧ Q .nx (put (put (put ρ i (.d a)) j (.d b)) l (.d c)) S
  | _ => False
theorem ws_par3 : WS (s_par3 i j l ms) ρ S QS = WM ms ρ S (KPar3 i j l ρ QS) (KEr ρ QS) := by
  unfold s_par3
  rw [ws_toS]
  congr 1
  funext ds S1
  unfold KPar3
  match ds with
  | [] => rfl
  | [_] => rfl
  | [_, _] => rfl
  | [a, b, c] =>
    simp only [← put_set]
    exact ws_ifg
  | _ :: _ :: _ :: _ :: _ => rfl
theorem k_par3 {z : D} : KPar3 i j l ρ QS [x, y, z] S = ((Fx x ∧ Fx y ∧ Fx z) ∧ QS .nx (put (put (put ρ i (.d x)) j (.d y)) l (.d z)) S) := rfl
def AugQ (s : Sv) (i : Nat) (f : D → D → Option D) (me : M D) (ρ : Rho) (S : Sto) (Q : Fl → Rho → Sto → Prop) : Prop := match s with
  | .d x => WM me ρ S (fun y S => Op (f x y) S (fun d S => Q .nx (put ρ i (.d d)) S)) (KEr ρ Q)
  | _ => False
def KAug2 (i : Nat) (ρ : Rho) (Q : Fl → Rho → Sto → Prop) (d : D) (S : Sto) : Prop := Q .nx (put ρ i (.d d)) S
def KAug (f : D → D → Option D) (x : D) (i : Nat) (ρ : Rho) (Q : Fl → Rho → Sto → Prop) (y : D) (S : Sto) : Prop := Op (f x y) S (KAug2 i ρ Q)
theorem ws_aug {f : D → D → Option D} : WS (s_aug i f me) ρ S QS = AugQ (nth ρ i) i f me ρ S QS := by
  unfold s_aug
  rw [← nth_get]
  unfold WS
  dsimp only
  cases ρ[i]? with
  | none => rfl
  | some s =>
    cases s with
    | d x =>
      show WS (me.toS fun y ρ S => match f x y with | some d => some (.nx, ρ.set i (.d d), S) | none => none) ρ S QS = _
      rw [ws_toS]
      unfold AugQ
      dsimp only
      congr 1
      funext y S1
      unfold WS Op
      dsimp only
      cases f x y with
      | none => rfl
      | some d => simp only [put_set]
    | _ => rfl
theorem aug_d {f : D → D → Option D} : AugQ (.d x) i f me ρ S QS = WM me ρ S (KAug f x i ρ QS) (KEr ρ QS) := rfl
theorem k_aug {f : D → D → Option D} : KAug f x i ρ QS y S = Op (f x y) S (KAug2 i ρ QS) := rfl
theorem k_aug2 : KAug2 i ρ QS d S = QS .nx (put ρ i (.d d)) S := rfl
def frzN (s : Sv) (i : Nat) (ρ : Rho) : Rho := match s with
  | .m o => put ρ i (.d o.d)
  | _ => ρ
theorem ws_frz : WS (s_frz i a) ρ S QS = WS a (frzN (nth ρ i) i ρ) S QS := by
  show WS a (frz1 i ρ) S QS = _
  congr 1
  unfold frz1
  rw [← nth_get]
  cases ρ[i]? with
  | none => rfl
  | some s => cases s <;> first | rfl | (simp only [frzN, put_set])
theorem frz_l : frzN (.m (.lst ds)) i ρ = put ρ i (.d (.lst ds)) := rfl
theorem frz_d {kvs : List (Key × D)} : frzN (.m (.dct kvs)) i ρ = put ρ i (.d (.dct kvs)) := rfl
theorem frz_o : frzN (.d d) i ρ = ρ := rfl
theorem wm_mlst : WM (mf_lst ms) ρ S QL E = WM ms ρ S (fun ds S => (Fxs ds ∧ Short ds) ∧ QL ds S) E := by
  unfold mf_lst
  simp only [wm_bind, wm_lift, op_guard, fxs_all]
  rfl
def KMl (Q : List D → Sto → Prop) (ds : List D) (S : Sto) : Prop := (Fxs ds ∧ Short ds) ∧ Q ds S
theorem wm_mlst' : WM (mf_lst ms) ρ S QL E = WM ms ρ S (KMl QL) E := wm_mlst
theorem k_ml : KMl QL ds S = ((Fxs ds ∧ Short ds) ∧ QL ds S) := rfl
def KSetL (i : Nat) (ρ : Rho) (Q : Fl → Rho → Sto → Prop) (ds : List D) (S : Sto) : Prop := Q .nx (put ρ i (.m (.lst ds))) S
theorem ws_setL : WS (s_setL i ms) ρ S QS = WM ms ρ S (KSetL i ρ QS) (KEr ρ QS) := by
  unfold s_setL
  rw [ws_toS]
  congr 1
  funext ds S1
  unfold KSetL
  rw [← put_set]
  rfl
theorem k_setL : KSetL i ρ QS ds S = QS .nx (put ρ i (.m (.lst ds))) S := rfl
def KFor (g : D → Rho → Option Rho) (a : SM) (ρ : Rho) (Q : Fl → Rho → Sto → Prop) (ds : List D) (S : Sto) : Prop := WS (s_forD g a ds) ρ S Q
theorem ws_for {g : D → Rho → Option Rho} : WS (s_for mi g a) ρ S QS = WM mi ρ S (KFor g a ρ QS) (KEr ρ QS) := ws_toS
theorem k_for {g : D → Rho → Option Rho} : KFor g a ρ QS ds S = WS (s_forD g a ds) ρ S QS := rfl
theorem ws_for0 {g : D → Rho → Option Rho} : WS (s_forD g a []) ρ S QS = QS .nx ρ S := rfl
def KLoop (a : SM) (Q : Fl → Rho → Sto → Prop) (f : Fl) (ρ : Rho) (S : Sto) : Prop := match f with
  | .nx => WS a ρ S Q
  | .ct => WS a ρ S Q
  | .bk => Q .nx ρ S
  | f => Q f ρ S
def KBody (b : SM) (a : SM) (Q : Fl → Rho → Sto → Prop) (ρ : Rho) (S : Sto) : Prop := WS b ρ S (KLoop a Q)
theorem ws_forC {g : D → Rho → Option Rho} : WS (s_forD g a (d :: ds)) ρ S QS = OpR (g d ρ) S (KBody a (s_forD g a ds) QS) := by
  unfold WS OpR
  rw [s_forD]
  dsimp only
  cases g d ρ with
  | none => rfl
  | some ρ1 =>
    unfold KBody KLoop WS
    dsimp only
    cases a ρ1 S with
    | none => rfl
    | some p => obtain ⟨f, ρ2, S2⟩ := p; cases f <;> rfl
theorem k_body : KBody b a QS ρ S = WS b ρ S (KLoop a QS) := rfl
theorem k_lp_nx : KLoop a QS .nx ρ S = WS a ρ S QS := rfl
theorem k_lp_ct : KLoop a QS .ct ρ S = WS a ρ S QS := rfl
theorem k_lp_bk : KLoop a QS .bk ρ S = QS .nx ρ S := rfl
theorem k_lp_rt : KLoop a QS (.rt d) ρ S = QS (.rt d) ρ S := rfl
theorem k_lp_er : KLoop a QS (.er c fs) ρ S = QS (.er c fs) ρ S := rfl
def KWh (mt : M Bool) (a : SM) (n : Nat) (ρ : Rho) (Q : Fl → Rho → Sto → Prop) (k : Bool) (S : Sto) : Prop := if k = true then WS a ρ S (KLoop (s_whileN mt a n) Q) else Q .nx ρ S
theorem ws_wh : WS (s_whileN mt a (n + 1)) ρ S QS = WM mt ρ S (KWh mt a n ρ QS) (KEr ρ QS) := by
  rw [s_whileN, ws_toS]
  congr 1
  funext k S1
  unfold KWh KLoop WS
  cases k with
  | false => rfl
  | true =>
    simp only [if_true]
    cases a ρ S1 with
    | none => rfl
    | some p => obtain ⟨f, ρ2, S2⟩ := p; cases f <;> rfl
theorem k_wht : KWh mt a n ρ QS true S = WS a ρ S (KLoop (s_whileN mt a n) QS) := rfl
theorem k_whf : KWh mt a n ρ QS false S = QS .nx ρ S := rfl
def KRaise (c f : Str) (ρ : Rho) (Q : Fl → Rho → Sto → Prop) (d : D) (S : Sto) : Prop := Fx d ∧ Q (.er c [(f, d)]) ρ S
theorem ws_raise : WS (s_raise c f me) ρ S QS = WM me ρ S (KRaise c f ρ QS) (KEr ρ QS) := by
  unfold s_raise
  rw [ws_toS]
  congr 1
  funext d S1
  exact ws_ifg
theorem k_raise : KRaise c f ρ QS d S = (Fx d ∧ QS (.er c [(f, d)]) ρ S) := rfl
def KSui (i : Nat) (Q : Fl → Rho → Sto → Prop) (f : Fl) (ρ : Rho) (S : Sto) : Prop := match f with
  | .er _ _ => False
  | f => Q f (put ρ i .un) S
def KTry (i : Nat) (errs : List Str) (sub : Str → Bool) (ms : Str → List (Str × D) → SM) (Q : Fl → Rho → Sto → Prop) (f : Fl) (ρ : Rho) (S : Sto) : Prop := match f with
  | .er c fs => (i < ρ.length ∧ c ∈ errs) ∧ if sub c = true then WS (ms c fs) (put ρ i .un) S (KSui i Q) else Q (.er c fs) ρ S
  | f => Q f ρ S
variable {errs : List Str} {sub : Str → Bool} {su : Str → List (Str × D) → SM}
theorem ws_try : WS (s_try i errs sub a su) ρ S QS = WS a ρ S (KTry i errs sub su QS) := by
  unfold s_try WS KTry
  dsimp only
  cases a ρ S with
  | none => rfl
  | some p =>
    obtain ⟨f, ρ1, S1⟩ := p
    cases f with
    | er c fs =>
      dsimp only
      by_cases h : i < ρ1.length ∧ c ∈ errs
      · rw [if_pos h]
        by_cases h2 : sub c = true
        · rw [if_pos h2, if_pos h2, put_set]
          unfold KSui WS
          cases su c fs (put ρ1 i .un) S1 with
          | none => exact propext ⟨fun q => False.elim q, fun q => False.elim q.2⟩
          | some p2 =>
            obtain ⟨f2, ρ2, S2⟩ := p2
            cases f2 <;> first | exact propext ⟨fun q => False.elim q, fun q => False.elim q.2⟩ | (simp only [put_set]; exact propext ⟨fun q => ⟨h, q⟩, fun q => q.2⟩)
        · rw [if_neg h2, if_neg h2]
          exact propext ⟨fun q => ⟨h, q⟩, fun q => q.2⟩
      · rw [if_neg h]
        exact propext ⟨fun q => False.elim q, fun q => absurd q.1 h⟩
    | _ => rfl
theorem k_try_nx : KTry i errs sub su QS .nx ρ S = QS .nx ρ S := rfl
theorem k_try_bk : KTry i errs sub su QS .bk ρ S = QS .bk ρ S := rfl
theorem k_try_ct : KTry i errs sub su QS .ct ρ S = QS .ct ρ S := rfl
theorem k_try_rt : KTry i errs sub su QS (.rt d) ρ S = QS (.rt d) ρ S := rfl
theorem k_try_er : KTry i errs (fun _ => true) su QS (.er c fs) ρ S = ((i < ρ.length ∧ c ∈ errs) ∧ WS (su c fs) (put ρ i .un) S (KSui i QS)) := rfl
theorem k_sui_nx : KSui i QS .nx ρ S = QS .nx (put ρ i .un) S := rfl
theorem k_sui_bk : KSui i QS .bk ρ S = QS .bk (put ρ i .un) S := rfl
theorem k_sui_ct : KSui i QS .ct ρ S = QS .ct (put ρ i .un) S := rfl
theorem k_sui_rt : KSui i QS (.rt d) ρ S = QS (.rt d) (put ρ i .un) S := rfl
def KOput (mo mk : M D) (ρ : Rho) (Q : Fl → Rho → Sto → Prop) (d : D) (S : Sto) : Prop := WS (mo.toS fun o => mk.toS fun k ρ S => match o, keyOfD k with
  | .own j, some key => match S[j]? with
    | some (.dct kvs) => if fixed d = true ∧ kvs.length < sizeLine then some (.nx, ρ, S.set j (.dct (putD kvs key d))) else none
    | _ => none
  | _, _ => none) ρ S Q
theorem ws_oput : WS (s_oput mo mk mv) ρ S QS = WM mv ρ S (KOput mo mk ρ QS) (KEr ρ QS) := ws_toS
def KApp2 (i : Nat) (ds : List D) (ρ : Rho) (Q : Fl → Rho → Sto → Prop) (d : D) (S : Sto) : Prop := (Fx d ∧ ds.length < sizeLine) ∧ Q .nx (put ρ i (.m (.lst (ds ++ [d])))) S
def AppQ (s : Sv) (i : Nat) (me : M D) (ρ : Rho) (S : Sto) (Q : Fl → Rho → Sto → Prop) : Prop := match s with
  | .m (.lst ds) => WM me ρ S (KApp2 i ds ρ Q) (KEr ρ Q)
  | _ => False
theorem ws_app : WS (s_app i me) ρ S QS = AppQ (nth ρ i) i me ρ S QS := by
  unfold s_app
  rw [ws_toS, wm_lift, ← nth_get]
  unfold slotM
  cases ρ[i]? with
  | none => rfl
  | some s =>
    cases s with
    | m o =>
      cases o with
      | lst ds =>
        show WS (me.toS _) ρ S QS = _
        rw [ws_toS]
        unfold AppQ KApp2
        dsimp only
        congr 1
        funext d S1
        rw [← put_set]
        exact ws_ifg
      | _ => rfl
    | _ => rfl
theorem app_l : AppQ (.m (.lst ds)) i me ρ S QS = WM me ρ S (KApp2 i ds ρ QS) (KEr ρ QS) := rfl
theorem k_app2 : KApp2 i ds ρ QS d S = ((Fx d ∧ ds.length < sizeLine) ∧ QS .nx (put ρ i (.m (.lst (ds ++ [d])))) S) := rfl
def AttQ (s : Sv) (i : Nat) (c f : Str) (d : D) (ρ : Rho) (S : Sto) (Q : Fl → Rho → Sto → Prop) : Prop := match s with
  | .m (.ins c' fs) => (Fx d ∧ fs.length < 1000 ∧ c' = c) ∧ Q .nx (put ρ i (.m (.ins c (putFD f d fs)))) S
  | _ => False
def KAtt (i : Nat) (c f : Str) (ρ : Rho) (Q : Fl → Rho → Sto → Prop) (d : D) (S : Sto) : Prop := AttQ (nth ρ i) i c f d ρ S Q
theorem ws_attr : WS (s_attr i c f me) ρ S QS = WM me ρ S (KAtt i c f ρ QS) (KEr ρ QS) := by
  unfold s_attr
  rw [ws_toS]
  congr 1
  funext d S1
  rw [ws_toS, wm_lift]
  unfold KAtt slotM
  rw [← nth_get]
  cases ρ[i]? with
  | none => rfl
  | some s =>
    cases s with
    | m o =>
      cases o with
      | ins c' fs =>
        unfold AttQ
        dsimp only
        rw [← put_set]
        show WS (fun ρ S => if fixed d = true ∧ fs.length < 1000 ∧ c' = c then some (Fl.nx, List.set ρ i (Sv.m (Mo.ins c (putFD f d fs))), S) else none) ρ S1 QS = _
        exact ws_ifg
      | _ => rfl
    | _ => rfl
theorem k_att : KAtt i c f ρ QS d S = AttQ (nth ρ i) i c f d ρ S QS := rfl
theorem att_i {c' : Str} : AttQ (.m (.ins c' fs)) i c f d ρ S QS = ((Fx d ∧ fs.length < 1000 ∧ c' = c) ∧ QS .nx (put ρ i (.m (.ins c (putFD f d fs)))) S) := rfl
/-! ### defs -/
def uns : Nat → Rho
  | 0 => []
  | n + 1 => .un :: uns n
def slots : Nat → List D → Rho
  | n, [] => uns n
  | 0, d :: ds => .d d :: slots 0 ds
  | n + 1, d :: ds => .d d :: slots n ds
theorem uns_eq : ∀ n, List.replicate n Sv.un = uns n
  | 0 => rfl
  | n + 1 => by rw [List.replicate_succ, uns_eq n]; rfl
theorem slots_eq : ∀ (n : Nat) (ds : List D), ds.map Sv.d ++ List.replicate (n - ds.length) .un = slots n ds
  | n, [] => by simpa [slots] using uns_eq n
  | 0, d :: ds => by
    have := slots_eq 0 ds
    simp at this
    simp [slots, this]
  | n + 1, d :: ds => by
    have := slots_eq n ds
    simp [slots, ← this]
theorem un_0 : uns 0 = [] := rfl
theorem un_s : uns (n + 1) = .un :: uns n := rfl
theorem sl_nil : slots n [] = uns n := by cases n <;> rfl
theorem sl_s : slots (n + 1) (d :: ds) = .d d :: slots n ds := rfl
def KRun (Q : D → Sto → Prop) (E : EQ) (f : Fl) (_ : Rho) (S : Sto) : Prop := match f with
  | .nx => Q .non S
  | .rt d => Q d S
  | .er c fs => E c fs S
  | _ => False
theorem wf_run : WF (runD n a) ds S QD E = WS a (slots n ds) S (KRun QD E) := by
  unfold WF WM WS runD KRun
  dsimp only
  rw [slots_eq]
  cases a (slots n ds) S with
  | none => rfl
  | some p => obtain ⟨f, ρ1, S1⟩ := p; cases f <;> rfl
theorem k_run_nx : KRun QD E .nx ρ S = QD .non S := rfl
theorem k_run_rt : KRun QD E (.rt d) ρ S = QD d S := rfl
theorem k_run_er : KRun QD E (.er c fs) ρ S = E c fs S := rfl
def IniQ (s : Sv) (c : Str) (S : Sto) (Q : D → Sto → Prop) : Prop := match s with
  | .m (.ins c' fs) => c' = c ∧ Q (.ins c fs) S
  | _ => False
theorem ini_m {c' : Str} : IniQ (.m (.ins c' fs)) c S QD = (c' = c ∧ QD (.ins c fs) S) := rfl
def KIni (c : Str) (Q : D → Sto → Prop) (E : EQ) (f : Fl) (ρ : Rho) (S : Sto) : Prop := match f with
  | .nx => IniQ (nth ρ 0) c S Q
  | .rt .non => IniQ (nth ρ 0) c S Q
  | .er c fs => E c fs S
  | _ => False
theorem wf_ini : WF (runI c (n + 1) a) ds S QD E = WS a (.m (.ins c []) :: slots n ds) S (KIni c QD E) := by
  unfold WF WM WS runI KIni
  dsimp only
  rw [show n + 1 - (ds.length + 1) = n - ds.length by omega, slots_eq]
  have key : ∀ (ρ1 : Rho) (S1 : Sto), WM (fun ρ S => endI c ρ S) ρ1 S1 QD E = IniQ (nth ρ1 0) c S1 QD := by
    intro ρ1 S1
    unfold WM endI IniQ
    dsimp only
    rw [← nth_get]
    cases ρ1[0]? with
    | none => rfl
    | some s =>
      cases s with
      | m o =>
        cases o with
        | ins c' fs =>
          dsimp only
          by_cases h : c' = c
          · rw [if_pos h]; exact propext ⟨fun q => ⟨h, q⟩, fun q => q.2⟩
          · rw [if_neg h]; exact propext ⟨fun q => False.elim q, fun q => absurd q.1 h⟩
        | _ => rfl
      | _ => rfl
  cases a (.m (.ins c []) :: slots n ds) S with
  | none => rfl
  | some p =>
    obtain ⟨f, ρ1, S1⟩ := p
    cases f with
    | nx => exact key ρ1 S1
    | rt d => cases d <;> first | exact key ρ1 S1 | rfl
    | _ => rfl
theorem k_ini_nx : KIni c QD E .nx ρ S = IniQ (nth ρ 0) c S QD := rfl
theorem k_ini_rtn : KIni c QD E (.rt .non) ρ S = IniQ (nth ρ 0) c S QD := rfl
theorem k_ini_er {c' : Str} : KIni c QD E (.er c' fs) ρ S = E c' fs S := rfl
end
end Pd

/-! Keywords' values, calls of methods; facts of own classes. -/
namespace Pd
open PySem L2 Evl Hg
open PySem.Spec PyProof.Rows
section
variable {X : Cx} {W : WX} {z : Option Zi} {w0 : W0} {K : PySem.W.Frag} {mg : Str → Option Value}
variable {e a b o value : Expr} {es : List Expr} {pos pos' apos cpos kpos p : Pos} {me ma mb mo mk mv : M D} {ms : M (List D)} {st : Stmt} {m : SM} {kws : List Keyword} {nm : Option Str}
variable {CX : CXT} {k j n : Nat} {f C : Addr} {fd : FuncData} {ps ks cs : List Str} {sp : Sp} {x c mn : Str} {F : List D → Sto → Option (R D × Sto)}
theorem pdk_nil : PDK X W z [] ma_nil := pk_mono pk_nil fun σ H Q h => by
  obtain ⟨w, ρ, S, h⟩ := h
  exact h.pure [] .nil
theorem pdk_cons (ha : PD X W z e ma) (hr : PDK X W z kws ms) : PDK X W z (⟨nm, e, kpos⟩ :: kws) (ma_cons ma ms) :=
  pk_mono (pk_cons ha hr) fun σ H Q h => by
    obtain ⟨w, ρ, S, h⟩ := h
    refine ⟨w, ρ, S, h.bind fun d v w1 H1 S1 st1 rd h1 => ⟨w1, ρ, S1, h1.bind (rel1 := relA X.K X.mg σ ρ) fun ds vs w2 H2 S2 st2 rds h2 => ?_⟩⟩
    exact h2.pure (v :: vs) (.cons (Rr.mono st2.le rd) rds)
theorem pd_meth {pl : Sem Bool} (he : PD X W z o mo) (ho : OwnM X.prog X.w X.K X.mg X.base (L2.CX X.prog X.w) k c mn (spD X.K X.mg n F)) (g : Quiet X.A) (hr : Room j X.A) (hk : k ≤ j) (tk : Takes X W) (ha : PDA X W z (e :: es) ms)
    (hst : starEach (e :: es) X.env = (false, eval e X.env) :: starEach es X.env := by rfl) (hpl : (backTo pos (starEach es X.env)).any (·.1) = false := by rfl)
    (ht : eval (.Call (.Attribute o mn apos) (e :: es) [] pos) X.env = (do
      let ov ← eval o X.env
      standAt apos.atName
      let (f, first) ← holding [ov] (getMethod ov mn pl)
      callWith pos f first (backTo pos (starEach (e :: es) X.env)) (backToKw pos (keywordEach [] X.env))) := by rfl) : PD X W z (.Call (.Attribute o mn apos) (e :: es) [] pos) (m_meth c mn n F mo ms) :=
  pe_mono (pe_meG (E := WE W) he ho g hr hk (fun σ => passAt tk σ) ha hst hpl ht) fun σ H Q h => meth_go h
theorem pd_meth0 {pl : Sem Bool} (he : PD X W z o mo) (ho : OwnM X.prog X.w X.K X.mg X.base (L2.CX X.prog X.w) k c mn (spD X.K X.mg n F)) (g : Quiet X.A) (hr : Room j X.A) (hk : k ≤ j) (tk : Takes X W)
    (ht : eval (.Call (.Attribute o mn apos) [] [] pos) X.env = (do
      let ov ← eval o X.env
      standAt apos.atName
      let (f, first) ← holding [ov] (getMethod ov mn pl)
      callWith pos f first (backTo pos (starEach [] X.env)) (backToKw pos (keywordEach [] X.env))) := by rfl) : PD X W z (.Call (.Attribute o mn apos) [] [] pos) (m_meth c mn n F mo ma_nil) :=
  pe_mono (pe_meG0 (E := WE W) he ho g hr hk (fun σ => passAt tk σ) ht) fun σ H Q h => by
    obtain ⟨w, ρ, S, h⟩ := meth_go h
    obtain ⟨t, s, r, S', e, p⟩ := h
    refine ⟨w, ρ, S, t, s, r, S', e, ?_⟩
    cases r with
    | er c fs => exact p
    | ok a =>
      intro v H' w' st' t' rd
      obtain ⟨a, C, dx, fs, e1, e2, e3, e4, w2, ρ2, S2, h2⟩ := p v H' w' st' t' rd
      exact ⟨a, C, dx, fs, e1, e2, e3, e4, h2.pure [] .nil⟩
end
/-- a method that the top has written -/
structure MF (K : PySem.W.Frag) (C : Addr) (m q : Str) (st : PySem.Stmt) : Prop where
  ex : ∃ (f : Addr) (fd : FuncData), Meth K C m f ∧ Fun K m q st f fd
theorem MF.mk1 {K : PySem.W.Frag} {C : Addr} {m q : Str} {st : PySem.Stmt} {f : Addr} {oc kV dc pm cd ct : Value} {od an : Option Addr} {sl : Array (Option Value)} (a : PySem.W.findIn K (.ref C) m = some (some (.ref f))) (i : PySem.W.isFn K (.ref f) = true)
    (l : K.lookup f = some ⟨oc, od, .func (PySem.W.fnOf m q (defArgs st) (defBody st) (defScope st) .none kV dc pm an cd ct), sl⟩) (c : PySem.W.codeIn K cd q = true) (k : PySem.W.keepIn K (.ref f) = true) : MF K C m q st := ⟨f, _, ⟨a, i, k⟩, fun_mk l c k⟩
theorem kit_self {K : PySem.W.Frag} {C : Addr} : PySem.W.kitOne K (.ref C) (.ref C) = some true := if_pos (by
  first
  | exact beq_self_eq_true _
  | (show (C == C) = true; exact beq_self_eq_true C)
  | simp)
/-- an own class of the text -/
structure CF (K : PySem.W.Frag) (c : Str) (C : Addr) : Prop where
  ns : PySem.W.nsIn K mainGlobals c = some (some (.ref C))
  ins : C8.InsC K C
  mks : PySem.W.makesIn K C = true
  kc : PySem.W.keepIn K (.ref C) = true
  ne : PySem.W.findIn K (.ref C) "__ne__" = some (some (.builtin "object.__ne__"))
  so : PySem.W.subIn K (.ref C) (.type "object") = some true
  tt : PySem.W.typeIn K (.ref C) = some (.type "type")
  nf : ∀ n ∈ tyNs, PySem.W.notFirst K C (.type n) = true
theorem CF.ty {K : PySem.W.Frag} {c : Str} {C : Addr} (h : CF K c C) : ∀ n ∈ tyNs, PySem.W.notFirst K C (.type n) = true ∧ PySem.W.kitOne K (.type n) (.ref C) = some false := fun n hn => ⟨h.nf n hn, by
  have hc : (PySem.W.clsIn K C).isSome = true := by
    have := h.ins.hm
    unfold PySem.W.mroIn at this
    cases q : PySem.W.clsIn K C with
    | none => rw [q] at this; cases this
    | some _ => rfl
  have e : (Value.type n == Value.ref C) = false := rfl
  unfold PySem.W.kitOne PySem.W.kitCls
  rw [e, if_neg Bool.false_ne_true]
  dsimp only
  rw [hc, h.tt, if_pos (by decide)]
  simp only [tyNs, List.mem_cons, List.not_mem_nil, or_false] at hn
  rcases hn with rfl | rfl | rfl | rfl | rfl | rfl | rfl <;> rfl⟩
theorem kc_int {K : PySem.W.Frag} {n : Str} {i : Int} {t : Tok} (e : PySem.W.nsIn K mainGlobals n = some (some (.int i t))) : ∃ t, PySem.W.nsIn K mainGlobals n = some (some (.int i t)) := ⟨t, e⟩
theorem kc_str {K : PySem.W.Frag} {n x : Str} {t : Tok} (e : PySem.W.nsIn K mainGlobals n = some (some (.str x t))) : ∃ t, PySem.W.nsIn K mainGlobals n = some (some (.str x t)) := ⟨t, e⟩
section
variable {P : Program} {wo : World} {K : PySem.W.Frag} {mg : Str → Option Value} {base h : Heap} {k n : Nat} {c m q p0 : Str} {st : PySem.Stmt} {ps ks : List Str} {sp : Sp} {C : Addr} {CX : CXT}
theorem CF.mkG (cf : CF K c C) (d : MF K C "__init__" q st) (X : K.In h) (G : h.Ns mainGlobals mg)
    (bd : ∀ (kV doc pm : Value) (an : Option Addr) (cdv ct : Value) (us : List Value), us.length = (p0 :: ps).length → bindArgs (PySem.W.fnOf "__init__" q (defArgs st) (defBody st) (defScope st) .none kV doc pm an cdv ct) ⟨us, []⟩ = pure ((p0 :: ps).zip us))
    (ok : ∀ (f : Addr) (fd : FuncData), Fun K "__init__" q st f fd → FnG P wo K mg base CX k f fd (p0 :: ps) sp) : MkG P wo K mg base CX k c ps sp := by
  obtain ⟨f, fd, M, F⟩ := d.ex
  exact ⟨C, f, fd, p0, ⟨cf.mks, M.at_, M.fn, cf.kc⟩, ok f fd F, PySem.W.mg_of X G cf.ns, F.binds bd, trivial⟩
theorem CF.mkK {pm : List Nat} (cf : CF K c C) (d : MF K C "__init__" q st) (X : K.In h) (G : h.Ns mainGlobals mg)
    (bd : ∀ (kV doc pmv : Value) (an : Option Addr) (cdv ct y : Value) (ws : List Value), ws.length = ks.length → bindArgs (PySem.W.fnOf "__init__" q (defArgs st) (defBody st) (defScope st) .none kV doc pmv an cdv ct) ⟨[y], ks.zip ws⟩ = pure ((p0 :: ps).zip (y :: pick pm ws)))
    (ok : ∀ (f : Addr) (fd : FuncData), Fun K "__init__" q st f fd → FnG P wo K mg base CX k f fd (p0 :: ps) sp) : MkK P wo K mg base CX k c ps ks pm sp := by
  obtain ⟨f, fd, M, F⟩ := d.ex
  refine ⟨C, f, fd, p0, ⟨cf.mks, M.at_, M.fn, cf.kc⟩, ok f fd F, PySem.W.mg_of X G cf.ns, fun s y ws _ hl => ?_⟩
  obtain ⟨oc, od, kV, doc, pm, an, cdv, ct, osl, rfl, lk, hcd⟩ := F.ex
  exact .of_eq (bd kV doc pm an cdv ct y ws hl)
theorem CF.ownM (cf : CF K c C) (d : MF K C m q st) (X : K.In h) (G : h.Ns mainGlobals mg)
    (bd : ∀ (kV doc pm : Value) (an : Option Addr) (cdv ct : Value) (us : List Value), us.length = ps.length → bindArgs (PySem.W.fnOf m q (defArgs st) (defBody st) (defScope st) .none kV doc pm an cdv ct) ⟨us, []⟩ = pure (ps.zip us))
    (ok : ∀ (f : Addr) (fd : FuncData), Fun K m q st f fd → FnG P wo K mg base CX k f fd ps sp) : OwnM P wo K mg base CX k c m sp := by
  obtain ⟨f, fd, M, F⟩ := d.ex
  exact ⟨C, f, fd, ps, ok f fd F, PySem.W.mg_of X G cf.ns, F.binds bd, M, cf.ins.cl⟩
theorem CF.ownQ (cf : CF K c C) (d : MF K C "__eq__" q st) (X : K.In h) (G : h.Ns mainGlobals mg)
    (bd : ∀ (kV doc pm : Value) (an : Option Addr) (cdv ct : Value) (us : List Value), us.length = ps.length → bindArgs (PySem.W.fnOf "__eq__" q (defArgs st) (defBody st) (defScope st) .none kV doc pm an cdv ct) ⟨us, []⟩ = pure (ps.zip us))
    (ok : ∀ (f : Addr) (fd : FuncData), Fun K "__eq__" q st f fd → FnG P wo K mg base CX k f fd ps sp) : OwnQ P wo K mg base CX k c sp := by
  obtain ⟨f, fd, M, F⟩ := d.ex
  refine ⟨⟨C, f, fd, ps, ok f fd F, PySem.W.mg_of X G cf.ns, F.binds bd, M.at_, M.fn⟩, fun C2 e => ?_⟩
  rw [PySem.W.mg_of X G cf.ns] at e
  cases e
  exact ⟨cf.ne, cf.so⟩
end
end Pd

/-! A new list by +; errors of one class caught. -/
namespace Pd
open PySem L2 Evl Hg
open PySem.Spec PyProof.Rows
section
variable {X : Cx} {W : WX} {z : Option Zi} {w0 : W0} {K : PySem.W.Frag} {mg : Str → Option Value}
variable {e a b o value : Expr} {es : List Expr} {pos pos' apos cpos kpos p : Pos} {me ma mb mo mk mv : M D} {ms : M (List D)} {st : Stmt} {m : SM}
def catL : D → D → Option (List D)
  | .lst xs, .lst ys => if xs.length + ys.length ≤ sizeLine then some (xs ++ ys) else none
  | _, _ => none
def mf_cat (ma mb : M D) : M (List D) := ma.bind fun a => mb.bind fun b => M.lift fun ρ S => match rsv ρ S a, rsv ρ S b with
  | some a', some b' => catL a' b'
  | _, _ => none
theorem pf_cat (ha : PD X W z a ma) (hb : PD X W z b mb) : PF X W z (.BinOp a .Add b pos) (mf_cat ma mb) :=
  pe_mono (pe_op op_catR ha hb) fun σ H Q h => by
    obtain ⟨w, ρ, S, h⟩ := h
    refine ⟨w, ρ, S, h.bind fun a v w1 H1 S1 st1 ra h1 => ⟨w1, ρ, S1, h1.bind fun b u w2 H2 S2 st2 rb h2 => ?_⟩⟩
    obtain ⟨t1, s1, r, S', e, p⟩ := h2
    have ra' : Rr X.K X.mg w2 σ ρ v a := Rr.mono st2.le ra
    unfold M.lift at e
    dsimp only at e
    cases q1 : rsv ρ S2 a with
    | none => simp only [q1] at e; cases e
    | some a' =>
      cases q2 : rsv ρ S2 b with
      | none => simp only [q1, q2] at e; cases e
      | some b' =>
        simp only [q1, q2] at e
        cases a' <;> cases b' <;> first | (exfalso; simp [catL] at e; done) | skip
        rename_i xs ys
        unfold catL at e
        dsimp only at e
        split at e
        · rename_i a0 hq
          split at hq
          · rename_i hl
            cases hq
            cases e
            obtain ⟨aa, vs, rfl, hx, hd⟩ := Rs.of t1 s1 ra' q1
            obtain ⟨bb, us, rfl, hy, hd2⟩ := Rs.of t1 s1 rb q2
            refine ⟨aa, bb, vs, us, rfl, rfl, hx, hy, by rw [hd.length, hd2.length]; exact hl, fun b nb => ?_⟩
            obtain ⟨g, al⟩ := t1.gone nb
            exact p (.ref b) _ w2 ((Stp.refl _ _).upd nb) (t1.upd g al) ⟨b, _, rfl, (st1.trans st2).fresh t1 nb, g, al, upd_same, hd.append hd2⟩
          · cases hq
        · cases e
end
theorem Errs.trT {K : PySem.W.Frag} {mg : Str → Option Value} {ad : Str → Addr} {root : Str} {L : List Str} {A : List (Str × Str)} (T : Errs K mg ad root L A) (errs : List Str) (y : Str)
    (h : (decide (y ∈ L) && errs.all fun c => decide (c ∈ L) && (decide (c = y) || decide (y = root))) = true) : ∀ c ∈ errs, ∀ C, mg c = some (.ref C) → PySem.W.exmOne K (.ref C) (.ref (ad y)) = some ((fun _ => true) c) := by
  intro c hc C hm
  obtain ⟨hy, h⟩ := (Bool.and_eq_true _ _).mp h
  obtain ⟨z, h2⟩ := (Bool.and_eq_true _ _).mp (List.all_eq_true.mp h c hc)
  have z := of_decide_eq_true z
  have hy := of_decide_eq_true hy
  rw [T.c c z] at hm
  cases hm
  rw [(T.ec c z).exm (T.ec y hy) (up_has _ ex_base y), T.up z hy, h2]
end Pd

/-! k56: each def of the text, as a function of data. -/
namespace Lk56
open PySem L2 Evl Hg Pd
open PySem.Spec PyProof.Rows
def top (i : Nat) : PySem.Stmt := PySem.Challenge.pw_housewardens_k56_guests_of_any_value.main.body.getD i (.Pass ⟨0, 0, 0, 0⟩)
def errL : List Str := ["WardError", "BadGuest", "BadText"]
def atL : List (Str × Str) := [("BadGuest", "part"), ("BadText", "line")]
structure T1 (K : PySem.W.Frag) (mg : Str → Option Value) (ad : Str → Addr) : Prop extends Errs K mg ad "WardError" errL atL where
  b_all : mg "all" = none
  b_bool : mg "bool" = none
  b_enumerate : mg "enumerate" = none
  b_int : mg "int" = none
  b_isinstance : mg "isinstance" = none
  b_len : mg "len" = none
  b_list : mg "list" = none
  b_range : mg "range" = none
  b_repr : mg "repr" = none
  b_set : mg "set" = none
  b_sorted : mg "sorted" = none
  b_str : mg "str" = none
  b_tuple : mg "tuple" = none
  k_AWAY : ∃ t, mg "AWAY" = some (.int (-1) t)
  k_GREATEST_FACE : ∃ t, mg "GREATEST_FACE" = some (.int (99) t)
  k_GREATEST_ROOM : ∃ t, mg "GREATEST_ROOM" = some (.int (9) t)
  cl : Clss K mg ["Guest"]
  o_Guest : mg "Guest" = some (.ref (ad "Guest"))
  fl_moves : ∀ c ∈ (["Guest"] : List Str), ∀ C, mg c = some (.ref C) → L2.Cls K C ∧ NoAttr K C "moves"
  fl_rooms : ∀ c ∈ (["Guest"] : List Str), ∀ C, mg c = some (.ref C) → L2.Cls K C ∧ NoAttr K C "rooms"
theorem fd_Guest_rooms {x0 x1 : D} : fldD ["Guest"] "rooms" (.ins "Guest" [("rooms", x0), ("moves", x1)]) = some x0 := by kernel_rfl
theorem fd_Guest_moves {x0 x1 : D} : fldD ["Guest"] "moves" (.ins "Guest" [("rooms", x0), ("moves", x1)]) = some x1 := by kernel_rfl
theorem fd_ty_Guest {fs : List (Str × D)} : tyOk ["Guest"] (.ins "Guest" fs) = true := by kernel_rfl
theorem fd_is_Guest_Guest {fs : List (Str × D)} : isO "Guest" ["Guest"] (.ins "Guest" fs) = some true := by kernel_rfl
theorem is_BadGuest_WardError {c : Str} (hc : c ∈ [("BadGuest" : Str)]) : isErr "WardError" errL "WardError" c = some true := by
  simp only [List.mem_cons, List.not_mem_nil, or_false] at hc
  rcases hc with rfl <;> decide +kernel
section
variable {P : Program} {wo : World} {K : PySem.W.Frag} {mg : Str → Option Value} {base : Heap} {ad : Str → Addr}
abbrev s__law_deck : PySem.Stmt := top 41
abbrev N__law_deck : List Str := ["_law_script", "_law_cells", "_law_mixed", "_law_cell"]
theorem sc__law_deck : FnScope N__law_deck ["_law_script"] (defScope s__law_deck) := ⟨rfl, rfl, rfl, by decide +kernel, rfl, by decide +kernel, by decide +kernel⟩
def B__law_deck : SM := (s_seq (s_par 1 2 (ma_cons (m_cb listD (ma_cons (m_slice (m_var 0) mo_none (mo_some (m_c (.int 63)))) ma_nil)) (ma_cons (m_c (.int 10867056)) ma_nil)))
  (s_seq (s_for (mi_of (m_var 1)) (g_name 3) (s_asg (g_name 2) (m_op modD (m_cb intOf (ma_cons (m_op addD (m_op addD (m_op mulD (m_var 2) (m_c (.int 40692))) (m_op modD (m_cb intOf (ma_cons (m_var 3) ma_nil)) (m_c (.int 2147483629)))) (m_c (.int 56))) ma_nil)) (m_c (.int 2147483587)))))
  (s_ret (m_dispO [("cells", (m_pub (mf_rev (m_var 1)))), ("mixed", (m_var 2)), ("draws", (m_c (.int 0)))]))))
def F__law_deck : List D → Sto → Option (R D × Sto) := runD 4 B__law_deck
theorem ok__law_deck {f : Addr} {fd : FuncData} (F : Fun K "_law_deck" "_law_deck" s__law_deck f fd) (T : T1 K mg ad) : FnG P wo K mg base (L2.CX P wo) 1 f fd ["_law_script"] (spD K mg 1 F__law_deck) :=
  fnD F sc__law_deck fun cdv A out s H E w0 hq hr =>
  (pds_cons (pds_par (i := 1) (j := 2) (ps_par (by rfl) sc__law_deck.nd (i := 1) (j := 2) rfl rfl (by decide) rfl rfl (pda_cons (pd_callTy call_list_of oa_list rfl T.b_list (by decide +kernel) (pda_cons (pd_slice (pd_var (pv 0)) pdo_none (pdo_some pd_int)) pda_nil)) (pda_cons pd_int pda_nil)) (by rfl)) (by intro zi h; first | (cases h; done) | (cases h; simp)))
  (pds_cons (pds_for passesCx rfl (pdi_any (pd_var (pv 1))) (pdg_name (i := 3) (pg_name (i := 3) sc__law_deck.nd rfl (Or.inl rfl)) (by intro zi h; first | (cases h; done) | (cases h; simp))) (pds_onE (pds_set (i := 2) (ps_set (i := 2) sc__law_deck.nd rfl (Or.inl rfl) (pd_mod (pd_callTy call_int1 oa_int rfl T.b_int (by decide +kernel) (pda_cons (pd_add (pd_add (pd_mul (pd_var (pv 2)) pd_int) (pd_mod (pd_callTy call_int1 oa_int rfl T.b_int (by decide +kernel) (pda_cons (pd_var (pv 3)) pda_nil)) pd_int)) pd_int) pda_nil)) pd_int)) (by intro zi h; first | (cases h; done) | (cases h; simp)))))
  (pds_onE (pds_ret (pd_dispO (PDP.cons (pd_pub (pf_rev (pd_var (pv 1)))) (PDP.cons (pd_var (pv 2)) (PDP.cons pd_int PDP.nil))))))))
abbrev s__law_draw : PySem.Stmt := top 42
abbrev N__law_draw : List Str := ["_law_deck_here", "_law_below", "_law_turn_now", "_law_figure", "_law_cell"]
theorem sc__law_draw : FnScope N__law_draw ["_law_deck_here", "_law_below"] (defScope s__law_draw) := ⟨rfl, rfl, rfl, by decide +kernel, rfl, by decide +kernel, by decide +kernel⟩
def B__law_draw : SM := (s_seq (s_oput (m_var 0) (m_c (.str "draws")) (m_op addD (m_dget (m_var 0) (m_c (.str "draws"))) (m_c (.int 1))))
  (s_seq (s_par 2 3 (ma_cons (m_dget (m_var 0) (m_c (.str "draws"))) (ma_cons (m_dget (m_var 0) (m_c (.str "mixed"))) ma_nil)))
  (s_seq (s_if (m_cmpT neG (m_dget (m_var 0) (m_c (.str "cells"))) (m_lst ma_nil)) (s_seq (s_asg (g_name 4) (m_cb intOf (ma_cons (m_opop (m_dget (m_var 0) (m_c (.str "cells")))) ma_nil)))
  (s_seq (s_if (m_cmpT geD (m_var 4) (m_op powD (m_c (.int 10)) (m_c (.int 18)))) (s_seq (s_ex (m_oapp (m_dget (m_var 0) (m_c (.str "cells"))) (m_op fdivD (m_var 4) (m_var 1))))
  (s_ret (m_op modD (m_var 4) (m_var 1)))) s_nx)
  (s_asg (g_name 3) (m_op addD (m_var 3) (m_op modD (m_var 4) (m_c (.int 2147483563))))))) s_nx)
  (s_seq (s_asg (g_name 3) (m_op modD (m_op mulD (m_cb intOf (ma_cons (m_op addD (m_op addD (m_op modD (m_cb intOf (ma_cons (m_var 3) ma_nil)) (m_c (.int 2147483629))) (m_op mulD (m_op mulD (m_c (.int 61056)) (m_var 2)) (m_var 2))) (m_c (.int 56))) ma_nil)) (m_c (.int 48271))) (m_c (.int 2147483647))))
  (s_seq (s_asg (g_name 3) (m_op modD (m_cb intOf (ma_cons (m_op addD (m_op addD (m_op mulD (m_var 3) (m_var 3)) (m_op mulD (m_c (.int 69621)) (m_var 2))) (m_c (.int 29))) ma_nil)) (m_c (.int 2147483579))))
  (s_ret (m_op modD (m_op fdivD (m_op modD (m_cb intOf (ma_cons (m_op mulD (m_var 3) (m_c (.int 39373))) ma_nil)) (m_c (.int 2147483549))) (m_c (.int 64))) (m_var 1))))))))
def F__law_draw : List D → Sto → Option (R D × Sto) := runD 5 B__law_draw
theorem ok__law_draw {f : Addr} {fd : FuncData} (F : Fun K "_law_draw" "_law_draw" s__law_draw f fd) (T : T1 K mg ad) : FnG P wo K mg base (L2.CX P wo) 1 f fd ["_law_deck_here", "_law_below"] (spD K mg 2 F__law_draw) :=
  fnD F sc__law_draw fun cdv A out s H E w0 hq hr =>
  (pds_cons (pds_oput (pd_var (pv 0)) (pd_add (pd_dget (HU hr) (pd_var (pv 0)) pd_str (fun _ _ => rfl)) pd_int) pd_str (fun to tk tv => ps_dput (HU hr) to tk tv rfl))
  (pds_cons (pds_par (i := 2) (j := 3) (ps_par (by rfl) sc__law_draw.nd (i := 2) (j := 3) rfl rfl (by decide) rfl rfl (pda_cons (pd_dget (HU hr) (pd_var (pv 0)) pd_str (fun _ _ => rfl)) (pda_cons (pd_dget (HU hr) (pd_var (pv 0)) pd_str (fun _ _ => rfl)) pda_nil)) (by rfl)) (by intro zi h; first | (cases h; done) | (cases h; simp)))
  (pds_cons (pds_if (pdt_cmp (op_neG hr.units) c2_neG (pd_dget (HU hr) (pd_var (pv 0)) pd_str (fun _ _ => rfl)) (pd_lst pda_nil) (nomark _)) (pds_cons (pds_set (i := 4) (ps_set (i := 4) sc__law_draw.nd rfl (Or.inl rfl) (pd_callTy call_int1 oa_int rfl T.b_int (by decide +kernel) (pda_cons (pd_opop (pd_dget (HU hr) (pd_var (pv 0)) pd_str (fun _ _ => rfl))) pda_nil))) (by intro zi h; first | (cases h; done) | (cases h; simp)))
  (pds_cons (pds_if (pdt_cmp op_ge c2_ge (pd_var (pv 4)) (pd_pow pd_int pd_int) (nomark _)) (pds_cons (pds_expr (pd_oapp (pd_dget (HU hr) (pd_var (pv 0)) pd_str (fun _ _ => rfl)) (pd_fdiv (pd_var (pv 4)) (pd_var (pv 1))) (fun to te => pe_bm PySem.F.plainAttrs_list PySem.F.slot_list_append PySem.F.type_list_append mt_append to (pa_cons te pa_nil))))
  (pds_onE (pds_ret (pd_mod (pd_var (pv 4)) (pd_var (pv 1)))))) pds_nil)
  (pds_onE (pds_set (i := 3) (ps_set (i := 3) sc__law_draw.nd rfl (Or.inl rfl) (pd_add (pd_var (pv 3)) (pd_mod (pd_var (pv 4)) pd_int))) (by intro zi h; first | (cases h; done) | (cases h; simp)))))) pds_nil)
  (pds_cons (pds_set (i := 3) (ps_set (i := 3) sc__law_draw.nd rfl (Or.inl rfl) (pd_mod (pd_mul (pd_callTy call_int1 oa_int rfl T.b_int (by decide +kernel) (pda_cons (pd_add (pd_add (pd_mod (pd_callTy call_int1 oa_int rfl T.b_int (by decide +kernel) (pda_cons (pd_var (pv 3)) pda_nil)) pd_int) (pd_mul (pd_mul pd_int (pd_var (pv 2))) (pd_var (pv 2)))) pd_int) pda_nil)) pd_int) pd_int)) (by intro zi h; first | (cases h; done) | (cases h; simp)))
  (pds_cons (pds_set (i := 3) (ps_set (i := 3) sc__law_draw.nd rfl (Or.inl rfl) (pd_mod (pd_callTy call_int1 oa_int rfl T.b_int (by decide +kernel) (pda_cons (pd_add (pd_add (pd_mul (pd_var (pv 3)) (pd_var (pv 3))) (pd_mul pd_int (pd_var (pv 2)))) pd_int) pda_nil)) pd_int)) (by intro zi h; first | (cases h; done) | (cases h; simp)))
  (pds_onE (pds_ret (pd_mod (pd_fdiv (pd_mod (pd_callTy call_int1 oa_int rfl T.b_int (by decide +kernel) (pda_cons (pd_mul (pd_var (pv 3)) pd_int) pda_nil)) pd_int) pd_int) (pd_var (pv 1))))))))))
abbrev s__law_pick : PySem.Stmt := top 43
abbrev N__law_pick : List Str := ["_law_deck_here", "_law_some"]
theorem sc__law_pick : FnScope N__law_pick ["_law_deck_here", "_law_some"] (defScope s__law_pick) := ⟨rfl, rfl, rfl, by decide +kernel, rfl, by decide +kernel, by decide +kernel⟩
def B__law_pick : SM := (s_ret (m_op ixD (m_var 1) (m_call 2 F__law_draw (ma_cons (m_var 0) (ma_cons (m_cb lenD (ma_cons (m_var 1) ma_nil)) ma_nil)))))
def F__law_pick : List D → Sto → Option (R D × Sto) := runD 2 B__law_pick
theorem ok__law_pick {f : Addr} {fd : FuncData} (F : Fun K "_law_pick" "_law_pick" s__law_pick f fd) (T : T1 K mg ad) (G__law_draw : Cal P wo K mg base (L2.CX P wo) 1 "_law_draw" (spD K mg 2 F__law_draw)) : FnG P wo K mg base (L2.CX P wo) 2 f fd ["_law_deck_here", "_law_some"] (spD K mg 2 F__law_pick) :=
  fnD F sc__law_pick fun cdv A out s H E w0 hq hr =>
  (pds_onE (pds_ret (pd_ixD (pd_var (pv 1)) (pd_call G__law_draw hq hr (by decide) rfl takesCx (pda_cons (pd_var (pv 0)) (pda_cons (pd_callB call_len oa_len rfl T.b_len (by decide +kernel) (pda_cons (pd_var (pv 1)) pda_nil)) pda_nil))) (fun _ _ => rfl))))
abbrev s__law_caller : PySem.Stmt := top 44
abbrev N__law_caller : List Str := ["_law_deck_here", "_law_count", "_law_rows", "_law_rooms_now", "_law_spot", "_law_go", "_law_ends", "_law_said"]
theorem sc__law_caller : FnScope N__law_caller ["_law_deck_here"] (defScope s__law_caller) := ⟨rfl, rfl, rfl, by decide +kernel, rfl, by decide +kernel, by decide +kernel⟩
def B__law_caller : SM := (s_seq (s_par 1 2 (ma_cons (m_op addD (m_c (.int 1)) (m_call 2 F__law_pick (ma_cons (m_var 0) (ma_cons (m_lst (ma_cons (m_c (.int 1)) (ma_cons (m_c (.int 1)) (ma_cons (m_c (.int 2)) (ma_cons (m_c (.int 2)) (ma_cons (m_c (.int 0)) ma_nil)))))) ma_nil)))) (ma_cons (m_pub (mf_lst ma_nil)) ma_nil)))
  (s_seq (s_asg (g_name 3) (m_op addD (m_tup (ma_cons (m_neg (m_c (.int 1))) ma_nil)) (m_cb tupleD (ma_cons (m_fz (mf_lc (mi_range1 (ma_cons (m_op subD (m_var 1) (m_c (.int 1))) ma_nil)) [4] (g_name 4) (M.pure true) (m_call 2 F__law_pick (ma_cons (m_var 0) (ma_cons (m_lst (ma_cons (m_c (.int 3)) (ma_cons (m_c (.int 0)) (ma_cons (m_c (.int 3)) (ma_cons (m_neg (m_c (.int 1))) ma_nil))))) ma_nil))))) ma_nil))))
  (s_seq (s_for (mi_range1 (ma_cons (m_call 2 F__law_draw (ma_cons (m_var 0) (ma_cons (m_c (.int 6)) ma_nil))) ma_nil)) (g_name 5) (s_seq (s_asg (g_name 6) (m_if (m_cmpT eqG (m_var 5) (m_c (.int 0))) (m_tup (ma_cons (m_c (.int 0)) (ma_cons (m_op subD (m_var 1) (m_c (.int 1))) ma_nil))) (m_tup (ma_cons (m_call 2 F__law_draw (ma_cons (m_var 0) (ma_cons (m_var 1) ma_nil))) (ma_cons (m_call 2 F__law_draw (ma_cons (m_var 0) (ma_cons (m_var 1) ma_nil))) ma_nil)))))
  (s_seq (s_asg (g_name 7) (m_call 2 F__law_pick (ma_cons (m_var 0) (ma_cons (m_lst (ma_cons (m_c (.str "")) (ma_cons (m_c (.str "a")) (ma_cons (m_c (.str "b")) (ma_cons (m_c (.str "c")) (ma_cons (m_c (.str "c")) ma_nil)))))) ma_nil))))
  (s_ex (m_oapp (m_var 2) (m_op addD (m_var 6) (m_tup (ma_cons (m_var 7) (ma_cons (m_call 2 F__law_pick (ma_cons (m_var 0) (ma_cons (m_lst (ma_cons (m_tup (ma_cons (m_c (.int 0)) (ma_cons (m_c (.int 1)) (ma_cons (m_c (.int 2)) ma_nil)))) (ma_cons (m_tup (ma_cons (m_c (.int 0)) (ma_cons (m_c (.int 1)) (ma_cons (m_c (.int 2)) ma_nil)))) (ma_cons (m_tup (ma_cons (m_c (.int 0)) (ma_cons (m_c (.int 1)) ma_nil))) (ma_cons (m_tup (ma_cons (m_c (.int 2)) ma_nil)) (ma_cons (m_tup (ma_cons (m_c (.int 1)) ma_nil)) (ma_cons (m_tup ma_nil) ma_nil))))))) ma_nil))) ma_nil)))))))))
  (s_ret (m_disp [("rooms", (m_var 3)), ("moves", (m_cb tupleD (ma_cons (m_var 2) ma_nil)))])))))
def F__law_caller : List D → Sto → Option (R D × Sto) := runD 8 B__law_caller
theorem ok__law_caller {f : Addr} {fd : FuncData} (F : Fun K "_law_caller" "_law_caller" s__law_caller f fd) (T : T1 K mg ad) (G__law_pick : Cal P wo K mg base (L2.CX P wo) 2 "_law_pick" (spD K mg 2 F__law_pick)) (G__law_draw : Cal P wo K mg base (L2.CX P wo) 1 "_law_draw" (spD K mg 2 F__law_draw)) : FnG P wo K mg base (L2.CX P wo) 3 f fd ["_law_deck_here"] (spD K mg 1 F__law_caller) :=
  fnD F sc__law_caller fun cdv A out s H E w0 hq hr =>
  (pds_cons (pds_par (i := 1) (j := 2) (ps_par (by rfl) sc__law_caller.nd (i := 1) (j := 2) rfl rfl (by decide) rfl rfl (pda_cons (pd_add pd_int (pd_call G__law_pick hq hr (by decide) rfl takesCx (pda_cons (pd_var (pv 0)) (pda_cons (pd_lst (pda_cons pd_int (pda_cons pd_int (pda_cons pd_int (pda_cons pd_int (pda_cons pd_int pda_nil)))))) pda_nil)))) (pda_cons (pd_pub (pf_lst pda_nil)) pda_nil)) (by rfl)) (by intro zi h; first | (cases h; done) | (cases h; simp)))
  (pds_cons (pds_set (i := 3) (ps_set (i := 3) sc__law_caller.nd rfl (Or.inl rfl) (pd_add (pd_tup (pda_cons (pd_neg pd_int) pda_nil)) (pd_callTy call_tuple_of oa_tuple rfl T.b_tuple (by decide +kernel) (pda_cons (pd_pf (pf_lc (own := [("_law_spot", 4)]) rfl sc__law_caller.nd (pdi_range1 rfl T.b_range (pda_cons (pd_sub (pd_var (pv 1)) pd_int) pda_nil)) (blkOk_by (own := [("_law_spot", 4)]) (N := N__law_caller) (sc := defScope s__law_caller) (by decide +kernel)) (fun _ _ _ _ _ => (pdg_name (i := 4) (pg_name (i := 4) sc__law_caller.nd rfl (Or.inl rfl)) (by intro zi h; cases h))) (fun _ _ _ _ _ => pdts_nil) (fun _ _ _ _ _ => (pd_call G__law_pick hq hr (by decide) rfl takesNo (pda_cons (pd_var (pv 0)) (pda_cons (pd_lst (pda_cons pd_int (pda_cons pd_int (pda_cons pd_int (pda_cons (pd_neg pd_int) pda_nil))))) pda_nil)))))) pda_nil)))) (by intro zi h; first | (cases h; done) | (cases h; simp)))
  (pds_cons (pds_for passesCx rfl (pdi_range1 rfl T.b_range (pda_cons (pd_call G__law_draw hq hr (by decide) rfl takesCx (pda_cons (pd_var (pv 0)) (pda_cons pd_int pda_nil))) pda_nil)) (pdg_name (i := 5) (pg_name (i := 5) sc__law_caller.nd rfl (Or.inl rfl)) (by intro zi h; first | (cases h; done) | (cases h; simp))) (pds_cons (pds_set (i := 6) (ps_set (i := 6) sc__law_caller.nd rfl (Or.inl rfl) (pd_if (pdt_cmp (op_eqG hr.units) c2_eqG (pd_var (pv 5)) pd_int (nomark _)) (pd_tup (pda_cons pd_int (pda_cons (pd_sub (pd_var (pv 1)) pd_int) pda_nil))) (pd_tup (pda_cons (pd_call G__law_draw hq hr (by decide) rfl takesCx (pda_cons (pd_var (pv 0)) (pda_cons (pd_var (pv 1)) pda_nil))) (pda_cons (pd_call G__law_draw hq hr (by decide) rfl takesCx (pda_cons (pd_var (pv 0)) (pda_cons (pd_var (pv 1)) pda_nil))) pda_nil))))) (by intro zi h; first | (cases h; done) | (cases h; simp)))
  (pds_cons (pds_set (i := 7) (ps_set (i := 7) sc__law_caller.nd rfl (Or.inl rfl) (pd_call G__law_pick hq hr (by decide) rfl takesCx (pda_cons (pd_var (pv 0)) (pda_cons (pd_lst (pda_cons pd_str (pda_cons pd_str (pda_cons pd_str (pda_cons pd_str (pda_cons pd_str pda_nil)))))) pda_nil)))) (by intro zi h; first | (cases h; done) | (cases h; simp)))
  (pds_onE (pds_expr (pd_oapp (pd_var (pv 2)) (pd_add (pd_var (pv 6)) (pd_tup (pda_cons (pd_var (pv 7)) (pda_cons (pd_call G__law_pick hq hr (by decide) rfl takesCx (pda_cons (pd_var (pv 0)) (pda_cons (pd_lst (pda_cons (pd_tup (pda_cons pd_int (pda_cons pd_int (pda_cons pd_int pda_nil)))) (pda_cons (pd_tup (pda_cons pd_int (pda_cons pd_int (pda_cons pd_int pda_nil)))) (pda_cons (pd_tup (pda_cons pd_int (pda_cons pd_int pda_nil))) (pda_cons (pd_tup (pda_cons pd_int pda_nil)) (pda_cons (pd_tup (pda_cons pd_int pda_nil)) (pda_cons (pd_tup pda_nil) pda_nil))))))) pda_nil))) pda_nil)))) (fun to te => pe_bm PySem.F.plainAttrs_list PySem.F.slot_list_append PySem.F.type_list_append mt_append to (pa_cons te pa_nil))))))))
  (pds_onE (pds_ret (pd_disp (PDP.cons (pd_var (pv 3)) (PDP.cons (pd_callTy call_tuple_of oa_tuple rfl T.b_tuple (by decide +kernel) (pda_cons (pd_var (pv 2)) pda_nil)) PDP.nil))))))))
abbrev s__law_is_whole : PySem.Stmt := top 46
abbrev N__law_is_whole : List Str := ["_law_it"]
theorem sc__law_is_whole : FnScope N__law_is_whole ["_law_it"] (defScope s__law_is_whole) := ⟨rfl, rfl, rfl, by decide +kernel, rfl, by decide +kernel, by decide +kernel⟩
def B__law_is_whole : SM := (s_ret (m_and (m_isi "int" (m_var 0)) (m_not (m_isi "bool" (m_var 0)))))
def F__law_is_whole : List D → Sto → Option (R D × Sto) := runD 1 B__law_is_whole
theorem ok__law_is_whole {f : Addr} {fd : FuncData} (F : Fun K "_law_is_whole" "_law_is_whole" s__law_is_whole f fd) (T : T1 K mg ad) : FnG P wo K mg base (L2.CX P wo) 1 f fd ["_law_it"] (spD K mg 1 F__law_is_whole) :=
  fnD F sc__law_is_whole fun cdv A out s H E w0 hq hr =>
  (pds_onE (pds_ret (pd_and (pd_isi rfl T.b_isinstance (pd_var (pv 0)) (pe_bltn (v := .ty "int") rfl T.b_int (by decide +kernel) rfl)) (pd_one (pd_not (pd_isi rfl T.b_isinstance (pd_var (pv 0)) (pe_bltn (v := .ty "bool") rfl T.b_bool (by decide +kernel) rfl)))))))
abbrev s__law_is_told : PySem.Stmt := top 47
abbrev N__law_is_told : List Str := ["_law_it", "_law_sign"]
theorem sc__law_is_told : FnScope N__law_is_told ["_law_it"] (defScope s__law_is_told) := ⟨rfl, rfl, rfl, by decide +kernel, rfl, by decide +kernel, by decide +kernel⟩
def B__law_is_told : SM := (s_seq (s_if (mt_or (mt_not (m_tr (m_isi "str" (m_var 0)))) (m_cmpT neG (m_fz (mf_lc (mi_of (m_var 0)) [1] (g_name 1) (m_cmpT ninF (m_var 1) (m_c (.str "abcdefghijklmnopqrstuvwxyz"))) (m_var 1))) (m_lst ma_nil))) (s_ret (m_c (.bl false))) s_nx)
  (s_ret (m_cmp eqG (m_var 0) (m_sm joinD (m_c (.str "")) (ma_cons (m_sortAny (m_var 0)) ma_nil)))))
def F__law_is_told : List D → Sto → Option (R D × Sto) := runD 2 B__law_is_told
theorem ok__law_is_told {f : Addr} {fd : FuncData} (F : Fun K "_law_is_told" "_law_is_told" s__law_is_told f fd) (T : T1 K mg ad) : FnG P wo K mg base (L2.CX P wo) 1 f fd ["_law_it"] (spD K mg 1 F__law_is_told) :=
  fnD F sc__law_is_told fun cdv A out s H E w0 hq hr =>
  (pds_cons (pds_if (pdt_bool (pdw_or (pdt_not (pdt_val (pd_isi rfl T.b_isinstance (pd_var (pv 0)) (pe_bltn (v := .ty "str") rfl T.b_str (by decide +kernel) rfl)))) (pdw_or1 (pdt_cmp (op_neG hr.units) c2_neG (pd_pf (pf_lc (own := [("_law_sign", 1)]) rfl sc__law_is_told.nd (pdi_any (pd_var (pv 0))) (blkOk_by (own := [("_law_sign", 1)]) (N := N__law_is_told) (sc := defScope s__law_is_told) (by decide +kernel)) (fun _ _ _ _ _ => (pdg_name (i := 1) (pg_name (i := 1) sc__law_is_told.nd rfl (Or.inl rfl)) (by intro zi h; cases h))) (fun _ _ _ _ _ => (pdts_one (pdt_cmp op_ninD2 c2_nin (pd_var (pv 1)) pd_str (by rfl)))) (fun _ _ _ _ _ => (pd_var (pv 1))))) (pd_lst pda_nil) (nomark _))))) (pds_onE (pds_ret pd_bl)) pds_nil)
  (pds_onE (pds_ret (pd_cmp (op_eqG hr.units) c2_eqG (pd_var (pv 0)) (pd_sm PySem.F.slot_str_join PySem.F.type_str_join mt_join om_join pd_str (pda_cons (pd_sortAny rfl rfl T.b_sorted rfl T.b_set (pd_var (pv 0))) pda_nil)) (nomark _)))))
abbrev s__law_is_row : PySem.Stmt := top 48
abbrev N__law_is_row : List Str := ["_law_it", "_law_count", "_law_spot", "_law_k"]
theorem sc__law_is_row : FnScope N__law_is_row ["_law_it", "_law_count"] (defScope s__law_is_row) := ⟨rfl, rfl, rfl, by decide +kernel, rfl, by decide +kernel, by decide +kernel⟩
def B__law_is_row : SM := (s_seq (s_if (mt_or (mt_not (m_tr (m_isi "tuple" (m_var 0)))) (mt_or (m_cmpT neG (m_cb lenD (ma_cons (m_var 0) ma_nil)) (m_c (.int 4))) (mt_or (mt_not (m_tr (m_call 1 F__law_is_told (ma_cons (m_op ixD (m_var 0) (m_c (.int 2))) ma_nil)))) (mt_not (m_tr (m_isi "tuple" (m_op ixD (m_var 0) (m_c (.int 3))))))))) (s_ret (m_c (.bl false))) s_nx)
  (s_seq (s_if (m_cmpT neG (m_fz (mf_lc (mi_of (m_slice (m_var 0) mo_none (mo_some (m_c (.int 2))))) [2] (g_name 2) (mt_or (mt_not (m_tr (m_call 1 F__law_is_whole (ma_cons (m_var 2) ma_nil)))) (mt_not (m_isT (m_chain leD ltD (m_c (.int 0)) (m_var 2) (m_var 1))))) (m_var 2))) (m_lst ma_nil)) (s_ret (m_c (.bl false))) s_nx)
  (s_seq (s_if (m_cmpT neG (m_fz (mf_lc (mi_of (m_op ixD (m_var 0) (m_c (.int 3)))) [3] (g_name 3) (mt_or (mt_not (m_tr (m_call 1 F__law_is_whole (ma_cons (m_var 3) ma_nil)))) (mt_not (m_isT (m_chain leD ltD (m_c (.int 0)) (m_var 3) (m_c (.int 100)))))) (m_var 3))) (m_lst ma_nil)) (s_ret (m_c (.bl false))) s_nx)
  (s_ret (m_cmp eqG (m_cb listD (ma_cons (m_op ixD (m_var 0) (m_c (.int 3))) ma_nil)) (m_sortAny (m_op ixD (m_var 0) (m_c (.int 3)))))))))
def F__law_is_row : List D → Sto → Option (R D × Sto) := runD 4 B__law_is_row
theorem ok__law_is_row {f : Addr} {fd : FuncData} (F : Fun K "_law_is_row" "_law_is_row" s__law_is_row f fd) (T : T1 K mg ad) (G__law_is_told : Cal P wo K mg base (L2.CX P wo) 1 "_law_is_told" (spD K mg 1 F__law_is_told)) (G__law_is_whole : Cal P wo K mg base (L2.CX P wo) 1 "_law_is_whole" (spD K mg 1 F__law_is_whole)) : FnG P wo K mg base (L2.CX P wo) 2 f fd ["_law_it", "_law_count"] (spD K mg 2 F__law_is_row) :=
  fnD F sc__law_is_row fun cdv A out s H E w0 hq hr =>
  (pds_cons (pds_if (pdt_bool (pdw_or (pdt_not (pdt_val (pd_isi rfl T.b_isinstance (pd_var (pv 0)) (pe_bltn (v := .ty "tuple") rfl T.b_tuple (by decide +kernel) rfl)))) (pdw_or (pdt_cmp (op_neG hr.units) c2_neG (pd_callB call_len oa_len rfl T.b_len (by decide +kernel) (pda_cons (pd_var (pv 0)) pda_nil)) pd_int (nomark _)) (pdw_or (pdt_not (pdt_val (pd_call G__law_is_told hq hr (by decide) rfl takesCx (pda_cons (pd_ixD (pd_var (pv 0)) pd_int (fun _ _ => rfl)) pda_nil)))) (pdw_or1 (pdt_not (pdt_val (pd_isi rfl T.b_isinstance (pd_ixD (pd_var (pv 0)) pd_int (fun _ _ => rfl)) (pe_bltn (v := .ty "tuple") rfl T.b_tuple (by decide +kernel) rfl))))))))) (pds_onE (pds_ret pd_bl)) pds_nil)
  (pds_cons (pds_if (pdt_cmp (op_neG hr.units) c2_neG (pd_pf (pf_lc (own := [("_law_spot", 2)]) rfl sc__law_is_row.nd (pdi_any (pd_slice (pd_var (pv 0)) pdo_none (pdo_some pd_int))) (blkOk_by (own := [("_law_spot", 2)]) (N := N__law_is_row) (sc := defScope s__law_is_row) (by decide +kernel)) (fun _ _ _ _ _ => (pdg_name (i := 2) (pg_name (i := 2) sc__law_is_row.nd rfl (Or.inl rfl)) (by intro zi h; cases h))) (fun _ _ _ _ _ => (pdts_one (pdt_bool (pdw_or (pdt_not (pdt_val (pd_call G__law_is_whole hq hr (by decide) rfl takesNo (pda_cons (pd_var (pv 2)) pda_nil)))) (pdw_or1 (pdt_not (pdt_chain op_leD op_ltD c2_le c2_lt pd_int (pd_var (pv 2)) (pd_var (pv 1))))))))) (fun _ _ _ _ _ => (pd_var (pv 2))))) (pd_lst pda_nil) (nomark _)) (pds_onE (pds_ret pd_bl)) pds_nil)
  (pds_cons (pds_if (pdt_cmp (op_neG hr.units) c2_neG (pd_pf (pf_lc (own := [("_law_k", 3)]) rfl sc__law_is_row.nd (pdi_any (pd_ixD (pd_var (pv 0)) pd_int (fun _ _ => rfl))) (blkOk_by (own := [("_law_k", 3)]) (N := N__law_is_row) (sc := defScope s__law_is_row) (by decide +kernel)) (fun _ _ _ _ _ => (pdg_name (i := 3) (pg_name (i := 3) sc__law_is_row.nd rfl (Or.inl rfl)) (by intro zi h; cases h))) (fun _ _ _ _ _ => (pdts_one (pdt_bool (pdw_or (pdt_not (pdt_val (pd_call G__law_is_whole hq hr (by decide) rfl takesNo (pda_cons (pd_var (pv 3)) pda_nil)))) (pdw_or1 (pdt_not (pdt_chain op_leD op_ltD c2_le c2_lt pd_int (pd_var (pv 3)) pd_int))))))) (fun _ _ _ _ _ => (pd_var (pv 3))))) (pd_lst pda_nil) (nomark _)) (pds_onE (pds_ret pd_bl)) pds_nil)
  (pds_onE (pds_ret (pd_cmp (op_eqG hr.units) c2_eqG (pd_callTy call_list_of oa_list rfl T.b_list (by decide +kernel) (pda_cons (pd_ixD (pd_var (pv 0)) pd_int (fun _ _ => rfl)) pda_nil)) (pd_sortAny rfl rfl T.b_sorted rfl T.b_set (pd_ixD (pd_var (pv 0)) pd_int (fun _ _ => rfl))) (nomark _)))))))
abbrev s__law_due : PySem.Stmt := top 49
abbrev N__law_due : List Str := ["_law_rooms_now", "_law_rows", "_law_room", "_law_k", "_law_row"]
theorem sc__law_due : FnScope N__law_due ["_law_rooms_now", "_law_rows"] (defScope s__law_due) := ⟨rfl, rfl, rfl, by decide +kernel, rfl, by decide +kernel, by decide +kernel⟩
def B__law_due : SM := (s_seq (s_if (mt_or (mt_not (m_tr (m_isi "tuple" (m_var 0)))) (m_cmpT eqG (m_var 0) (m_tup ma_nil))) (s_ret (m_lst (ma_cons (m_c (.str "rooms")) ma_nil))) s_nx)
  (s_seq (s_if (mt_or (m_cmpT neG (m_fz (mf_lc (mi_of (m_var 0)) [2] (g_name 2) (mt_or (mt_not (m_tr (m_call 1 F__law_is_whole (ma_cons (m_var 2) ma_nil)))) (mt_not (m_isT (m_chain leD leD (m_neg (m_c (.int 1))) (m_var 2) (m_c (.int 9)))))) (m_var 2))) (m_lst ma_nil)) (m_cmpT neG (m_op ixD (m_var 0) (m_c (.int 0))) (m_neg (m_c (.int 1))))) (s_ret (m_lst (ma_cons (m_c (.str "rooms")) ma_nil))) s_nx)
  (s_seq (s_if (mt_not (m_tr (m_isi "tuple" (m_var 1)))) (s_ret (m_lst (ma_cons (m_c (.str "moves")) ma_nil))) s_nx)
  (s_ret (m_slice (m_fz (mf_lc (mi_enum (ma_cons (m_var 1) ma_nil)) [3, 4] (g_tup 2 (g_cons (g_name 3) (g_cons (g_name 4) g_nil))) (mt_not (m_tr (m_call 2 F__law_is_row (ma_cons (m_var 4) (ma_cons (m_cb lenD (ma_cons (m_var 0) ma_nil)) ma_nil))))) (m_var 3))) mo_none (mo_some (m_c (.int 1))))))))
def F__law_due : List D → Sto → Option (R D × Sto) := runD 5 B__law_due
theorem ok__law_due {f : Addr} {fd : FuncData} (F : Fun K "_law_due" "_law_due" s__law_due f fd) (T : T1 K mg ad) (G__law_is_whole : Cal P wo K mg base (L2.CX P wo) 1 "_law_is_whole" (spD K mg 1 F__law_is_whole)) (G__law_is_row : Cal P wo K mg base (L2.CX P wo) 2 "_law_is_row" (spD K mg 2 F__law_is_row)) : FnG P wo K mg base (L2.CX P wo) 3 f fd ["_law_rooms_now", "_law_rows"] (spD K mg 2 F__law_due) :=
  fnD F sc__law_due fun cdv A out s H E w0 hq hr =>
  (pds_cons (pds_if (pdt_bool (pdw_or (pdt_not (pdt_val (pd_isi rfl T.b_isinstance (pd_var (pv 0)) (pe_bltn (v := .ty "tuple") rfl T.b_tuple (by decide +kernel) rfl)))) (pdw_or1 (pdt_cmp (op_eqG hr.units) c2_eqG (pd_var (pv 0)) (pd_tup pda_nil) (nomark _))))) (pds_onE (pds_ret (pd_lst (pda_cons pd_str pda_nil)))) pds_nil)
  (pds_cons (pds_if (pdt_bool (pdw_or (pdt_cmp (op_neG hr.units) c2_neG (pd_pf (pf_lc (own := [("_law_room", 2)]) rfl sc__law_due.nd (pdi_any (pd_var (pv 0))) (blkOk_by (own := [("_law_room", 2)]) (N := N__law_due) (sc := defScope s__law_due) (by decide +kernel)) (fun _ _ _ _ _ => (pdg_name (i := 2) (pg_name (i := 2) sc__law_due.nd rfl (Or.inl rfl)) (by intro zi h; cases h))) (fun _ _ _ _ _ => (pdts_one (pdt_bool (pdw_or (pdt_not (pdt_val (pd_call G__law_is_whole hq hr (by decide) rfl takesNo (pda_cons (pd_var (pv 2)) pda_nil)))) (pdw_or1 (pdt_not (pdt_chain op_leD op_leD c2_le c2_le (pd_neg pd_int) (pd_var (pv 2)) pd_int))))))) (fun _ _ _ _ _ => (pd_var (pv 2))))) (pd_lst pda_nil) (nomark _)) (pdw_or1 (pdt_cmp (op_neG hr.units) c2_neG (pd_ixD (pd_var (pv 0)) pd_int (fun _ _ => rfl)) (pd_neg pd_int) (nomark _))))) (pds_onE (pds_ret (pd_lst (pda_cons pd_str pda_nil)))) pds_nil)
  (pds_cons (pds_if (pdt_not (pdt_val (pd_isi rfl T.b_isinstance (pd_var (pv 1)) (pe_bltn (v := .ty "tuple") rfl T.b_tuple (by decide +kernel) rfl)))) (pds_onE (pds_ret (pd_lst (pda_cons pd_str pda_nil)))) pds_nil)
  (pds_onE (pds_ret (pd_slice (pd_pf (pf_lc (own := [("_law_k", 3), ("_law_row", 4)]) rfl sc__law_due.nd (pdi_enum rfl T.b_enumerate (pda_cons (pd_var (pv 1)) pda_nil)) (blkOk_by (own := [("_law_k", 3), ("_law_row", 4)]) (N := N__law_due) (sc := defScope s__law_due) (by decide +kernel)) (fun _ _ _ _ _ => (pdg_tupK K rfl (pdg_cons (pdg_name (i := 3) (pg_name (i := 3) sc__law_due.nd rfl (Or.inl rfl)) (by intro zi h; cases h)) (pdg_cons (pdg_name (i := 4) (pg_name (i := 4) sc__law_due.nd rfl (Or.inl rfl)) (by intro zi h; cases h)) pdg_nil)))) (fun _ _ _ _ _ => (pdts_one (pdt_not (pdt_val (pd_call G__law_is_row hq hr (by decide) rfl takesNo (pda_cons (pd_var (pv 4)) (pda_cons (pd_callB call_len oa_len rfl T.b_len (by decide +kernel) (pda_cons (pd_var (pv 0)) pda_nil)) pda_nil))))))) (fun _ _ _ _ _ => (pd_var (pv 3))))) pdo_none (pdo_some pd_int)))))))
abbrev s_is_integer : PySem.Stmt := top 8
abbrev N_is_integer : List Str := ["thing"]
theorem sc_is_integer : FnScope N_is_integer ["thing"] (defScope s_is_integer) := ⟨rfl, rfl, rfl, by decide +kernel, rfl, by decide +kernel, by decide +kernel⟩
def B_is_integer : SM := (s_ret (m_and (m_isi "int" (m_var 0)) (m_not (m_isi "bool" (m_var 0)))))
def F_is_integer : List D → Sto → Option (R D × Sto) := runD 1 B_is_integer
theorem ok_is_integer {f : Addr} {fd : FuncData} (F : Fun K "is_integer" "is_integer" s_is_integer f fd) (T : T1 K mg ad) : FnG P wo K mg base (L2.CX P wo) 1 f fd ["thing"] (spD K mg 1 F_is_integer) :=
  fnD F sc_is_integer fun cdv A out s H E w0 hq hr =>
  (pds_onE (pds_ret (pd_and (pd_isi rfl T.b_isinstance (pd_var (pv 0)) (pe_bltn (v := .ty "int") rfl T.b_int (by decide +kernel) rfl)) (pd_one (pd_not (pd_isi rfl T.b_isinstance (pd_var (pv 0)) (pe_bltn (v := .ty "bool") rfl T.b_bool (by decide +kernel) rfl)))))))
abbrev s_is_between : PySem.Stmt := top 9
abbrev N_is_between : List Str := ["thing", "low", "high"]
theorem sc_is_between : FnScope N_is_between ["thing", "low", "high"] (defScope s_is_between) := ⟨rfl, rfl, rfl, by decide +kernel, rfl, by decide +kernel, by decide +kernel⟩
def B_is_between : SM := (s_ret (m_and (m_call 1 F_is_integer (ma_cons (m_var 0) ma_nil)) (m_chain leD leD (m_var 1) (m_var 0) (m_var 2))))
def F_is_between : List D → Sto → Option (R D × Sto) := runD 3 B_is_between
theorem ok_is_between {f : Addr} {fd : FuncData} (F : Fun K "is_between" "is_between" s_is_between f fd) (T : T1 K mg ad) (G_is_integer : Cal P wo K mg base (L2.CX P wo) 1 "is_integer" (spD K mg 1 F_is_integer)) : FnG P wo K mg base (L2.CX P wo) 2 f fd ["thing", "low", "high"] (spD K mg 3 F_is_between) :=
  fnD F sc_is_between fun cdv A out s H E w0 hq hr =>
  (pds_onE (pds_ret (pd_and (pd_call G_is_integer hq hr (by decide) rfl takesCx (pda_cons (pd_var (pv 0)) pda_nil)) (pd_one (pd_chain op_leD op_leD c2_le c2_le (pd_var (pv 1)) (pd_var (pv 0)) (pd_var (pv 2)))))))
abbrev s_are_between : PySem.Stmt := top 10
abbrev N_are_between : List Str := ["thing", "low", "high", "part"]
theorem sc_are_between : FnScope N_are_between ["thing", "low", "high"] (defScope s_are_between) := ⟨rfl, rfl, rfl, by decide +kernel, rfl, by decide +kernel, by decide +kernel⟩
def B_are_between : SM := (s_ret (m_and (m_isi "tuple" (m_var 0)) (m_cb allD (ma_cons (m_fz (mf_lc (mi_of (m_var 0)) [3] (g_name 3) (M.pure true) (m_call 3 F_is_between (ma_cons (m_var 3) (ma_cons (m_var 1) (ma_cons (m_var 2) ma_nil)))))) ma_nil))))
def F_are_between : List D → Sto → Option (R D × Sto) := runD 4 B_are_between
theorem ok_are_between {f : Addr} {fd : FuncData} (F : Fun K "are_between" "are_between" s_are_between f fd) (T : T1 K mg ad) (G_is_between : Cal P wo K mg base (L2.CX P wo) 2 "is_between" (spD K mg 3 F_is_between)) : FnG P wo K mg base (L2.CX P wo) 3 f fd ["thing", "low", "high"] (spD K mg 3 F_are_between) :=
  fnD F sc_are_between fun cdv A out s H E w0 hq hr =>
  (pds_onE (pds_ret (pd_and (pd_isi rfl T.b_isinstance (pd_var (pv 0)) (pe_bltn (v := .ty "tuple") rfl T.b_tuple (by decide +kernel) rfl)) (pd_one (pd_callB (cr_all rfl) oa_all rfl T.b_all (by decide +kernel) (pda_cons (pd_pf (pf_lc (own := [("part", 3)]) rfl sc_are_between.nd (pdi_any (pd_var (pv 0))) (blkOk_by (own := [("part", 3)]) (N := N_are_between) (sc := defScope s_are_between) (by decide +kernel)) (fun _ _ _ _ _ => (pdg_name (i := 3) (pg_name (i := 3) sc_are_between.nd rfl (Or.inl rfl)) (by intro zi h; cases h))) (fun _ _ _ _ _ => pdts_nil) (fun _ _ _ _ _ => (pd_call G_is_between hq hr (by decide) rfl takesNo (pda_cons (pd_var (pv 3)) (pda_cons (pd_var (pv 1)) (pda_cons (pd_var (pv 2)) pda_nil))))))) pda_nil))))))
abbrev s_are_rooms : PySem.Stmt := top 32
abbrev N_are_rooms : List Str := ["thing"]
theorem sc_are_rooms : FnScope N_are_rooms ["thing"] (defScope s_are_rooms) := ⟨rfl, rfl, rfl, by decide +kernel, rfl, by decide +kernel, by decide +kernel⟩
def B_are_rooms : SM := (s_ret (m_and (m_call 3 F_are_between (ma_cons (m_var 0) (ma_cons (m_c (.int (-1))) (ma_cons (m_c (.int (9))) ma_nil)))) (m_cmp gtD (m_cb lenD (ma_cons (m_var 0) ma_nil)) (m_c (.int 0)))))
def F_are_rooms : List D → Sto → Option (R D × Sto) := runD 1 B_are_rooms
theorem ok_are_rooms {f : Addr} {fd : FuncData} (F : Fun K "are_rooms" "are_rooms" s_are_rooms f fd) (T : T1 K mg ad) (G_are_between : Cal P wo K mg base (L2.CX P wo) 3 "are_between" (spD K mg 3 F_are_between)) : FnG P wo K mg base (L2.CX P wo) 4 f fd ["thing"] (spD K mg 1 F_are_rooms) :=
  fnD F sc_are_rooms fun cdv A out s H E w0 hq hr =>
  (pds_onE (pds_ret (pd_and (pd_call G_are_between hq hr (by decide) rfl takesCx (pda_cons (pd_var (pv 0)) (pda_cons (pd_gint rfl T.k_AWAY.choose_spec) (pda_cons (pd_gint rfl T.k_GREATEST_ROOM.choose_spec) pda_nil)))) (pd_one (pd_cmp op_gt c2_gt (pd_callB call_len oa_len rfl T.b_len (by decide +kernel) (pda_cons (pd_var (pv 0)) pda_nil)) pd_int (nomark _))))))
abbrev s_are_guest_rooms : PySem.Stmt := top 34
abbrev N_are_guest_rooms : List Str := ["thing"]
theorem sc_are_guest_rooms : FnScope N_are_guest_rooms ["thing"] (defScope s_are_guest_rooms) := ⟨rfl, rfl, rfl, by decide +kernel, rfl, by decide +kernel, by decide +kernel⟩
def B_are_guest_rooms : SM := (s_ret (m_and (m_call 1 F_are_rooms (ma_cons (m_var 0) ma_nil)) (m_cmp eqG (m_op ixD (m_var 0) (m_c (.int 0))) (m_c (.int (-1))))))
def F_are_guest_rooms : List D → Sto → Option (R D × Sto) := runD 1 B_are_guest_rooms
theorem ok_are_guest_rooms {f : Addr} {fd : FuncData} (F : Fun K "are_guest_rooms" "are_guest_rooms" s_are_guest_rooms f fd) (T : T1 K mg ad) (G_are_rooms : Cal P wo K mg base (L2.CX P wo) 4 "are_rooms" (spD K mg 1 F_are_rooms)) : FnG P wo K mg base (L2.CX P wo) 5 f fd ["thing"] (spD K mg 1 F_are_guest_rooms) :=
  fnD F sc_are_guest_rooms fun cdv A out s H E w0 hq hr =>
  (pds_onE (pds_ret (pd_and (pd_call G_are_rooms hq hr (by decide) rfl takesCx (pda_cons (pd_var (pv 0)) pda_nil)) (pd_one (pd_cmp (op_eqG hr.units) c2_eqG (pd_ixD (pd_var (pv 0)) pd_int (fun _ _ => rfl)) (pd_gint rfl T.k_AWAY.choose_spec) (nomark _))))))
abbrev s_is_tuple_of : PySem.Stmt := top 14
abbrev N_is_tuple_of : List Str := ["thing", "many"]
theorem sc_is_tuple_of : FnScope N_is_tuple_of ["thing", "many"] (defScope s_is_tuple_of) := ⟨rfl, rfl, rfl, by decide +kernel, rfl, by decide +kernel, by decide +kernel⟩
def B_is_tuple_of : SM := (s_ret (m_and (m_isi "tuple" (m_var 0)) (m_cmp eqG (m_cb lenD (ma_cons (m_var 0) ma_nil)) (m_var 1))))
def F_is_tuple_of : List D → Sto → Option (R D × Sto) := runD 2 B_is_tuple_of
theorem ok_is_tuple_of {f : Addr} {fd : FuncData} (F : Fun K "is_tuple_of" "is_tuple_of" s_is_tuple_of f fd) (T : T1 K mg ad) : FnG P wo K mg base (L2.CX P wo) 1 f fd ["thing", "many"] (spD K mg 2 F_is_tuple_of) :=
  fnD F sc_is_tuple_of fun cdv A out s H E w0 hq hr =>
  (pds_onE (pds_ret (pd_and (pd_isi rfl T.b_isinstance (pd_var (pv 0)) (pe_bltn (v := .ty "tuple") rfl T.b_tuple (by decide +kernel) rfl)) (pd_one (pd_cmp (op_eqG hr.units) c2_eqG (pd_callB call_len oa_len rfl T.b_len (by decide +kernel) (pda_cons (pd_var (pv 0)) pda_nil)) (pd_var (pv 1)) (nomark _))))))
abbrev s_do_ascend : PySem.Stmt := top 11
abbrev N_do_ascend : List Str := ["row", "at"]
theorem sc_do_ascend : FnScope N_do_ascend ["row"] (defScope s_do_ascend) := ⟨rfl, rfl, rfl, by decide +kernel, rfl, by decide +kernel, by decide +kernel⟩
def B_do_ascend : SM := (s_ret (m_cb allD (ma_cons (m_fz (mf_lc (mi_range1 (ma_cons (m_op subD (m_cb lenD (ma_cons (m_var 0) ma_nil)) (m_c (.int 1))) ma_nil)) [1] (g_name 1) (M.pure true) (m_cmp ltD (m_op ixD (m_var 0) (m_var 1)) (m_op ixD (m_var 0) (m_op addD (m_var 1) (m_c (.int 1))))))) ma_nil)))
def F_do_ascend : List D → Sto → Option (R D × Sto) := runD 2 B_do_ascend
theorem ok_do_ascend {f : Addr} {fd : FuncData} (F : Fun K "do_ascend" "do_ascend" s_do_ascend f fd) (T : T1 K mg ad) : FnG P wo K mg base (L2.CX P wo) 1 f fd ["row"] (spD K mg 1 F_do_ascend) :=
  fnD F sc_do_ascend fun cdv A out s H E w0 hq hr =>
  (pds_onE (pds_ret (pd_callB (cr_all rfl) oa_all rfl T.b_all (by decide +kernel) (pda_cons (pd_pf (pf_lc (own := [("at", 1)]) rfl sc_do_ascend.nd (pdi_range1 rfl T.b_range (pda_cons (pd_sub (pd_callB call_len oa_len rfl T.b_len (by decide +kernel) (pda_cons (pd_var (pv 0)) pda_nil)) pd_int) pda_nil)) (blkOk_by (own := [("at", 1)]) (N := N_do_ascend) (sc := defScope s_do_ascend) (by decide +kernel)) (fun _ _ _ _ _ => (pdg_name (i := 1) (pg_name (i := 1) sc_do_ascend.nd rfl (Or.inl rfl)) (by intro zi h; cases h))) (fun _ _ _ _ _ => pdts_nil) (fun _ _ _ _ _ => (pd_cmp op_ltD c2_lt (pd_ixD (pd_var (pv 0)) (pd_var (pv 1)) (fun _ _ => rfl)) (pd_ixD (pd_var (pv 0)) (pd_add (pd_var (pv 1)) pd_int) (fun _ _ => rfl)) (nomark _))))) pda_nil))))
abbrev s_are_letters : PySem.Stmt := top 13
abbrev N_are_letters : List Str := ["thing", "letter"]
theorem sc_are_letters : FnScope N_are_letters ["thing"] (defScope s_are_letters) := ⟨rfl, rfl, rfl, by decide +kernel, rfl, by decide +kernel, by decide +kernel⟩
def B_are_letters : SM := (s_ret (m_and (m_isi "str" (m_var 0)) (m_and (m_cb allD (ma_cons (m_fz (mf_lc (mi_of (m_var 0)) [1] (g_name 1) (M.pure true) (m_chain leD leD (m_c (.str "a")) (m_var 1) (m_c (.str "z"))))) ma_nil)) (m_call 1 F_do_ascend (ma_cons (m_var 0) ma_nil)))))
def F_are_letters : List D → Sto → Option (R D × Sto) := runD 2 B_are_letters
theorem ok_are_letters {f : Addr} {fd : FuncData} (F : Fun K "are_letters" "are_letters" s_are_letters f fd) (T : T1 K mg ad) (G_do_ascend : Cal P wo K mg base (L2.CX P wo) 1 "do_ascend" (spD K mg 1 F_do_ascend)) : FnG P wo K mg base (L2.CX P wo) 2 f fd ["thing"] (spD K mg 1 F_are_letters) :=
  fnD F sc_are_letters fun cdv A out s H E w0 hq hr =>
  (pds_onE (pds_ret (pd_and (pd_isi rfl T.b_isinstance (pd_var (pv 0)) (pe_bltn (v := .ty "str") rfl T.b_str (by decide +kernel) rfl)) (pd_and (pd_callB (cr_all rfl) oa_all rfl T.b_all (by decide +kernel) (pda_cons (pd_pf (pf_lc (own := [("letter", 1)]) rfl sc_are_letters.nd (pdi_any (pd_var (pv 0))) (blkOk_by (own := [("letter", 1)]) (N := N_are_letters) (sc := defScope s_are_letters) (by decide +kernel)) (fun _ _ _ _ _ => (pdg_name (i := 1) (pg_name (i := 1) sc_are_letters.nd rfl (Or.inl rfl)) (by intro zi h; cases h))) (fun _ _ _ _ _ => pdts_nil) (fun _ _ _ _ _ => (pd_chain op_leD op_leD c2_le c2_le pd_str (pd_var (pv 1)) pd_str)))) pda_nil)) (pd_one (pd_call G_do_ascend hq hr (by decide) rfl takesCx (pda_cons (pd_var (pv 0)) pda_nil)))))))
abbrev s_is_heard : PySem.Stmt := top 31
abbrev N_is_heard : List Str := ["thing"]
theorem sc_is_heard : FnScope N_is_heard ["thing"] (defScope s_is_heard) := ⟨rfl, rfl, rfl, by decide +kernel, rfl, by decide +kernel, by decide +kernel⟩
def B_is_heard : SM := (s_ret (m_call 1 F_are_letters (ma_cons (m_var 0) ma_nil)))
def F_is_heard : List D → Sto → Option (R D × Sto) := runD 1 B_is_heard
theorem ok_is_heard {f : Addr} {fd : FuncData} (F : Fun K "is_heard" "is_heard" s_is_heard f fd) (T : T1 K mg ad) (G_are_letters : Cal P wo K mg base (L2.CX P wo) 2 "are_letters" (spD K mg 1 F_are_letters)) : FnG P wo K mg base (L2.CX P wo) 3 f fd ["thing"] (spD K mg 1 F_is_heard) :=
  fnD F sc_is_heard fun cdv A out s H E w0 hq hr =>
  (pds_onE (pds_ret (pd_call G_are_letters hq hr (by decide) rfl takesCx (pda_cons (pd_var (pv 0)) pda_nil))))
abbrev s_are_ascending : PySem.Stmt := top 12
abbrev N_are_ascending : List Str := ["thing", "low", "high"]
theorem sc_are_ascending : FnScope N_are_ascending ["thing", "low", "high"] (defScope s_are_ascending) := ⟨rfl, rfl, rfl, by decide +kernel, rfl, by decide +kernel, by decide +kernel⟩
def B_are_ascending : SM := (s_ret (m_and (m_call 3 F_are_between (ma_cons (m_var 0) (ma_cons (m_var 1) (ma_cons (m_var 2) ma_nil)))) (m_call 1 F_do_ascend (ma_cons (m_var 0) ma_nil))))
def F_are_ascending : List D → Sto → Option (R D × Sto) := runD 3 B_are_ascending
theorem ok_are_ascending {f : Addr} {fd : FuncData} (F : Fun K "are_ascending" "are_ascending" s_are_ascending f fd) (T : T1 K mg ad) (G_do_ascend : Cal P wo K mg base (L2.CX P wo) 1 "do_ascend" (spD K mg 1 F_do_ascend)) (G_are_between : Cal P wo K mg base (L2.CX P wo) 3 "are_between" (spD K mg 3 F_are_between)) : FnG P wo K mg base (L2.CX P wo) 4 f fd ["thing", "low", "high"] (spD K mg 3 F_are_ascending) :=
  fnD F sc_are_ascending fun cdv A out s H E w0 hq hr =>
  (pds_onE (pds_ret (pd_and (pd_call G_are_between hq hr (by decide) rfl takesCx (pda_cons (pd_var (pv 0)) (pda_cons (pd_var (pv 1)) (pda_cons (pd_var (pv 2)) pda_nil)))) (pd_one (pd_call G_do_ascend hq hr (by decide) rfl takesCx (pda_cons (pd_var (pv 0)) pda_nil))))))
abbrev s_is_guest_move : PySem.Stmt := top 35
abbrev N_is_guest_move : List Str := ["rooms", "thing", "origin", "target", "heard", "faces", "last"]
theorem sc_is_guest_move : FnScope N_is_guest_move ["rooms", "thing"] (defScope s_is_guest_move) := ⟨rfl, rfl, rfl, by decide +kernel, rfl, by decide +kernel, by decide +kernel⟩
def B_is_guest_move : SM := (s_seq (s_if (mt_not (m_tr (m_call 2 F_is_tuple_of (ma_cons (m_var 1) (ma_cons (m_c (.int 4)) ma_nil))))) (s_ret (m_c (.bl false))) s_nx)
  (s_seq (s_asg (g_tup 4 (g_cons (g_name 2) (g_cons (g_name 3) (g_cons (g_name 4) (g_cons (g_name 5) g_nil))))) (m_var 1))
  (s_seq (s_asg (g_name 6) (m_op subD (m_cb lenD (ma_cons (m_var 0) ma_nil)) (m_c (.int 1))))
  (s_seq (s_if (mt_not (mt_and (m_tr (m_call 3 F_is_between (ma_cons (m_var 2) (ma_cons (m_c (.int 0)) (ma_cons (m_var 6) ma_nil))))) (mt_and (m_tr (m_call 3 F_is_between (ma_cons (m_var 3) (ma_cons (m_c (.int 0)) (ma_cons (m_var 6) ma_nil))))) (m_tr (m_call 1 F_is_heard (ma_cons (m_var 4) ma_nil)))))) (s_ret (m_c (.bl false))) s_nx)
  (s_ret (m_call 3 F_are_ascending (ma_cons (m_var 5) (ma_cons (m_c (.int 0)) (ma_cons (m_c (.int (99))) ma_nil)))))))))
def F_is_guest_move : List D → Sto → Option (R D × Sto) := runD 7 B_is_guest_move
theorem ok_is_guest_move {f : Addr} {fd : FuncData} (F : Fun K "is_guest_move" "is_guest_move" s_is_guest_move f fd) (T : T1 K mg ad) (G_is_tuple_of : Cal P wo K mg base (L2.CX P wo) 1 "is_tuple_of" (spD K mg 2 F_is_tuple_of)) (G_is_heard : Cal P wo K mg base (L2.CX P wo) 3 "is_heard" (spD K mg 1 F_is_heard)) (G_is_between : Cal P wo K mg base (L2.CX P wo) 2 "is_between" (spD K mg 3 F_is_between)) (G_are_ascending : Cal P wo K mg base (L2.CX P wo) 4 "are_ascending" (spD K mg 3 F_are_ascending)) : FnG P wo K mg base (L2.CX P wo) 5 f fd ["rooms", "thing"] (spD K mg 2 F_is_guest_move) :=
  fnD F sc_is_guest_move fun cdv A out s H E w0 hq hr =>
  (pds_cons (pds_if (pdt_not (pdt_val (pd_call G_is_tuple_of hq hr (by decide) rfl takesCx (pda_cons (pd_var (pv 1)) (pda_cons pd_int pda_nil))))) (pds_onE (pds_ret pd_bl)) pds_nil)
  (pds_cons (pds_asg (pd_var (pv 1)) (pdg_tupK K rfl (pdg_cons (pdg_name (i := 2) (pg_name (i := 2) sc_is_guest_move.nd rfl (Or.inl rfl)) (by intro zi h; first | (cases h; done) | (cases h; simp))) (pdg_cons (pdg_name (i := 3) (pg_name (i := 3) sc_is_guest_move.nd rfl (Or.inl rfl)) (by intro zi h; first | (cases h; done) | (cases h; simp))) (pdg_cons (pdg_name (i := 4) (pg_name (i := 4) sc_is_guest_move.nd rfl (Or.inl rfl)) (by intro zi h; first | (cases h; done) | (cases h; simp))) (pdg_cons (pdg_name (i := 5) (pg_name (i := 5) sc_is_guest_move.nd rfl (Or.inl rfl)) (by intro zi h; first | (cases h; done) | (cases h; simp))) pdg_nil))))))
  (pds_cons (pds_set (i := 6) (ps_set (i := 6) sc_is_guest_move.nd rfl (Or.inl rfl) (pd_sub (pd_callB call_len oa_len rfl T.b_len (by decide +kernel) (pda_cons (pd_var (pv 0)) pda_nil)) pd_int)) (by intro zi h; first | (cases h; done) | (cases h; simp)))
  (pds_cons (pds_if (pdt_not (pdt_bool (pdw_and (pdt_val (pd_call G_is_between hq hr (by decide) rfl takesCx (pda_cons (pd_var (pv 2)) (pda_cons pd_int (pda_cons (pd_var (pv 6)) pda_nil))))) (pdw_and (pdt_val (pd_call G_is_between hq hr (by decide) rfl takesCx (pda_cons (pd_var (pv 3)) (pda_cons pd_int (pda_cons (pd_var (pv 6)) pda_nil))))) (pdw_and1 (pdt_val (pd_call G_is_heard hq hr (by decide) rfl takesCx (pda_cons (pd_var (pv 4)) pda_nil)))))))) (pds_onE (pds_ret pd_bl)) pds_nil)
  (pds_onE (pds_ret (pd_call G_are_ascending hq hr (by decide) rfl takesCx (pda_cons (pd_var (pv 5)) (pda_cons pd_int (pda_cons (pd_gint rfl T.k_GREATEST_FACE.choose_spec) pda_nil))))))))))
abbrev s_Guest_init : PySem.Stmt := inClass (top 36) 0
abbrev N_Guest_init : List Str := ["self", "rooms", "moves", "number", "move"]
theorem sc_Guest_init : FnScope N_Guest_init ["self", "rooms", "moves"] (defScope s_Guest_init) := ⟨rfl, rfl, rfl, by decide +kernel, rfl, by decide +kernel, by decide +kernel⟩
def B_Guest_init : SM := (s_seq (s_if (mt_not (m_tr (m_call 1 F_are_guest_rooms (ma_cons (m_var 1) ma_nil)))) (s_raise "BadGuest" "part" (m_c (.str "rooms"))) s_nx)
  (s_seq (s_if (mt_not (m_tr (m_isi "tuple" (m_var 2)))) (s_raise "BadGuest" "part" (m_c (.str "moves"))) s_nx)
  (s_seq (s_for (mi_enum (ma_cons (m_var 2) ma_nil)) (g_tup 2 (g_cons (g_name 3) (g_cons (g_name 4) g_nil))) (s_if (mt_not (m_tr (m_call 2 F_is_guest_move (ma_cons (m_var 1) (ma_cons (m_var 4) ma_nil))))) (s_raise "BadGuest" "part" (m_var 3)) s_nx))
  (s_seq (s_attr 0 "Guest" "rooms" (m_var 1))
  (s_attr 0 "Guest" "moves" (m_var 2))))))
def F_Guest_init : List D → Sto → Option (R D × Sto) := runI "Guest" 5 B_Guest_init
theorem ok_Guest_init {f : Addr} {fd : FuncData} (F : Fun K "__init__" "Guest.__init__" s_Guest_init f fd) (T : T1 K mg ad) (G_are_guest_rooms : Cal P wo K mg base (L2.CX P wo) 5 "are_guest_rooms" (spD K mg 1 F_are_guest_rooms)) (G_BadGuest : ErrG P wo K mg base 1 "BadGuest" "part" "part") (G_is_guest_move : Cal P wo K mg base (L2.CX P wo) 5 "is_guest_move" (spD K mg 2 F_is_guest_move)) : FnG P wo K mg base (L2.CX P wo) 6 f fd ["self", "rooms", "moves"] (spI K mg "Guest" 2 F_Guest_init) :=
  fnI F sc_Guest_init fun cdv A out s H E w0 a hq hr =>
  (pds_cons (pds_if (pdt_not (pdt_val (pd_call G_are_guest_rooms hq hr (by decide) rfl takesCx (pda_cons (pd_var (pv 1)) pda_nil)))) (pds_onE (pds_raiseG rfl takesCx G_BadGuest hr (by decide) rfl pd_str)) pds_nil)
  (pds_cons (pds_if (pdt_not (pdt_val (pd_isi rfl T.b_isinstance (pd_var (pv 2)) (pe_bltn (v := .ty "tuple") rfl T.b_tuple (by decide +kernel) rfl)))) (pds_onE (pds_raiseG rfl takesCx G_BadGuest hr (by decide) rfl pd_str)) pds_nil)
  (pds_cons (pds_for passesCx rfl (pdi_enum rfl T.b_enumerate (pda_cons (pd_var (pv 2)) pda_nil)) (pdg_tupK K rfl (pdg_cons (pdg_name (i := 3) (pg_name (i := 3) sc_Guest_init.nd rfl (Or.inl rfl)) (by intro zi h; first | (cases h; done) | (cases h; simp))) (pdg_cons (pdg_name (i := 4) (pg_name (i := 4) sc_Guest_init.nd rfl (Or.inl rfl)) (by intro zi h; first | (cases h; done) | (cases h; simp))) pdg_nil))) (pds_onE (pds_if (pdt_not (pdt_val (pd_call G_is_guest_move hq hr (by decide) rfl takesCx (pda_cons (pd_var (pv 1)) (pda_cons (pd_var (pv 4)) pda_nil))))) (pds_onE (pds_raiseG rfl takesCx G_BadGuest hr (by decide) rfl (pd_var (pv 3)))) pds_nil)))
  (pds_cons (pds_attr (i := 0) (fun C h => T.fl_rooms "Guest" (by simp) C h) (ps_fld (pv 0) (pd_var (pv 1)) (by rfl)))
  (pds_onE (pds_attr (i := 0) (fun C h => T.fl_moves "Guest" (by simp) C h) (ps_fld (pv 0) (pd_var (pv 2)) (by rfl))))))))
abbrev s__law_heard : PySem.Stmt := top 50
abbrev N__law_heard : List Str := ["_law_rooms_now", "_law_rows", "_law_by_name", "_law_found", "e"]
theorem sc__law_heard : FnScope N__law_heard ["_law_rooms_now", "_law_rows", "_law_by_name"] (defScope s__law_heard) := ⟨rfl, rfl, rfl, by decide +kernel, rfl, by decide +kernel, by decide +kernel⟩
def B__law_heard : SM := (s_seq (s_asg (g_name 3) (m_c .non))
  (s_seq (s_try 4 ["BadGuest"] (fun _ => true) (s_asg (g_name 3) (m_if (m_tr (m_var 2)) (m_callK 2 [1, 0] F_Guest_init (ma_cons (m_var 1) (ma_cons (m_var 0) ma_nil))) (m_call 2 F_Guest_init (ma_cons (m_var 0) (ma_cons (m_var 1) ma_nil))))) (fun c fs => (s_asg (g_name 3) (m_lst (ma_cons (m_xf 4 fs "part") (ma_cons (m_c (.bl true)) ma_nil))))))
  (s_ret (m_var 3))))
def F__law_heard : List D → Sto → Option (R D × Sto) := runD 5 B__law_heard
theorem ok__law_heard {f : Addr} {fd : FuncData} (F : Fun K "_law_heard" "_law_heard" s__law_heard f fd) (T : T1 K mg ad) (K_Guest : MkK P wo K mg base (L2.CX P wo) 6 "Guest" ["rooms", "moves"] ["moves", "rooms"] [1, 0] (spI K mg "Guest" 2 F_Guest_init)) (M_Guest : MkG P wo K mg base (L2.CX P wo) 6 "Guest" ["rooms", "moves"] (spI K mg "Guest" 2 F_Guest_init)) : FnG P wo K mg base (L2.CX P wo) 8 f fd ["_law_rooms_now", "_law_rows", "_law_by_name"] (spD K mg 3 F__law_heard) :=
  fnD F sc__law_heard fun cdv A out s H E w0 hq hr =>
  (pds_cons (pds_set (i := 3) (ps_set (i := 3) sc__law_heard.nd rfl (Or.inl rfl) pd_non) (by intro zi h; first | (cases h; done) | (cases h; simp)))
  (pds_cons (pds_try (i := 4) (errs := ["BadGuest"]) (sub := fun _ => true) (T.trT ["BadGuest"] "BadGuest" (by decide +kernel)) (fun hb hsu => ps_try_as rfl rfl sc__law_heard.nd rfl rfl (names_of (T.c "BadGuest" (List.mem_of_getElem? (i := 1) rfl)) rfl) takesCx hb hsu) (fun _ _ _ tkt pot => (pds_onE (pds_set (i := 3) (ps_set (i := 3) sc__law_heard.nd rfl (Or.inl rfl) (pd_if (pdt_val (pd_var (pv 2))) (pd_makeK (ks := ["moves", "rooms"]) (pm := [1, 0]) K_Guest (fun ds hl => match ds, hl with | [_, _], _ => rfl) hq hr (by decide) rfl tkt (pdk_cons (pd_var (pv 1)) (pdk_cons (pd_var (pv 0)) pdk_nil))) (pd_make M_Guest rfl hq hr (by decide) rfl tkt (pda_cons (pd_var (pv 0)) (pda_cons (pd_var (pv 1)) pda_nil))))) (by intro zi h; first | (cases h; done) | (cases h; simp))))) (fun aa oe CC dd pn c fs hz hf hm hc _ => (pds_onE (pds_set (i := 3) (ps_set (i := 3) sc__law_heard.nd rfl (Or.inl rfl) (pd_lst (pda_cons (pd_xf (T.f ["BadGuest"] "part" (by decide +kernel) c hc _ hm).1 (T.f ["BadGuest"] "part" (by decide +kernel) c hc _ hm).2 hz hf (pv 4)) (pda_cons (pd_isE (T.i "WardError" (List.mem_of_getElem? (i := 0) rfl) c true (is_BadGuest_WardError hc) _ hm).1 hz hf (T.i "WardError" (List.mem_of_getElem? (i := 0) rfl) c true (is_BadGuest_WardError hc) _ hm).2 rfl T.b_isinstance rfl (T.c "WardError" (List.mem_of_getElem? (i := 0) rfl)) (pv 4)) pda_nil)))) (by intro zi h; first | (cases h; done) | (cases h; simp))))))
  (pds_onE (pds_ret (pd_var (pv 3))))))
abbrev s_Guest_len : PySem.Stmt := inClass (top 36) 1
abbrev N_Guest_len : List Str := ["self"]
theorem sc_Guest_len : FnScope N_Guest_len ["self"] (defScope s_Guest_len) := ⟨rfl, rfl, rfl, by decide +kernel, rfl, by decide +kernel, by decide +kernel⟩
def B_Guest_len : SM := (s_ret (m_cb lenD (ma_cons (m_fld ["Guest"] "rooms" (m_var 0)) ma_nil)))
def F_Guest_len : List D → Sto → Option (R D × Sto) := runD 1 B_Guest_len
theorem ok_Guest_len {f : Addr} {fd : FuncData} (F : Fun K "__len__" "Guest.__len__" s_Guest_len f fd) (T : T1 K mg ad) : FnG P wo K mg base (L2.CX P wo) 1 f fd ["self"] (spD K mg 1 F_Guest_len) :=
  fnD F sc_Guest_len fun cdv A out s H E w0 hq hr =>
  (pds_onE (pds_ret (pd_callB call_len oa_len rfl T.b_len (by decide +kernel) (pda_cons (pd_fld (cs := ["Guest"]) T.fl_rooms (pd_var (pv 0))) pda_nil))))
abbrev s_Guest_eq : PySem.Stmt := inClass (top 36) 2
abbrev N_Guest_eq : List Str := ["self", "other"]
theorem sc_Guest_eq : FnScope N_Guest_eq ["self", "other"] (defScope s_Guest_eq) := ⟨rfl, rfl, rfl, by decide +kernel, rfl, by decide +kernel, by decide +kernel⟩
def B_Guest_eq : SM := (s_ret (m_and (m_isO "Guest" ["Guest"] (m_var 1)) (m_and (m_cmp eqG (m_fld ["Guest"] "rooms" (m_var 0)) (m_fld ["Guest"] "rooms" (m_var 1))) (m_cmp eqG (m_fld ["Guest"] "moves" (m_var 0)) (m_fld ["Guest"] "moves" (m_var 1))))))
def F_Guest_eq : List D → Sto → Option (R D × Sto) := runD 2 B_Guest_eq
theorem ok_Guest_eq {f : Addr} {fd : FuncData} (F : Fun K "__eq__" "Guest.__eq__" s_Guest_eq f fd) (T : T1 K mg ad) : FnG P wo K mg base (L2.CX P wo) 1 f fd ["self", "other"] (spD K mg 2 F_Guest_eq) :=
  fnD F sc_Guest_eq fun cdv A out s H E w0 hq hr =>
  (pds_onE (pds_ret (pd_and (pd_isO T.cl (by simp) T.o_Guest rfl T.b_isinstance rfl (pd_var (pv 1))) (pd_and (pd_cmp (op_eqG hr.units) c2_eqG (pd_fld (cs := ["Guest"]) T.fl_rooms (pd_var (pv 0))) (pd_fld (cs := ["Guest"]) T.fl_rooms (pd_var (pv 1))) (nomark _)) (pd_one (pd_cmp (op_eqG hr.units) c2_eqG (pd_fld (cs := ["Guest"]) T.fl_moves (pd_var (pv 0))) (pd_fld (cs := ["Guest"]) T.fl_moves (pd_var (pv 1))) (nomark _)))))))
abbrev s__law_right : PySem.Stmt := top 51
abbrev N__law_right : List Str := ["_law_rooms_now", "_law_rows", "_law_by_name", "_law_was", "_law_due_here", "_law_told", "_law_mate", "_law_it"]
theorem sc__law_right : FnScope N__law_right ["_law_rooms_now", "_law_rows", "_law_by_name"] (defScope s__law_right) := ⟨rfl, rfl, rfl, by decide +kernel, rfl, by decide +kernel, by decide +kernel⟩
def B__law_right : SM := (s_seq (s_par 3 4 (ma_cons (m_cb reprD (ma_cons (m_tup (ma_cons (m_var 0) (ma_cons (m_var 1) ma_nil))) ma_nil)) (ma_cons (m_call 2 F__law_due (ma_cons (m_var 0) (ma_cons (m_var 1) ma_nil))) ma_nil)))
  (s_seq (s_asg (g_name 5) (m_call 3 F__law_heard (ma_cons (m_var 0) (ma_cons (m_var 1) (ma_cons (m_var 2) ma_nil)))))
  (s_seq (s_if (m_cmpT neG (m_cb reprD (ma_cons (m_tup (ma_cons (m_var 0) (ma_cons (m_var 1) ma_nil))) ma_nil)) (m_var 3)) (s_ret (m_c (.bl false))) s_nx)
  (s_seq (s_if (m_cmpT neG (m_var 4) (m_lst ma_nil)) (s_ret (m_cmp eqG (m_cb reprD (ma_cons (m_var 5) ma_nil)) (m_cb reprD (ma_cons (m_lst (ma_cons (m_op ixD (m_var 4) (m_c (.int 0))) (ma_cons (m_c (.bl true)) ma_nil))) ma_nil)))) s_nx)
  (s_seq (s_if (mt_or (mt_not (m_tr (m_isO "Guest" ["Guest"] (m_var 5)))) (mt_or (m_cmpT neG (m_cb reprD (ma_cons (m_tup (ma_cons (m_fld ["Guest"] "rooms" (m_var 5)) (ma_cons (m_fld ["Guest"] "moves" (m_var 5)) ma_nil))) ma_nil)) (m_var 3)) (m_cmpT neG (m_lenO "Guest" F_Guest_len (m_var 5)) (m_cb lenD (ma_cons (m_var 0) ma_nil))))) (s_ret (m_c (.bl false))) s_nx)
  (s_seq (s_asg (g_name 6) (m_call 3 F__law_heard (ma_cons (m_var 0) (ma_cons (m_var 1) (ma_cons (m_not (m_var 2)) ma_nil)))))
  (s_seq (s_if (mt_or (mt_not (m_isT (m_eqO "Guest" ["Guest"] F_Guest_eq (fun b => b) (m_var 5) (m_var 6)))) (m_isT (m_eqO "Guest" ["Guest"] F_Guest_eq (fun b => !b) (m_var 5) (m_var 6)))) (s_ret (m_c (.bl false))) s_nx)
  (s_ret (m_cmp eqG (m_fz (mf_lc (mi_of (m_tup (ma_cons (m_c .non) (ma_cons (m_c (.int 0)) (ma_cons (m_var 0) (ma_cons (m_var 1) (ma_cons (m_tup (ma_cons (m_var 0) (ma_cons (m_var 1) ma_nil))) (ma_cons (m_cb lenD (ma_cons (m_var 1) ma_nil)) (ma_cons (m_c (.str "guest -1")) ma_nil))))))))) [7] (g_name 7) (m_isT (m_eqO "Guest" ["Guest"] F_Guest_eq (fun b => b) (m_var 5) (m_var 7))) (m_var 7))) (m_lst ma_nil))))))))))
def F__law_right : List D → Sto → Option (R D × Sto) := runD 8 B__law_right
theorem ok__law_right {f : Addr} {fd : FuncData} (F : Fun K "_law_right" "_law_right" s__law_right f fd) (T : T1 K mg ad) (G__law_due : Cal P wo K mg base (L2.CX P wo) 3 "_law_due" (spD K mg 2 F__law_due)) (G__law_heard : Cal P wo K mg base (L2.CX P wo) 8 "_law_heard" (spD K mg 3 F__law_heard)) (N_Guest : OwnM P wo K mg base (L2.CX P wo) 1 "Guest" "__len__" (spD K mg 1 F_Guest_len)) (Q_Guest : OwnQ P wo K mg base (L2.CX P wo) 1 "Guest" (spD K mg 2 F_Guest_eq)) (hs : Sys base) : FnG P wo K mg base (L2.CX P wo) 9 f fd ["_law_rooms_now", "_law_rows", "_law_by_name"] (spD K mg 3 F__law_right) :=
  fnD F sc__law_right fun cdv A out s H E w0 hq hr =>
  (pds_cons (pds_par (i := 3) (j := 4) (ps_par (by rfl) sc__law_right.nd (i := 3) (j := 4) rfl rfl (by decide) rfl rfl (pda_cons (pd_callB (call_repr hq hr.units hs) oa_repr rfl T.b_repr (by decide +kernel) (pda_cons (pd_tup (pda_cons (pd_var (pv 0)) (pda_cons (pd_var (pv 1)) pda_nil))) pda_nil)) (pda_cons (pd_call G__law_due hq hr (by decide) rfl takesCx (pda_cons (pd_var (pv 0)) (pda_cons (pd_var (pv 1)) pda_nil))) pda_nil)) (by rfl)) (by intro zi h; first | (cases h; done) | (cases h; simp)))
  (pds_cons (pds_set (i := 5) (ps_set (i := 5) sc__law_right.nd rfl (Or.inr rfl) (pd_call G__law_heard hq hr (by decide) rfl takesCx (pda_cons (pd_var (pv 0)) (pda_cons (pd_var (pv 1)) (pda_cons (pd_var (pv 2)) pda_nil))))) (by intro zi h; first | (cases h; done) | (cases h; simp)))
  (pds_cons (pds_if (pdt_cmp (op_neG hr.units) c2_neG (pd_callB (call_repr hq hr.units hs) oa_repr rfl T.b_repr (by decide +kernel) (pda_cons (pd_tup (pda_cons (pd_var (pv 0)) (pda_cons (pd_var (pv 1)) pda_nil))) pda_nil)) (pd_var (pv 3)) (nomark _)) (pds_onE (pds_ret pd_bl)) pds_nil)
  (pds_cons (pds_if (pdt_cmp (op_neG hr.units) c2_neG (pd_var (pv 4)) (pd_lst pda_nil) (nomark _)) (pds_onE (pds_ret (pd_cmp (op_eqG hr.units) c2_eqG (pd_callB (call_repr hq hr.units hs) oa_repr rfl T.b_repr (by decide +kernel) (pda_cons (pd_var (pv 5)) pda_nil)) (pd_callB (call_repr hq hr.units hs) oa_repr rfl T.b_repr (by decide +kernel) (pda_cons (pd_lst (pda_cons (pd_ixD (pd_var (pv 4)) pd_int (fun _ _ => rfl)) (pda_cons pd_bl pda_nil))) pda_nil)) (nomark _)))) pds_nil)
  (pds_cons (pds_if (pdt_bool (pdw_or (pdt_not (pdt_val (pd_isO T.cl (by simp) T.o_Guest rfl T.b_isinstance rfl (pd_var (pv 5))))) (pdw_or (pdt_cmp (op_neG hr.units) c2_neG (pd_callB (call_repr hq hr.units hs) oa_repr rfl T.b_repr (by decide +kernel) (pda_cons (pd_tup (pda_cons (pd_fld (cs := ["Guest"]) T.fl_rooms (pd_var (pv 5))) (pda_cons (pd_fld (cs := ["Guest"]) T.fl_moves (pd_var (pv 5))) pda_nil))) pda_nil)) (pd_var (pv 3)) (nomark _)) (pdw_or1 (pdt_cmp (op_neG hr.units) c2_neG (pd_lenO N_Guest hq hr (by decide) takesCx rfl T.b_len (pd_var (pv 5))) (pd_callB call_len oa_len rfl T.b_len (by decide +kernel) (pda_cons (pd_var (pv 0)) pda_nil)) (nomark _)))))) (pds_onE (pds_ret pd_bl)) pds_nil)
  (pds_cons (pds_set (i := 6) (ps_set (i := 6) sc__law_right.nd rfl (Or.inl rfl) (pd_call G__law_heard hq hr (by decide) rfl takesCx (pda_cons (pd_var (pv 0)) (pda_cons (pd_var (pv 1)) (pda_cons (pd_not (pd_var (pv 2))) pda_nil))))) (by intro zi h; first | (cases h; done) | (cases h; simp)))
  (pds_cons (pds_if (pdt_bool (pdw_or (pdt_not (pdt_eqO T.cl (by simp) Q_Guest hq hr (by decide) takesCx (pd_var (pv 5)) (pd_var (pv 6)))) (pdw_or1 (pdt_neO T.cl (by simp) Q_Guest hq hr (by decide) takesCx (pd_var (pv 5)) (pd_var (pv 6)))))) (pds_onE (pds_ret pd_bl)) pds_nil)
  (pds_onE (pds_ret (pd_cmp (op_eqG hr.units) c2_eqG (pd_pf (pf_lc (own := [("_law_it", 7)]) rfl sc__law_right.nd (pdi_any (pd_tup (pda_cons pd_non (pda_cons pd_int (pda_cons (pd_var (pv 0)) (pda_cons (pd_var (pv 1)) (pda_cons (pd_tup (pda_cons (pd_var (pv 0)) (pda_cons (pd_var (pv 1)) pda_nil))) (pda_cons (pd_callB call_len oa_len rfl T.b_len (by decide +kernel) (pda_cons (pd_var (pv 1)) pda_nil)) (pda_cons pd_str pda_nil))))))))) (blkOk_by (own := [("_law_it", 7)]) (N := N__law_right) (sc := defScope s__law_right) (by decide +kernel)) (fun _ _ _ _ _ => (pdg_name (i := 7) (pg_name (i := 7) sc__law_right.nd rfl (Or.inl rfl)) (by intro zi h; cases h))) (fun _ _ _ _ _ => (pdts_one (pdt_eqO T.cl (by simp) Q_Guest hq hr (by decide) takesNo (pd_var (pv 5)) (pd_var (pv 7))))) (fun _ _ _ _ _ => (pd_var (pv 7))))) (pd_lst pda_nil) (nomark _)))))))))))
abbrev s__law_bent : PySem.Stmt := top 45
abbrev N__law_bent : List Str := ["_law_deck_here", "_law_it", "_law_deep", "_law_at", "_law_way"]
theorem sc__law_bent : FnScope N__law_bent ["_law_deck_here", "_law_it", "_law_deep"] (defScope s__law_bent) := ⟨rfl, rfl, rfl, by decide +kernel, rfl, by decide +kernel, by decide +kernel⟩
def B__law_bent (Fr : List D → Sto → Option (R D × Sto)) : SM := (s_seq (s_if (mt_and (m_tr (m_isi "tuple" (m_var 1))) (mt_and (m_cmpT neG (m_var 1) (m_tup ma_nil)) (mt_and (m_cmpT gtD (m_var 2) (m_c (.int 0))) (m_cmpT gtD (m_call 2 F__law_draw (ma_cons (m_var 0) (ma_cons (m_c (.int 7)) ma_nil))) (m_c (.int 0)))))) (s_seq (s_par 3 4 (ma_cons (m_call 2 F__law_draw (ma_cons (m_var 0) (ma_cons (m_cb lenD (ma_cons (m_var 1) ma_nil)) ma_nil))) (ma_cons (m_call 2 F__law_draw (ma_cons (m_var 0) (ma_cons (m_c (.int 10)) ma_nil))) ma_nil)))
  (s_seq (s_if (m_cmpT eqG (m_var 4) (m_c (.int 0))) (s_ret (m_op addD (m_slice (m_var 1) mo_none (mo_some (m_var 3))) (m_slice (m_var 1) (mo_some (m_op addD (m_var 3) (m_c (.int 1)))) mo_none))) s_nx)
  (s_seq (s_if (m_cmpT eqG (m_var 4) (m_c (.int 1))) (s_ret (m_op addD (m_slice (m_var 1) mo_none (mo_some (m_op addD (m_var 3) (m_c (.int 1))))) (m_slice (m_var 1) (mo_some (m_var 3)) mo_none))) s_nx)
  (s_seq (s_if (m_cmpT eqG (m_var 4) (m_c (.int 2))) (s_ret (m_op addD (m_op addD (m_slice (m_var 1) mo_none (mo_some (m_var 3))) (m_rev (m_slice (m_var 1) (mo_some (m_var 3)) (mo_some (m_op addD (m_var 3) (m_c (.int 2))))))) (m_slice (m_var 1) (mo_some (m_op addD (m_var 3) (m_c (.int 2)))) mo_none))) s_nx)
  (s_seq (s_if (m_cmpT eqG (m_var 4) (m_c (.int 3))) (s_ret (m_cb listD (ma_cons (m_var 1) ma_nil))) s_nx)
  (s_ret (m_op addD (m_op addD (m_slice (m_var 1) mo_none (mo_some (m_var 3))) (m_tup (ma_cons (m_call 3 Fr (ma_cons (m_var 0) (ma_cons (m_op ixD (m_var 1) (m_var 3)) (ma_cons (m_op subD (m_var 2) (m_c (.int 1))) ma_nil)))) ma_nil))) (m_slice (m_var 1) (mo_some (m_op addD (m_var 3) (m_c (.int 1)))) mo_none)))))))) s_nx)
  (s_seq (s_if (mt_and (m_tr (m_isi "int" (m_var 1))) (mt_and (mt_not (m_tr (m_isi "bool" (m_var 1)))) (m_cmpT gtD (m_call 2 F__law_draw (ma_cons (m_var 0) (ma_cons (m_c (.int 4)) ma_nil))) (m_c (.int 0))))) (s_ret (m_call 2 F__law_pick (ma_cons (m_var 0) (ma_cons (m_lst (ma_cons (m_op addD (m_var 1) (m_c (.int 1))) (ma_cons (m_op subD (m_var 1) (m_c (.int 1))) (ma_cons (m_cmp eqG (m_var 1) (m_c (.int 1))) (ma_cons (m_cb strOf (ma_cons (m_var 1) ma_nil)) (ma_cons (m_c (.int 0)) ma_nil)))))) ma_nil)))) s_nx)
  (s_seq (s_if (mt_and (m_tr (m_isi "str" (m_var 1))) (m_cmpT gtD (m_call 2 F__law_draw (ma_cons (m_var 0) (ma_cons (m_c (.int 3)) ma_nil))) (m_c (.int 0)))) (s_ret (m_call 2 F__law_pick (ma_cons (m_var 0) (ma_cons (m_lst (ma_cons (m_op addD (m_var 1) (m_c (.str "c"))) (ma_cons (m_rev (m_var 1)) (ma_cons (m_op addD (m_var 1) (m_slice (m_var 1) mo_none (mo_some (m_c (.int 1))))) (ma_cons (m_sm0 upperF (m_var 1)) (ma_cons (m_slice (m_var 1) (mo_some (m_c (.int 1))) mo_none) (ma_cons (m_c (.str "")) ma_nil))))))) ma_nil)))) s_nx)
  (s_ret (m_call 2 F__law_pick (ma_cons (m_var 0) (ma_cons (m_lst (ma_cons (m_c .non) (ma_cons (m_c (.bl true)) (ma_cons (m_c (.bl false)) (ma_cons (m_c (.int 0)) (ma_cons (m_c (.int 1)) (ma_cons (m_neg (m_c (.int 1))) (ma_cons (m_op powD (m_c (.int 10)) (m_c (.int 39))) (ma_cons (m_c (.str "")) (ma_cons (m_c (.str "a")) (ma_cons (m_c (.str "ba")) (ma_cons (m_c (.str "catches")) (ma_cons (m_tup ma_nil) (ma_cons (m_lst ma_nil) (ma_cons (m_c (.dct [])) (ma_cons (m_tup (ma_cons (m_c (.int 0)) ma_nil)) (ma_cons (m_tup (ma_cons (m_tup ma_nil) ma_nil)) ma_nil))))))))))))))))) ma_nil)))))))
def F__law_bent : Nat → List D → Sto → Option (R D × Sto)
  | 0 => fun _ _ => none
  | d + 1 => runD 5 (B__law_bent (F__law_bent d))
theorem ok__law_bent {f : Addr} {fd : FuncData} {j : Nat} {Fr : List D → Sto → Option (R D × Sto)} (F : Fun K "_law_bent" "_law_bent" s__law_bent f fd) (T : T1 K mg ad) (G__law_draw : Cal P wo K mg base (L2.CX P wo) 1 "_law_draw" (spD K mg 2 F__law_draw)) (G__law_pick : Cal P wo K mg base (L2.CX P wo) 2 "_law_pick" (spD K mg 2 F__law_pick)) (hj : 2 ≤ j) (GS : Cal P wo K mg base (L2.CX P wo) j "_law_bent" (spD K mg 3 Fr)) :
    FnG P wo K mg base (L2.CX P wo) (j + 1) f fd ["_law_deck_here", "_law_it", "_law_deep"] (spD K mg 3 (runD 5 (B__law_bent Fr))) :=
  fnD F sc__law_bent fun cdv A out s H E w0 hq hr =>
  (pds_cons (pds_if (pdt_bool (pdw_and (pdt_val (pd_isi rfl T.b_isinstance (pd_var (pv 1)) (pe_bltn (v := .ty "tuple") rfl T.b_tuple (by decide +kernel) rfl))) (pdw_and (pdt_cmp (op_neG hr.units) c2_neG (pd_var (pv 1)) (pd_tup pda_nil) (nomark _)) (pdw_and (pdt_cmp op_gt c2_gt (pd_var (pv 2)) pd_int (nomark _)) (pdw_and1 (pdt_cmp op_gt c2_gt (pd_call G__law_draw hq hr (by omega) rfl takesCx (pda_cons (pd_var (pv 0)) (pda_cons pd_int pda_nil))) pd_int (nomark _))))))) (pds_cons (pds_par (i := 3) (j := 4) (ps_par (by rfl) sc__law_bent.nd (i := 3) (j := 4) rfl rfl (by decide) rfl rfl (pda_cons (pd_call G__law_draw hq hr (by omega) rfl takesCx (pda_cons (pd_var (pv 0)) (pda_cons (pd_callB call_len oa_len rfl T.b_len (by decide +kernel) (pda_cons (pd_var (pv 1)) pda_nil)) pda_nil))) (pda_cons (pd_call G__law_draw hq hr (by omega) rfl takesCx (pda_cons (pd_var (pv 0)) (pda_cons pd_int pda_nil))) pda_nil)) (by rfl)) (by intro zi h; first | (cases h; done) | (cases h; simp)))
  (pds_cons (pds_if (pdt_cmp (op_eqG hr.units) c2_eqG (pd_var (pv 4)) pd_int (nomark _)) (pds_onE (pds_ret (pd_add (pd_slice (pd_var (pv 1)) pdo_none (pdo_some (pd_var (pv 3)))) (pd_slice (pd_var (pv 1)) (pdo_some (pd_add (pd_var (pv 3)) pd_int)) pdo_none)))) pds_nil)
  (pds_cons (pds_if (pdt_cmp (op_eqG hr.units) c2_eqG (pd_var (pv 4)) pd_int (nomark _)) (pds_onE (pds_ret (pd_add (pd_slice (pd_var (pv 1)) pdo_none (pdo_some (pd_add (pd_var (pv 3)) pd_int))) (pd_slice (pd_var (pv 1)) (pdo_some (pd_var (pv 3))) pdo_none)))) pds_nil)
  (pds_cons (pds_if (pdt_cmp (op_eqG hr.units) c2_eqG (pd_var (pv 4)) pd_int (nomark _)) (pds_onE (pds_ret (pd_add (pd_add (pd_slice (pd_var (pv 1)) pdo_none (pdo_some (pd_var (pv 3)))) (pd_rev (pd_slice (pd_var (pv 1)) (pdo_some (pd_var (pv 3))) (pdo_some (pd_add (pd_var (pv 3)) pd_int))))) (pd_slice (pd_var (pv 1)) (pdo_some (pd_add (pd_var (pv 3)) pd_int)) pdo_none)))) pds_nil)
  (pds_cons (pds_if (pdt_cmp (op_eqG hr.units) c2_eqG (pd_var (pv 4)) pd_int (nomark _)) (pds_onE (pds_ret (pd_callTy call_list_of oa_list rfl T.b_list (by decide +kernel) (pda_cons (pd_var (pv 1)) pda_nil)))) pds_nil)
  (pds_onE (pds_ret (pd_add (pd_add (pd_slice (pd_var (pv 1)) pdo_none (pdo_some (pd_var (pv 3)))) (pd_tup (pda_cons (pd_call GS hq hr (by omega) rfl takesCx (pda_cons (pd_var (pv 0)) (pda_cons (pd_ixD (pd_var (pv 1)) (pd_var (pv 3)) (fun _ _ => rfl)) (pda_cons (pd_sub (pd_var (pv 2)) pd_int) pda_nil)))) pda_nil))) (pd_slice (pd_var (pv 1)) (pdo_some (pd_add (pd_var (pv 3)) pd_int)) pdo_none))))))))) pds_nil)
  (pds_cons (pds_if (pdt_bool (pdw_and (pdt_val (pd_isi rfl T.b_isinstance (pd_var (pv 1)) (pe_bltn (v := .ty "int") rfl T.b_int (by decide +kernel) rfl))) (pdw_and (pdt_not (pdt_val (pd_isi rfl T.b_isinstance (pd_var (pv 1)) (pe_bltn (v := .ty "bool") rfl T.b_bool (by decide +kernel) rfl)))) (pdw_and1 (pdt_cmp op_gt c2_gt (pd_call G__law_draw hq hr (by omega) rfl takesCx (pda_cons (pd_var (pv 0)) (pda_cons pd_int pda_nil))) pd_int (nomark _)))))) (pds_onE (pds_ret (pd_call G__law_pick hq hr (by omega) rfl takesCx (pda_cons (pd_var (pv 0)) (pda_cons (pd_lst (pda_cons (pd_add (pd_var (pv 1)) pd_int) (pda_cons (pd_sub (pd_var (pv 1)) pd_int) (pda_cons (pd_cmp (op_eqG hr.units) c2_eqG (pd_var (pv 1)) pd_int (nomark _)) (pda_cons (pd_callTy call_str_int oa_str rfl T.b_str (by decide +kernel) (pda_cons (pd_var (pv 1)) pda_nil)) (pda_cons pd_int pda_nil)))))) pda_nil))))) pds_nil)
  (pds_cons (pds_if (pdt_bool (pdw_and (pdt_val (pd_isi rfl T.b_isinstance (pd_var (pv 1)) (pe_bltn (v := .ty "str") rfl T.b_str (by decide +kernel) rfl))) (pdw_and1 (pdt_cmp op_gt c2_gt (pd_call G__law_draw hq hr (by omega) rfl takesCx (pda_cons (pd_var (pv 0)) (pda_cons pd_int pda_nil))) pd_int (nomark _))))) (pds_onE (pds_ret (pd_call G__law_pick hq hr (by omega) rfl takesCx (pda_cons (pd_var (pv 0)) (pda_cons (pd_lst (pda_cons (pd_add (pd_var (pv 1)) pd_str) (pda_cons (pd_rev (pd_var (pv 1))) (pda_cons (pd_add (pd_var (pv 1)) (pd_slice (pd_var (pv 1)) pdo_none (pdo_some pd_int))) (pda_cons (pd_sm0 PySem.F.slot_str_upper PySem.F.type_str_upper mt_upper om_upper (pd_var (pv 1))) (pda_cons (pd_slice (pd_var (pv 1)) (pdo_some pd_int) pdo_none) (pda_cons pd_str pda_nil))))))) pda_nil))))) pds_nil)
  (pds_onE (pds_ret (pd_call G__law_pick hq hr (by omega) rfl takesCx (pda_cons (pd_var (pv 0)) (pda_cons (pd_lst (pda_cons pd_non (pda_cons pd_bl (pda_cons pd_bl (pda_cons pd_int (pda_cons pd_int (pda_cons (pd_neg pd_int) (pda_cons (pd_pow pd_int pd_int) (pda_cons pd_str (pda_cons pd_str (pda_cons pd_str (pda_cons pd_str (pda_cons (pd_tup pda_nil) (pda_cons (pd_lst pda_nil) (pda_cons (pd_dnil) (pda_cons (pd_tup (pda_cons pd_int pda_nil)) (pda_cons (pd_tup (pda_cons (pd_tup pda_nil) pda_nil)) pda_nil))))))))))))))))) pda_nil))))))))
abbrev s_law : PySem.Stmt := top 52
abbrev N_law : List Str := ["_law_script", "_law_deck_here", "_law_go", "_law_caller_here", "_law_lot_now", "_law_odd", "_law_turn", "_law_at", "_law_is_like", "_law_some"]
theorem sc_law : FnScope N_law ["_law_script"] (defScope s_law) := ⟨rfl, rfl, rfl, by decide +kernel, rfl, by decide +kernel, by decide +kernel⟩
def B_law : SM := (s_seq (s_asg (g_name 1) (m_call 1 F__law_deck (ma_cons (m_var 0) ma_nil)))
  (s_seq (s_for (mi_range1 (ma_cons (m_c (.int 12)) ma_nil)) (g_name 2) (s_seq (s_asg (g_name 3) (m_call 1 F__law_caller (ma_cons (m_var 1) ma_nil)))
  (s_seq (s_asg (g_name 4) (m_tup (ma_cons (m_dget (m_var 3) (m_c (.str "rooms"))) (ma_cons (m_dget (m_var 3) (m_c (.str "moves"))) ma_nil))))
  (s_seq (s_if (mt_not (m_tr (m_call 3 F__law_right (ma_cons (m_op ixD (m_var 4) (m_c (.int 0))) (ma_cons (m_op ixD (m_var 4) (m_c (.int 1))) (ma_cons (m_cmp eqG (m_op modD (m_var 2) (m_c (.int 2))) (m_c (.int 0))) ma_nil)))))) (s_ret (m_c (.bl false))) s_nx)
  (s_seq (s_asg (g_name 5) (m_var 4))
  (s_seq (s_for (mi_range1 (ma_cons (m_op addD (m_c (.int 1)) (m_call 2 F__law_draw (ma_cons (m_var 1) (ma_cons (m_c (.int 3)) ma_nil)))) ma_nil)) (g_name 6) (s_seq (s_asg (g_name 7) (m_call 2 F__law_draw (ma_cons (m_var 1) (ma_cons (m_c (.int 2)) ma_nil))))
  (s_asg (g_name 5) (m_op addD (m_op addD (m_slice (m_var 5) mo_none (mo_some (m_var 7))) (m_tup (ma_cons (m_call 3 (F__law_bent 4) (ma_cons (m_var 1) (ma_cons (m_op ixD (m_var 5) (m_var 7)) (ma_cons (m_c (.int 3)) ma_nil)))) ma_nil))) (m_slice (m_var 5) (mo_some (m_op addD (m_var 7) (m_c (.int 1)))) mo_none)))))
  (s_seq (s_if (mt_not (m_tr (m_call 3 F__law_right (ma_cons (m_op ixD (m_var 5) (m_c (.int 0))) (ma_cons (m_op ixD (m_var 5) (m_c (.int 1))) (ma_cons (m_cmp eqG (m_op modD (m_var 2) (m_c (.int 2))) (m_c (.int 1))) ma_nil)))))) (s_ret (m_c (.bl false))) s_nx)
  (s_if (m_cmpT eqG (m_call 2 F__law_due (ma_cons (m_op ixD (m_var 5) (m_c (.int 0))) (ma_cons (m_op ixD (m_var 5) (m_c (.int 1))) ma_nil))) (m_lst ma_nil)) (s_seq (s_asg (g_name 8) (m_cmp eqG (m_cb reprD (ma_cons (m_var 5) ma_nil)) (m_cb reprD (ma_cons (m_var 4) ma_nil))))
  (s_if (m_cmpT neG (m_eqO "Guest" ["Guest"] F_Guest_eq (fun b => b) (m_call 3 F__law_heard (ma_cons (m_op ixD (m_var 5) (m_c (.int 0))) (ma_cons (m_op ixD (m_var 5) (m_c (.int 1))) (ma_cons (m_c (.bl true)) ma_nil)))) (m_call 3 F__law_heard (ma_cons (m_op ixD (m_var 4) (m_c (.int 0))) (ma_cons (m_op ixD (m_var 4) (m_c (.int 1))) (ma_cons (m_c (.bl false)) ma_nil))))) (m_var 8)) (s_ret (m_c (.bl false))) s_nx)) s_nx))))))))
  (s_seq (s_asg (g_name 9) (m_lst (ma_cons (m_tup (ma_cons (m_tup (ma_cons (m_neg (m_c (.int 1))) ma_nil)) (ma_cons (m_tup ma_nil) ma_nil))) (ma_cons (m_tup (ma_cons (m_tup (ma_cons (m_c (.int 0)) ma_nil)) (ma_cons (m_tup ma_nil) ma_nil))) (ma_cons (m_tup (ma_cons (m_tup ma_nil) (ma_cons (m_tup ma_nil) ma_nil))) (ma_cons (m_tup (ma_cons (m_tup (ma_cons (m_neg (m_c (.int 1))) (ma_cons (m_c (.int 9)) ma_nil))) (ma_cons (m_tup (ma_cons (m_tup (ma_cons (m_c (.int 0)) (ma_cons (m_c (.int 1)) (ma_cons (m_c (.str "abcxyz")) (ma_cons (m_tup (ma_cons (m_c (.int 0)) (ma_cons (m_c (.int 99)) ma_nil))) ma_nil))))) ma_nil)) ma_nil))) (ma_cons (m_tup (ma_cons (m_tup (ma_cons (m_neg (m_c (.int 1))) (ma_cons (m_c (.int 10)) ma_nil))) (ma_cons (m_tup ma_nil) ma_nil))) (ma_cons (m_tup (ma_cons (m_tup (ma_cons (m_neg (m_c (.int 1))) (ma_cons (m_neg (m_c (.int 1))) ma_nil))) (ma_cons (m_tup ma_nil) ma_nil))) ma_nil))))))))
  (s_seq (s_setL 9 (mf_cat (m_var 9) (m_lst (ma_cons (m_tup (ma_cons (m_tup (ma_cons (m_neg (m_c (.int 1))) ma_nil)) (ma_cons (m_tup (ma_cons (m_tup (ma_cons (m_c (.int 0)) (ma_cons (m_c (.int 0)) (ma_cons (m_c (.str "")) (ma_cons (m_tup ma_nil) ma_nil))))) (ma_cons (m_tup (ma_cons (m_c (.int 0)) (ma_cons (m_c (.int 0)) (ma_cons (m_c (.str "")) (ma_cons (m_tup ma_nil) ma_nil))))) (ma_cons (m_tup (ma_cons (m_c (.int 0)) (ma_cons (m_c (.int 1)) (ma_cons (m_c (.str "")) (ma_cons (m_tup ma_nil) ma_nil))))) ma_nil)))) ma_nil))) (ma_cons (m_tup (ma_cons (m_tup (ma_cons (m_neg (m_c (.int 1))) ma_nil)) (ma_cons (m_tup (ma_cons (m_tup (ma_cons (m_c (.int 0)) (ma_cons (m_c (.int 0)) (ma_cons (m_c (.str "aa")) (ma_cons (m_tup ma_nil) ma_nil))))) ma_nil)) ma_nil))) ma_nil)))))
  (s_seq (s_app 9 (m_tup (ma_cons (m_c .non) (ma_cons (m_c .non) ma_nil))))
  (s_seq (s_asg (g_name 9) (m_op addD (m_var 9) (m_lst (ma_cons (m_tup (ma_cons (m_tup (ma_cons (m_neg (m_c (.int 1))) ma_nil)) (ma_cons (m_tup (ma_cons (m_tup (ma_cons (m_c (.int 0)) (ma_cons (m_c (.int 0)) (ma_cons (m_c (.str "")) (ma_cons (m_tup (ma_cons (m_c (.int 100)) ma_nil)) ma_nil))))) ma_nil)) ma_nil))) (ma_cons (m_tup (ma_cons (m_tup (ma_cons (m_neg (m_c (.int 1))) ma_nil)) (ma_cons (m_tup (ma_cons (m_tup (ma_cons (m_c (.int 0)) (ma_cons (m_c (.int 0)) (ma_cons (m_c (.str "")) (ma_cons (m_tup (ma_cons (m_c (.int 1)) (ma_cons (m_c (.int 0)) ma_nil))) ma_nil))))) ma_nil)) ma_nil))) (ma_cons (m_tup (ma_cons (m_tup (ma_cons (m_c (.bl true)) ma_nil)) (ma_cons (m_tup ma_nil) ma_nil))) (ma_cons (m_tup (ma_cons (m_tup (ma_cons (m_neg (m_c (.int 1))) (ma_cons (m_c (.bl true)) ma_nil))) (ma_cons (m_tup ma_nil) ma_nil))) ma_nil)))))))
  (s_ret (m_cmp eqG (m_fz (mf_lc (mi_of (m_var 9)) [4] (g_name 4) (mt_not (m_tr (m_call 3 F__law_right (ma_cons (m_op ixD (m_var 4) (m_c (.int 0))) (ma_cons (m_op ixD (m_var 4) (m_c (.int 1))) (ma_cons (m_c (.bl false)) ma_nil)))))) (m_var 4))) (m_lst ma_nil)))))))))
def F_law : List D → Sto → Option (R D × Sto) := runD 10 B_law
theorem ok_law {f : Addr} {fd : FuncData} (F : Fun K "law" "law" s_law f fd) (T : T1 K mg ad) (G__law_deck : Cal P wo K mg base (L2.CX P wo) 1 "_law_deck" (spD K mg 1 F__law_deck)) (G__law_caller : Cal P wo K mg base (L2.CX P wo) 3 "_law_caller" (spD K mg 1 F__law_caller)) (G__law_right : Cal P wo K mg base (L2.CX P wo) 9 "_law_right" (spD K mg 3 F__law_right)) (G__law_draw : Cal P wo K mg base (L2.CX P wo) 1 "_law_draw" (spD K mg 2 F__law_draw)) (G__law_bent : Cal P wo K mg base (L2.CX P wo) 7 "_law_bent" (spD K mg 3 (F__law_bent 4))) (G__law_due : Cal P wo K mg base (L2.CX P wo) 3 "_law_due" (spD K mg 2 F__law_due)) (G__law_heard : Cal P wo K mg base (L2.CX P wo) 8 "_law_heard" (spD K mg 3 F__law_heard)) (Q_Guest : OwnQ P wo K mg base (L2.CX P wo) 1 "Guest" (spD K mg 2 F_Guest_eq)) (hs : Sys base) : FnG P wo K mg base (L2.CX P wo) 10 f fd ["_law_script"] (spD K mg 1 F_law) :=
  fnD F sc_law fun cdv A out s H E w0 hq hr =>
  (pds_cons (pds_set (i := 1) (ps_set (i := 1) sc_law.nd rfl (Or.inl rfl) (pd_call G__law_deck hq hr (by decide) rfl takesCx (pda_cons (pd_var (pv 0)) pda_nil))) (by intro zi h; first | (cases h; done) | (cases h; simp)))
  (pds_cons (pds_for passesCx rfl (pdi_range1 rfl T.b_range (pda_cons pd_int pda_nil)) (pdg_name (i := 2) (pg_name (i := 2) sc_law.nd rfl (Or.inl rfl)) (by intro zi h; first | (cases h; done) | (cases h; simp))) (pds_cons (pds_set (i := 3) (ps_set (i := 3) sc_law.nd rfl (Or.inl rfl) (pd_call G__law_caller hq hr (by decide) rfl takesCx (pda_cons (pd_var (pv 1)) pda_nil))) (by intro zi h; first | (cases h; done) | (cases h; simp)))
  (pds_cons (pds_set (i := 4) (ps_set (i := 4) sc_law.nd rfl (Or.inl rfl) (pd_tup (pda_cons (pd_dget (HU hr) (pd_var (pv 3)) pd_str (fun _ _ => rfl)) (pda_cons (pd_dget (HU hr) (pd_var (pv 3)) pd_str (fun _ _ => rfl)) pda_nil)))) (by intro zi h; first | (cases h; done) | (cases h; simp)))
  (pds_cons (pds_if (pdt_not (pdt_val (pd_call G__law_right hq hr (by decide) rfl takesCx (pda_cons (pd_ixD (pd_var (pv 4)) pd_int (fun _ _ => rfl)) (pda_cons (pd_ixD (pd_var (pv 4)) pd_int (fun _ _ => rfl)) (pda_cons (pd_cmp (op_eqG hr.units) c2_eqG (pd_mod (pd_var (pv 2)) pd_int) pd_int (nomark _)) pda_nil)))))) (pds_onE (pds_ret pd_bl)) pds_nil)
  (pds_cons (pds_set (i := 5) (ps_set (i := 5) sc_law.nd rfl (Or.inl rfl) (pd_var (pv 4))) (by intro zi h; first | (cases h; done) | (cases h; simp)))
  (pds_cons (pds_for passesCx rfl (pdi_range1 rfl T.b_range (pda_cons (pd_add pd_int (pd_call G__law_draw hq hr (by decide) rfl takesCx (pda_cons (pd_var (pv 1)) (pda_cons pd_int pda_nil)))) pda_nil)) (pdg_name (i := 6) (pg_name (i := 6) sc_law.nd rfl (Or.inl rfl)) (by intro zi h; first | (cases h; done) | (cases h; simp))) (pds_cons (pds_set (i := 7) (ps_set (i := 7) sc_law.nd rfl (Or.inl rfl) (pd_call G__law_draw hq hr (by decide) rfl takesCx (pda_cons (pd_var (pv 1)) (pda_cons pd_int pda_nil)))) (by intro zi h; first | (cases h; done) | (cases h; simp)))
  (pds_onE (pds_set (i := 5) (ps_set (i := 5) sc_law.nd rfl (Or.inl rfl) (pd_add (pd_add (pd_slice (pd_var (pv 5)) pdo_none (pdo_some (pd_var (pv 7)))) (pd_tup (pda_cons (pd_call G__law_bent hq hr (by decide) rfl takesCx (pda_cons (pd_var (pv 1)) (pda_cons (pd_ixD (pd_var (pv 5)) (pd_var (pv 7)) (fun _ _ => rfl)) (pda_cons pd_int pda_nil)))) pda_nil))) (pd_slice (pd_var (pv 5)) (pdo_some (pd_add (pd_var (pv 7)) pd_int)) pdo_none))) (by intro zi h; first | (cases h; done) | (cases h; simp))))))
  (pds_cons (pds_if (pdt_not (pdt_val (pd_call G__law_right hq hr (by decide) rfl takesCx (pda_cons (pd_ixD (pd_var (pv 5)) pd_int (fun _ _ => rfl)) (pda_cons (pd_ixD (pd_var (pv 5)) pd_int (fun _ _ => rfl)) (pda_cons (pd_cmp (op_eqG hr.units) c2_eqG (pd_mod (pd_var (pv 2)) pd_int) pd_int (nomark _)) pda_nil)))))) (pds_onE (pds_ret pd_bl)) pds_nil)
  (pds_onE (pds_if (pdt_cmp (op_eqG hr.units) c2_eqG (pd_call G__law_due hq hr (by decide) rfl takesCx (pda_cons (pd_ixD (pd_var (pv 5)) pd_int (fun _ _ => rfl)) (pda_cons (pd_ixD (pd_var (pv 5)) pd_int (fun _ _ => rfl)) pda_nil))) (pd_lst pda_nil) (nomark _)) (pds_cons (pds_set (i := 8) (ps_set (i := 8) sc_law.nd rfl (Or.inl rfl) (pd_cmp (op_eqG hr.units) c2_eqG (pd_callB (call_repr hq hr.units hs) oa_repr rfl T.b_repr (by decide +kernel) (pda_cons (pd_var (pv 5)) pda_nil)) (pd_callB (call_repr hq hr.units hs) oa_repr rfl T.b_repr (by decide +kernel) (pda_cons (pd_var (pv 4)) pda_nil)) (nomark _))) (by intro zi h; first | (cases h; done) | (cases h; simp)))
  (pds_onE (pds_if (pdt_cmp (op_neG hr.units) c2_neG (pd_eqO T.cl (by simp) Q_Guest hq hr (by decide) takesCx (pd_call G__law_heard hq hr (by decide) rfl takesCx (pda_cons (pd_ixD (pd_var (pv 5)) pd_int (fun _ _ => rfl)) (pda_cons (pd_ixD (pd_var (pv 5)) pd_int (fun _ _ => rfl)) (pda_cons pd_bl pda_nil)))) (pd_call G__law_heard hq hr (by decide) rfl takesCx (pda_cons (pd_ixD (pd_var (pv 4)) pd_int (fun _ _ => rfl)) (pda_cons (pd_ixD (pd_var (pv 4)) pd_int (fun _ _ => rfl)) (pda_cons pd_bl pda_nil))))) (pd_var (pv 8)) (nomark _)) (pds_onE (pds_ret pd_bl)) pds_nil))) pds_nil)))))))))
  (pds_cons (pds_set (i := 9) (ps_set (i := 9) sc_law.nd rfl (Or.inl rfl) (pd_lst (pda_cons (pd_tup (pda_cons (pd_tup (pda_cons (pd_neg pd_int) pda_nil)) (pda_cons (pd_tup pda_nil) pda_nil))) (pda_cons (pd_tup (pda_cons (pd_tup (pda_cons pd_int pda_nil)) (pda_cons (pd_tup pda_nil) pda_nil))) (pda_cons (pd_tup (pda_cons (pd_tup pda_nil) (pda_cons (pd_tup pda_nil) pda_nil))) (pda_cons (pd_tup (pda_cons (pd_tup (pda_cons (pd_neg pd_int) (pda_cons pd_int pda_nil))) (pda_cons (pd_tup (pda_cons (pd_tup (pda_cons pd_int (pda_cons pd_int (pda_cons pd_str (pda_cons (pd_tup (pda_cons pd_int (pda_cons pd_int pda_nil))) pda_nil))))) pda_nil)) pda_nil))) (pda_cons (pd_tup (pda_cons (pd_tup (pda_cons (pd_neg pd_int) (pda_cons pd_int pda_nil))) (pda_cons (pd_tup pda_nil) pda_nil))) (pda_cons (pd_tup (pda_cons (pd_tup (pda_cons (pd_neg pd_int) (pda_cons (pd_neg pd_int) pda_nil))) (pda_cons (pd_tup pda_nil) pda_nil))) pda_nil)))))))) (by intro zi h; first | (cases h; done) | (cases h; simp)))
  (pds_cons (pds_setL (i := 9) (ps_set (i := 9) sc_law.nd rfl (Or.inl rfl) (pf_cat (pd_var (pv 9)) (pd_lst (pda_cons (pd_tup (pda_cons (pd_tup (pda_cons (pd_neg pd_int) pda_nil)) (pda_cons (pd_tup (pda_cons (pd_tup (pda_cons pd_int (pda_cons pd_int (pda_cons pd_str (pda_cons (pd_tup pda_nil) pda_nil))))) (pda_cons (pd_tup (pda_cons pd_int (pda_cons pd_int (pda_cons pd_str (pda_cons (pd_tup pda_nil) pda_nil))))) (pda_cons (pd_tup (pda_cons pd_int (pda_cons pd_int (pda_cons pd_str (pda_cons (pd_tup pda_nil) pda_nil))))) pda_nil)))) pda_nil))) (pda_cons (pd_tup (pda_cons (pd_tup (pda_cons (pd_neg pd_int) pda_nil)) (pda_cons (pd_tup (pda_cons (pd_tup (pda_cons pd_int (pda_cons pd_int (pda_cons pd_str (pda_cons (pd_tup pda_nil) pda_nil))))) pda_nil)) pda_nil))) pda_nil))))) (by intro zi h; first | (cases h; done) | (cases h; simp)))
  (pds_cons (pds_app (i := 9) (xp := ⟨0, 0, 0, 0⟩) (pv 9) (pd_tup (pda_cons pd_non (pda_cons pd_non pda_nil))) (fun te => ps_expr (pe_bm PySem.F.plainAttrs_list PySem.F.slot_list_append PySem.F.type_list_append mt_append (pv 9) (pa_cons te pa_nil))))
  (pds_cons (pds_set (i := 9) (ps_set (i := 9) sc_law.nd rfl (Or.inl rfl) (pd_add (pd_var (pv 9)) (pd_lst (pda_cons (pd_tup (pda_cons (pd_tup (pda_cons (pd_neg pd_int) pda_nil)) (pda_cons (pd_tup (pda_cons (pd_tup (pda_cons pd_int (pda_cons pd_int (pda_cons pd_str (pda_cons (pd_tup (pda_cons pd_int pda_nil)) pda_nil))))) pda_nil)) pda_nil))) (pda_cons (pd_tup (pda_cons (pd_tup (pda_cons (pd_neg pd_int) pda_nil)) (pda_cons (pd_tup (pda_cons (pd_tup (pda_cons pd_int (pda_cons pd_int (pda_cons pd_str (pda_cons (pd_tup (pda_cons pd_int (pda_cons pd_int pda_nil))) pda_nil))))) pda_nil)) pda_nil))) (pda_cons (pd_tup (pda_cons (pd_tup (pda_cons pd_bl pda_nil)) (pda_cons (pd_tup pda_nil) pda_nil))) (pda_cons (pd_tup (pda_cons (pd_tup (pda_cons (pd_neg pd_int) (pda_cons pd_bl pda_nil))) (pda_cons (pd_tup pda_nil) pda_nil))) pda_nil))))))) (by intro zi h; first | (cases h; done) | (cases h; simp)))
  (pds_onE (pds_ret (pd_cmp (op_eqG hr.units) c2_eqG (pd_pf (pf_lc (own := [("_law_lot_now", 4)]) rfl sc_law.nd (pdi_any (pd_var (pv 9))) (blkOk_by (own := [("_law_lot_now", 4)]) (N := N_law) (sc := defScope s_law) (by decide +kernel)) (fun _ _ _ _ _ => (pdg_name (i := 4) (pg_name (i := 4) sc_law.nd rfl (Or.inl rfl)) (by intro zi h; cases h))) (fun _ _ _ _ _ => (pdts_one (pdt_not (pdt_val (pd_call G__law_right hq hr (by decide) rfl takesNo (pda_cons (pd_ixD (pd_var (pv 4)) pd_int (fun _ _ => rfl)) (pda_cons (pd_ixD (pd_var (pv 4)) pd_int (fun _ _ => rfl)) (pda_cons pd_bl pda_nil)))))))) (fun _ _ _ _ _ => (pd_var (pv 4))))) (pd_lst pda_nil) (nomark _))))))))))
end
end Lk56

/-! Running the models: what a model gives, step by step. -/
namespace Pd
open PySem L2
/-- m gives a value, and Q holds of it -/
def Wp {α : Type} (m : M α) (ρ : Rho) (S : Sto) (Q : α → Sto → Prop) : Prop := ∃ a S', m ρ S = some (.ok a, S') ∧ Q a S'
def SWp (m : SM) (ρ : Rho) (S : Sto) (Q : Fl → Rho → Sto → Prop) : Prop := ∃ fl ρ' S', m ρ S = some (fl, ρ', S') ∧ Q fl ρ' S'
abbrev FF := List D → Sto → Option (R D × Sto)
def FWp (F : FF) (ds : List D) (S : Sto) (Q : D → Sto → Prop) : Prop := ∃ d S', F ds S = some (.ok d, S') ∧ Q d S'
section
variable {α β : Type} {m : M α} {f : α → M β} {ρ : Rho} {S S' : Sto} {Q : α → Sto → Prop} {Q2 : β → Sto → Prop} {QD : D → Sto → Prop} {QB : Bool → Sto → Prop} {QL : List D → Sto → Prop} {QS : Fl → Rho → Sto → Prop} {ma mb me mo mk mv : M D} {mt mu : M Bool} {ms mi : M (List D)} {n : Nat} {F : FF} {d : D} {i : Nat} {a b : SM}
theorem Wp.mono {Q' : α → Sto → Prop} (h : Wp m ρ S Q) (k : ∀ a S', Q a S' → Q' a S') : Wp m ρ S Q' := let ⟨a, S', e, q⟩ := h; ⟨a, S', e, k a S' q⟩
theorem SWp.mono {Q' : Fl → Rho → Sto → Prop} (h : SWp a ρ S QS) (k : ∀ f ρ' S', QS f ρ' S' → Q' f ρ' S') : SWp a ρ S Q' := let ⟨f, ρ', S', e, q⟩ := h; ⟨f, ρ', S', e, k f ρ' S' q⟩
theorem FWp.mono {ds : List D} {Q' : D → Sto → Prop} (h : FWp F ds S QD) (k : ∀ a S', QD a S' → Q' a S') : FWp F ds S Q' := let ⟨a, S', e, q⟩ := h; ⟨a, S', e, k a S' q⟩
theorem wp_bind (h : Wp m ρ S fun a S1 => Wp (f a) ρ S1 Q2) : Wp (m.bind f) ρ S Q2 := by
  obtain ⟨a, S1, e, b, S2, e2, q⟩ := h
  exact ⟨b, S2, by unfold M.bind; rw [e]; exact e2, q⟩
theorem wp_lift {g : Rho → Sto → Option α} {x : α} (h : g ρ S = some x) (q : Q x S) : Wp (M.lift g) ρ S Q := ⟨x, S, by unfold M.lift; rw [h], q⟩
theorem wp_pure {x : α} (q : Q x S) : Wp (M.pure x) ρ S Q := ⟨x, S, rfl, q⟩
theorem wp_c (q : QD d S) : Wp (m_c d) ρ S QD := wp_pure q
theorem wp_var (h : ρ[i]? = some (.d d)) (q : QD d S) : Wp (m_var i) ρ S QD := wp_lift (by rw [h]) q
def OpQ (f : D → D → Option D) (ρ : Rho) (a b : D) (S : Sto) (Q : D → Sto → Prop) : Prop := ∃ a' b' d, rsv ρ S a = some a' ∧ rsv ρ S b = some b' ∧ f a' b' = some d ∧ Q d S
theorem op_q {f : D → D → Option D} {a b a' b' : D} (h1 : rsv ρ S a = some a') (h2 : rsv ρ S b = some b') (h3 : f a' b' = some d) (q : QD d S) : OpQ f ρ a b S QD := ⟨a', b', d, h1, h2, h3, q⟩
theorem wp_op {f : D → D → Option D} (h : Wp ma ρ S fun a S1 => Wp mb ρ S1 fun b S2 => OpQ f ρ a b S2 QD) : Wp (m_op f ma mb) ρ S QD := wp_bind (h.mono fun a S1 h => wp_bind (h.mono fun b S2 h => by
  obtain ⟨a', b', d, h1, h2, h3, q⟩ := h
  exact wp_lift (by rw [h1, h2]; exact h3) q))
def CmQ (f : D → D → Option Bool) (ρ : Rho) (a b : D) (S : Sto) (Q : Bool → Sto → Prop) : Prop := ∃ a' b' d, rsv ρ S a = some a' ∧ rsv ρ S b = some b' ∧ f a' b' = some d ∧ Q d S
theorem cm_q {f : D → D → Option Bool} {a b a' b' : D} {k : Bool} (h1 : rsv ρ S a = some a') (h2 : rsv ρ S b = some b') (h3 : f a' b' = some k) (q : QB k S) : CmQ f ρ a b S QB := ⟨a', b', k, h1, h2, h3, q⟩
theorem wp_cmpT {f : D → D → Option Bool} (h : Wp ma ρ S fun a S1 => Wp mb ρ S1 fun b S2 => CmQ f ρ a b S2 QB) : Wp (m_cmpT f ma mb) ρ S QB := wp_bind (h.mono fun a S1 h => wp_bind (h.mono fun b S2 h => by
  obtain ⟨a', b', d, h1, h2, h3, q⟩ := h
  exact wp_lift (by rw [h1, h2]; exact h3) q))
theorem wp_cmp {f : D → D → Option Bool} (h : Wp ma ρ S fun a S1 => Wp mb ρ S1 fun b S2 => CmQ f ρ a b S2 fun k S3 => QD (.bl k) S3) : Wp (m_cmp f ma mb) ρ S QD := wp_op (h.mono fun a S1 h => h.mono fun b S2 h => by
  obtain ⟨a', b', d, h1, h2, h3, q⟩ := h
  exact ⟨a', b', .bl d, h1, h2, by dsimp only; rw [h3]; rfl, q⟩)
theorem wp_dget (h : Wp mo ρ S fun o S1 => Wp mk ρ S1 fun k S2 => ∃ o' d, rsv ρ S2 o = some o' ∧ dgetD o' k = some d ∧ QD d S2) : Wp (m_dget mo mk) ρ S QD := wp_bind (h.mono fun a S1 h => wp_bind (h.mono fun b S2 h => by
  obtain ⟨o', d, h1, h2, q⟩ := h
  exact wp_lift (by rw [h1]; exact h2) q))
theorem wp_cb {f : List D → Option D} (h : Wp ms ρ S fun ds S1 => ∃ ds' d, rsvA ρ S1 ds = some ds' ∧ f ds' = some d ∧ QD d S1) : Wp (m_cb f ms) ρ S QD := wp_bind (h.mono fun ds S1 h => by
  obtain ⟨ds', d, h1, h2, q⟩ := h
  exact wp_lift (by rw [h1]; exact h2) q)
theorem wp_nil (q : QL [] S) : Wp ma_nil ρ S QL := wp_pure q
theorem wp_cons (h : Wp me ρ S fun d S1 => Wp ms ρ S1 fun ds S2 => QL (d :: ds) S2) : Wp (ma_cons me ms) ρ S QL := wp_bind (h.mono fun d S1 h => wp_bind (h.mono fun ds S2 h => wp_pure h))
theorem wp_call (h : Wp ms ρ S fun ds S1 => ds.all fixed = true ∧ ds.length = n ∧ FWp F ds S1 QD) : Wp (m_call n F ms) ρ S QD := wp_bind (h.mono fun ds S1 h => by
  obtain ⟨h1, h2, d, S', e, q⟩ := h
  exact ⟨d, S', by dsimp only; rw [if_pos ⟨h1, h2⟩]; exact e, q⟩)
theorem wp_if (h : Wp mt ρ S fun k S1 => Wp (if k = true then ma else mb) ρ S1 QD) : Wp (m_if mt ma mb) ρ S QD := wp_bind h
theorem wt_and (h : Wp mt ρ S fun k S1 => Wp (if k = true then mu else M.pure false) ρ S1 QB) : Wp (mt_and mt mu) ρ S QB := wp_bind h
theorem wt_or (h : Wp mt ρ S fun k S1 => Wp (if k = true then M.pure true else mu) ρ S1 QB) : Wp (mt_or mt mu) ρ S QB := wp_bind h
theorem wt_not (h : Wp mt ρ S fun k S1 => QB (!k) S1) : Wp (mt_not mt) ρ S QB := wp_bind (h.mono fun k S1 h => wp_pure h)
theorem wt_tr (h : Wp me ρ S fun d S1 => ∃ d' k, rsv ρ S1 d = some d' ∧ truth d' = some k ∧ QB k S1) : Wp (m_tr me) ρ S QB := wp_bind (h.mono fun d S1 h => by
  obtain ⟨d', k, h1, h2, q⟩ := h
  exact wp_lift (by rw [h1]; exact h2) q)
theorem wp_tup (h : Wp ms ρ S fun ds S1 => ds.all fixed = true ∧ ds.length ≤ sizeLine ∧ QD (.tup ds) S1) : Wp (m_tup ms) ρ S QD := wp_bind (h.mono fun ds S1 h => wp_lift (if_pos ⟨h.1, h.2.1⟩) h.2.2)
theorem wp_lst (h : Wp ms ρ S fun ds S1 => ds.all fixed = true ∧ ds.length ≤ sizeLine ∧ QD (.lst ds) S1) : Wp (m_lst ms) ρ S QD := wp_bind (h.mono fun ds S1 h => wp_lift (if_pos ⟨h.1, h.2.1⟩) h.2.2)
theorem wp_fz (h : Wp ms ρ S fun ds S1 => QD (.lst ds) S1) : Wp (m_fz ms) ρ S QD := wp_bind (h.mono fun ds S1 h => wp_pure h)
theorem wp_opop {k : Nat} {ds : List D} (h : Wp mo ρ S fun o S1 => ∃ k ds d, o = .own k ∧ S1[k]? = some (.lst ds) ∧ ds[ds.length - 1]? = some d ∧ QD d (S1.set k (.lst ds.dropLast))) : Wp (m_opop mo) ρ S QD := wp_bind (h.mono fun o S1 h => by
  obtain ⟨k, ds, d, rfl, h1, h2, q⟩ := h
  exact ⟨d, _, by dsimp only; rw [h1]; dsimp only; rw [h2], q⟩)
theorem wp_oapp (h : Wp mo ρ S fun o S1 => ∃ k ds, o = .own k ∧ S1[k]? = some (.lst ds) ∧ Wp me ρ S1 fun d S2 => ∃ es, S2[k]? = some (.lst es) ∧ fixed d = true ∧ es.length < sizeLine ∧ QD .non (S2.set k (.lst (es ++ [d])))) : Wp (m_oapp mo me) ρ S QD := wp_bind (h.mono fun o S1 h => by
  obtain ⟨k, ds, rfl, h1, h2⟩ := h
  refine wp_bind (wp_lift (x := k) (by dsimp only; rw [h1]) (wp_bind (h2.mono fun d S2 h => ?_)))
  obtain ⟨es, h3, h4, h5, q⟩ := h
  exact ⟨.non, _, by dsimp only; rw [h3]; dsimp only; rw [if_pos ⟨h4, h5⟩], q⟩)
theorem wp_pub (h : Wp ms ρ S fun ds S1 => QD (.own S1.length) (S1 ++ [.lst ds])) : Wp (m_pub ms) ρ S QD := wp_bind (h.mono fun ds S1 h => ⟨_, _, rfl, h⟩)
theorem wp_rev (h : Wp me ρ S fun d S1 => ∃ ds, rsv ρ S1 d = some (.lst ds) ∧ QL ds.reverse S1) : Wp (mf_rev me) ρ S QL := wp_bind (h.mono fun d S1 h => by
  obtain ⟨ds, h1, q⟩ := h
  exact wp_lift (by rw [h1]) q)
theorem wp_slice {ml mh : M (Option Int)} (h : Wp me ρ S fun d S1 => Wp ml ρ S1 fun lo S2 => Wp mh ρ S2 fun hi S3 => ∃ d' r, rsv ρ S3 d = some d' ∧ sliceD lo hi d' = some r ∧ QD r S3) : Wp (m_slice me ml mh) ρ S QD :=
  wp_bind (h.mono fun d S1 h => wp_bind (h.mono fun lo S2 h => wp_bind (h.mono fun hi S3 h => by
    obtain ⟨d', r, h1, h2, q⟩ := h
    exact wp_lift (by rw [h1]; exact h2) q)))
theorem wo_none {Q : Option Int → Sto → Prop} (q : Q none S) : Wp mo_none ρ S Q := wp_pure q
theorem wo_some {Q : Option Int → Sto → Prop} (h : Wp me ρ S fun d S1 => ∃ i, d = .int i ∧ Q (some i) S1) : Wp (mo_some me) ρ S Q := wp_bind (h.mono fun d S1 h => by
  obtain ⟨i, rfl, q⟩ := h
  exact wp_lift rfl q)
theorem wi_of (h : Wp me ρ S fun d S1 => ∃ ds, items d = some ds ∧ QL ds S1) : Wp (mi_of me) ρ S QL := wp_bind (h.mono fun d S1 h => by
  obtain ⟨ds, h1, q⟩ := h
  exact wp_lift h1 q)
/-! ### statements -/
/-- what comes behind a statement -/
def NxQ (b : SM) (Q : Fl → Rho → Sto → Prop) (f : Fl) (ρ : Rho) (S : Sto) : Prop := match f with
  | .nx => SWp b ρ S Q
  | f => Q f ρ S
theorem sw_seq (h : SWp a ρ S (NxQ b QS)) : SWp (s_seq a b) ρ S QS := by
  obtain ⟨f, ρ1, S1, e, q⟩ := h
  unfold SWp s_seq
  rw [e]
  cases f with
  | nx => exact q
  | _ => exact ⟨_, _, _, rfl, q⟩
theorem sw_nx (q : QS .nx ρ S) : SWp s_nx ρ S QS := ⟨_, _, _, rfl, q⟩
theorem sw_toS {f : α → SM} (h : Wp m ρ S fun x S1 => SWp (f x) ρ S1 QS) : SWp (m.toS f) ρ S QS := by
  obtain ⟨x, S1, e, f', ρ', S', e2, q⟩ := h
  exact ⟨f', ρ', S', by unfold M.toS; rw [e]; exact e2, q⟩
theorem sw_ex (h : Wp me ρ S fun _ S1 => QS .nx ρ S1) : SWp (s_ex me) ρ S QS := sw_toS (h.mono fun _ S1 h => sw_nx h)
theorem sw_ret (h : Wp me ρ S fun d S1 => fixed d = true ∧ QS (.rt d) ρ S1) : SWp (s_ret me) ρ S QS := sw_toS (h.mono fun d S1 h => ⟨_, _, _, if_pos h.1, h.2⟩)
theorem sw_if (h : Wp mt ρ S fun k S1 => SWp (if k = true then a else b) ρ S1 QS) : SWp (s_if mt a b) ρ S QS := sw_toS h
theorem sw_asg {g : D → Rho → Option Rho} (h : Wp me ρ S fun d S1 => fixed d = true ∧ ∃ ρ', g d ρ = some ρ' ∧ QS .nx ρ' S1) : SWp (s_asg g me) ρ S QS := sw_toS (h.mono fun d S1 h => by
  obtain ⟨h1, ρ', h2, q⟩ := h
  exact ⟨_, ρ', _, by dsimp only; rw [if_pos h1, h2], q⟩)
theorem sw_par {j : Nat} (h : Wp ms ρ S fun ds S1 => ∃ a b, ds = [a, b] ∧ fixed a = true ∧ fixed b = true ∧ QS .nx ((ρ.set i (.d a)).set j (.d b)) S1) : SWp (s_par i j ms) ρ S QS := sw_toS (h.mono fun ds S1 h => by
  obtain ⟨a, b, rfl, h1, h2, q⟩ := h
  exact ⟨_, _, _, if_pos ⟨h1, h2⟩, q⟩)
theorem sw_oput (h : Wp mv ρ S fun d S1 => Wp mo ρ S1 fun o S2 => Wp mk ρ S2 fun k S3 => ∃ j key kvs, o = .own j ∧ keyOfD k = some key ∧ S3[j]? = some (.dct kvs) ∧ fixed d = true ∧ kvs.length < sizeLine ∧ QS .nx ρ (S3.set j (.dct (putD kvs key d)))) : SWp (s_oput mo mk mv) ρ S QS :=
  sw_toS (h.mono fun d S1 h => sw_toS (h.mono fun o S2 h => sw_toS (h.mono fun k S3 h => by
    obtain ⟨j, key, kvs, rfl, h1, h2, h3, h4, q⟩ := h
    exact ⟨_, _, _, by rw [h1]; dsimp only; rw [h2]; exact if_pos ⟨h3, h4⟩, q⟩)))
/-- a def's run -/
def RetQ (Q : D → Sto → Prop) (f : Fl) (_ : Rho) (S : Sto) : Prop := match f with
  | .nx => Q .non S
  | .rt d => Q d S
  | _ => False
theorem run_q {body : SM} {ds : List D} (h : SWp body (ds.map Sv.d ++ List.replicate (n - ds.length) .un) S (RetQ QD)) : FWp (runD n body) ds S QD := by
  obtain ⟨f, ρ', S', e, q⟩ := h
  unfold FWp runD
  rw [e]
  cases f with
  | nx => exact ⟨_, _, rfl, q⟩
  | rt d => exact ⟨_, _, rfl, q⟩
  | _ => exact q.elim
/-- a loop: P i holds ahead of the i-th turn -/
theorem for_q {g : D → Rho → Option Rho} {body : SM} {P : Nat → Rho → Sto → Prop} (Q : Fl → Rho → Sto → Prop) : ∀ (ds : List D) (i : Nat) {ρ : Rho} {S : Sto}, P i ρ S → (∀ j d ρ S, ds[j]? = some d → P (i + j) ρ S → ∃ ρ1, g d ρ = some ρ1 ∧ SWp body ρ1 S fun f ρ' S' => match f with
    | .nx => P (i + j + 1) ρ' S'
    | .ct => P (i + j + 1) ρ' S'
    | .bk => Q .nx ρ' S'
    | f => Q f ρ' S') → (∀ ρ S, P (i + ds.length) ρ S → Q .nx ρ S) → SWp (s_forD g body ds) ρ S Q
  | [], i, ρ, S, h0, _, hd => ⟨_, _, _, rfl, hd ρ S h0⟩
  | d :: ds, i, ρ, S, h0, hs, hd => by
    obtain ⟨ρ1, eg, f, ρ2, S2, e, q⟩ := hs 0 d ρ S rfl h0
    have rest : P (i + 1) ρ2 S2 → SWp (s_forD g body ds) ρ2 S2 Q := fun h1 => for_q Q ds (i + 1) h1 (fun j d' ρ' S' hj hP => by
      have := hs (j + 1) d' ρ' S' (by simpa using hj) (by rw [show i + (j + 1) = i + 1 + j by omega]; exact hP)
      rw [show i + (j + 1) + 1 = i + 1 + j + 1 by omega] at this
      exact this) fun ρ' S' hP => hd ρ' S' (by rw [List.length_cons, show i + (ds.length + 1) = i + 1 + ds.length by omega]; exact hP)
    unfold SWp
    simp only [s_forD, eg, e]
    cases f with
    | nx => exact rest q
    | ct => exact rest q
    | bk => exact ⟨_, _, _, rfl, q⟩
    | rt d => exact ⟨_, _, _, rfl, q⟩
    | er c fs => exact ⟨_, _, _, rfl, q⟩
theorem sw_for {g : D → Rho → Option Rho} {body : SM} (h : Wp mi ρ S fun ds S1 => SWp (s_forD g body ds) ρ S1 QS) : SWp (s_for mi g body) ρ S QS := sw_toS h
/-- a comprehension: P acc holds behind each item -/
theorem lc_q {vs : List Nat} {g : D → Rho → Option Rho} {P : List D → Sto → Prop} {Q : List D → Sto → Prop} : ∀ (ds acc : List D) {S : Sto}, P acc S → acc.length + ds.length ≤ sizeLine →
    (∀ d acc' S, d ∈ ds → acc'.length < acc.length + ds.length → P acc' S → ∃ ρ1, g d (wipeR ρ vs) = some ρ1 ∧ Wp mt ρ1 S fun k S1 => if k = true then Wp me ρ1 S1 fun y S2 => fixed y = true ∧ P (acc' ++ [y]) S2 else P acc' S1) → (∀ ys S, ys.length ≤ acc.length + ds.length → P ys S → Q ys S) →
    ∃ ys S', m_lcD vs g mt me ρ ds acc S = some (ys, S') ∧ Q ys S'
  | [], acc, S, h0, _, _, hd => ⟨acc, S, rfl, hd acc S (Nat.le_refl _) h0⟩
  | d :: ds, acc, S, h0, hz, hs, hd => by
    obtain ⟨ρ1, eg, k, S1, e1, q1⟩ := hs d acc S List.mem_cons_self (by simp) h0
    rw [List.length_cons] at hz
    simp only [m_lcD, eg, e1]
    cases k with
    | true =>
      rw [if_pos rfl] at q1
      obtain ⟨y, S2, e2, fy, q2⟩ := q1
      simp only [e2]
      rw [if_pos ⟨fy, by omega⟩]
      exact lc_q ds (acc ++ [y]) q2 (by simp; omega) (fun d' a s hd' hl' hp => hs d' a s (List.mem_cons_of_mem _ hd') (by simp at hl' ⊢; omega) hp) fun ys S hl hp => hd ys S (by simp at hl ⊢; omega) hp
    | false =>
      rw [if_neg Bool.false_ne_true] at q1
      exact lc_q ds acc q1 (by omega) (fun d' a s hd' hl' hp => hs d' a s (List.mem_cons_of_mem _ hd') (by simp at hl' ⊢; omega) hp) fun ys S hl hp => hd ys S (by simp at hl ⊢; omega) hp
theorem wp_lc {vs : List Nat} {g : D → Rho → Option Rho} (h : Wp mi ρ S fun ds S1 => ∃ ys S', m_lcD vs g mt me ρ ds [] S1 = some (ys, S') ∧ QL ys S') : Wp (mf_lc mi vs g mt me) ρ S QL := wp_bind (h.mono fun ds S1 h => by
  obtain ⟨ys, S', e, q⟩ := h
  exact ⟨ys, S', by dsimp only; rw [e], q⟩)
end
end Pd

/-! The draws of a deck. -/
namespace Pd
open PySem L2
abbrev keyC (x : Str) : Key := Sum.inr x
/-- a deck: its cells, a mixed number, the count of draws -/
abbrev deckS (kc km kd : Str) (rest : Sto) (cs : List Int) (m n : Int) : Sto := .lst (cs.map D.int) :: .dct [(keyC kc, .own 0), (keyC km, .int m), (keyC kd, .int n)] :: rest
structure Keys3 (kc km kd : Str) : Prop where
  cm : kc ≠ km
  cd : kc ≠ kd
  md : km ≠ kd
section
variable {kc km kd : Str} {cs : List Int} {m n : Int}
theorem key_ne {a b : Str} (h : a ≠ b) : ¬ (keyC a = keyC b) := fun z => h (Sum.inr.inj z)
theorem get_c : dgetD (.dct [(keyC kc, .own 0), (keyC km, .int m), (keyC kd, .int n)]) (.str kc) = some (.own 0) := by
  simp [dgetD, keyOfD, valD, keyC]
theorem get_m (h : Keys3 kc km kd) : dgetD (.dct [(keyC kc, .own 0), (keyC km, .int m), (keyC kd, .int n)]) (.str km) = some (.int m) := by
  simp [dgetD, keyOfD, valD, keyC, h.cm]
theorem get_d (h : Keys3 kc km kd) : dgetD (.dct [(keyC kc, .own 0), (keyC km, .int m), (keyC kd, .int n)]) (.str kd) = some (.int n) := by
  simp [dgetD, keyOfD, valD, keyC, h.cd, h.md]
theorem put_d (h : Keys3 kc km kd) (n' : Int) : putD [(keyC kc, .own 0), (keyC km, .int m), (keyC kd, .int n)] (.inr kd) (.int n') = [(keyC kc, .own 0), (keyC km, .int m), (keyC kd, .int n')] := by
  simp [putD, keyC, h.cd, h.md]
theorem py_ints : ∀ cs : List Int, pyA (cs.map D.int) = some (cs.map PyData.int)
  | [] => rfl
  | c :: cs => by
    have := py_ints cs
    simp [pyA, D.py, this]
end
/-- the draw of the first shape: eleven numbers stand in it -/
structure N1 where
  (a1 a2 a3 a4 a5 a6 a7 a8 a9 b1 b2 b3 : Int)
def B_draw1 (kc km kd : Str) (N : N1) : SM := (s_seq (s_oput (m_var 0) (m_c (.str kd)) (m_op addD (m_dget (m_var 0) (m_c (.str kd))) (m_c (.int 1))))
  (s_seq (s_par 2 3 (ma_cons (m_dget (m_var 0) (m_c (.str kd))) (ma_cons (m_dget (m_var 0) (m_c (.str km))) ma_nil)))
  (s_seq (s_if (m_cmpT neG (m_dget (m_var 0) (m_c (.str kc))) (m_lst ma_nil)) (s_seq (s_asg (g_name 4) (m_cb intOf (ma_cons (m_opop (m_dget (m_var 0) (m_c (.str kc)))) ma_nil)))
  (s_seq (s_if (m_cmpT geD (m_var 4) (m_op powD (m_c (.int 10)) (m_c (.int 18)))) (s_seq (s_ex (m_oapp (m_dget (m_var 0) (m_c (.str kc))) (m_op fdivD (m_var 4) (m_var 1))))
  (s_ret (m_op modD (m_var 4) (m_var 1)))) s_nx)
  (s_asg (g_name 3) (m_op addD (m_var 3) (m_op modD (m_var 4) (m_c (.int N.a1))))))) s_nx)
  (s_seq (s_asg (g_name 3) (m_op modD (m_op mulD (m_cb intOf (ma_cons (m_op addD (m_op addD (m_op modD (m_cb intOf (ma_cons (m_var 3) ma_nil)) (m_c (.int N.a2))) (m_op mulD (m_op mulD (m_c (.int N.a3)) (m_var 2)) (m_var 2))) (m_c (.int N.a4))) ma_nil)) (m_c (.int N.a5))) (m_c (.int N.a6))))
  (s_seq (s_asg (g_name 3) (m_op modD (m_cb intOf (ma_cons (m_op addD (m_op addD (m_op mulD (m_var 3) (m_var 3)) (m_op mulD (m_c (.int N.a7)) (m_var 2))) (m_c (.int N.a8))) ma_nil)) (m_c (.int N.a9))))
  (s_ret (m_op modD (m_op fdivD (m_op modD (m_cb intOf (ma_cons (m_op mulD (m_var 3) (m_c (.int N.b1))) ma_nil)) (m_c (.int N.b2))) (m_c (.int N.b3))) (m_var 1))))))))
structure N1.Ok (N : N1) : Prop where
  a1 : 0 < N.a1
  a2 : 0 < N.a2
  a3 : small64 N.a3 = true
  a5 : small64 N.a5 = true
  a6 : 0 < N.a6 ∧ N.a6 < 2 ^ 63
  a7 : small64 N.a7 = true
  a9 : 0 < N.a9 ∧ N.a9 < 2 ^ 63
  b2 : 0 < N.b2
  b3 : 0 < N.b3 ∧ N.b3 < 1073741824
theorem sm64 {i : Int} (h0 : 0 ≤ i) (h1 : i < 2 ^ 63) : small64 i = true := by
  simp only [small64, Bool.and_eq_true, decide_eq_true_eq]
  omega
theorem mod_r {i j : Int} (h : 0 < j) : modD (.int i) (.int j) = some (.int (i % j)) := by simp [modD, intD, h]
theorem mul_r {i j : Int} (h : (small64 i || small64 j) = true) : mulD (.int i) (.int j) = some (.int (i * j)) := by simp only [mulD, intD, if_pos h]; rfl
theorem fdiv_r {i j : Int} (h : 0 < j ∧ j < 1073741824) : fdivD (.int i) (.int j) = some (.int (i / j)) := by simp [fdivD, intD, h]
/-- what a draw below b leaves -/
def Drawn (kc km kd : Str) (rest : Sto) (n b : Int) (d : D) (S : Sto) : Prop := ∃ i cs m, d = .int i ∧ 0 ≤ i ∧ i < b ∧ cs.length ≤ 63 ∧ S = deckS kc km kd rest cs m (n + 1)
theorem tail1 {kc km kd : Str} {rest : Sto} {N : N1} (ok : N.Ok) {cs : List Int} {m n b f : Int} {c : Sv} (hb : 0 < b) (hn : 0 ≤ n) (hn2 : n < 2 ^ 62) (hl : cs.length ≤ 63) :
    SWp (s_seq (s_asg (g_name 3) (m_op modD (m_op mulD (m_cb intOf (ma_cons (m_op addD (m_op addD (m_op modD (m_cb intOf (ma_cons (m_var 3) ma_nil)) (m_c (.int N.a2))) (m_op mulD (m_op mulD (m_c (.int N.a3)) (m_var 2)) (m_var 2))) (m_c (.int N.a4))) ma_nil)) (m_c (.int N.a5))) (m_c (.int N.a6))))
  (s_seq (s_asg (g_name 3) (m_op modD (m_cb intOf (ma_cons (m_op addD (m_op addD (m_op mulD (m_var 3) (m_var 3)) (m_op mulD (m_c (.int N.a7)) (m_var 2))) (m_c (.int N.a8))) ma_nil)) (m_c (.int N.a9))))
  (s_ret (m_op modD (m_op fdivD (m_op modD (m_cb intOf (ma_cons (m_op mulD (m_var 3) (m_c (.int N.b1))) ma_nil)) (m_c (.int N.b2))) (m_c (.int N.b3))) (m_var 1)))))
      [.d (.own 1), .d (.int b), .d (.int (n + 1)), .d (.int f), c] (deckS kc km kd rest cs m (n + 1)) (RetQ (Drawn kc km kd rest n b)) := by
  have s1 : small64 (n + 1) = true := sm64 (by omega) (by omega)
  refine sw_seq (sw_asg (wp_op (wp_op (wp_cb (wp_cons (wp_op (wp_op (wp_op (wp_cb (wp_cons (wp_var rfl (wp_nil ⟨_, _, rfl, rfl, wp_c (op_q rfl rfl (mod_r ok.a2) ?_)⟩))))))))))))
  refine wp_op (wp_op (wp_c (wp_var rfl (op_q rfl rfl (mul_r (by rw [ok.a3]; rfl)) ?_))))
  refine wp_var rfl (op_q rfl rfl (mul_r (by rw [s1, Bool.or_true])) ?_)
  refine op_q rfl rfl rfl (wp_c (op_q rfl rfl rfl (wp_nil ⟨_, _, rfl, rfl, ?_⟩)))
  refine wp_c (op_q rfl rfl (mul_r (by rw [ok.a5, Bool.or_true])) (wp_c (op_q rfl rfl (mod_r ok.a6.1) ⟨rfl, _, rfl, ?_⟩)))
  generalize hf : ((((f % N.a2 + N.a3 * (n + 1) * (n + 1)) + N.a4) * N.a5) % N.a6) = f1
  have f0 : 0 ≤ f1 := by rw [← hf]; exact Int.emod_nonneg _ (by have := ok.a6.1; omega)
  have f2 : f1 < 2 ^ 63 := by have := Int.emod_lt_of_pos (((f % N.a2 + N.a3 * (n + 1) * (n + 1)) + N.a4) * N.a5) ok.a6.1; have := ok.a6.2; omega
  refine sw_seq (sw_asg (wp_op (wp_cb (wp_cons (wp_op (wp_op (wp_op (wp_var rfl (wp_var rfl (op_q rfl rfl (mul_r (by rw [sm64 f0 f2]; rfl)) ?_)))))))))) 
  refine wp_op (wp_c (wp_var rfl (op_q rfl rfl (mul_r (by rw [ok.a7]; rfl)) ?_)))
  refine op_q rfl rfl rfl (wp_c (op_q rfl rfl rfl (wp_nil ⟨_, _, rfl, rfl, wp_c (op_q rfl rfl (mod_r ok.a9.1) ⟨rfl, _, rfl, ?_⟩)⟩)))
  generalize hg : (f1 * f1 + N.a7 * (n + 1) + N.a8) % N.a9 = g1
  have g0 : 0 ≤ g1 := by rw [← hg]; exact Int.emod_nonneg _ (by have := ok.a9.1; omega)
  have g2 : g1 < 2 ^ 63 := by have := Int.emod_lt_of_pos (f1 * f1 + N.a7 * (n + 1) + N.a8) ok.a9.1; have := ok.a9.2; omega
  refine sw_ret (wp_op (wp_op (wp_op (wp_cb (wp_cons (wp_op (wp_var rfl (wp_c (op_q rfl rfl (mul_r (by rw [sm64 g0 g2]; rfl)) (wp_nil ⟨_, _, rfl, rfl, ?_⟩)))))))))) 
  refine wp_c (op_q rfl rfl (mod_r ok.b2) (wp_c (op_q rfl rfl (fdiv_r ok.b3) (wp_var rfl (op_q rfl rfl (mod_r hb) ⟨rfl, ?_⟩)))))
  exact ⟨_, cs, m, rfl, Int.emod_nonneg _ (by omega), Int.emod_lt_of_pos _ hb, hl, rfl⟩
theorem canLay_ints : ∀ ns : List Int, PyData.canLayAll0 (ns.map PyData.int) = true
  | [] => rfl
  | n :: ns => by
    show (PyData.canLay0 (.int n) && PyData.canLayAll0 (ns.map PyData.int)) = true
    rw [canLay_ints ns]
    rfl
theorem depth_ints : ∀ ns : List Int, PyData.depthAll (ns.map PyData.int) = 0
  | [] => rfl
  | n :: ns => by
    show max (PyData.depth (.int n)) (PyData.depthAll (ns.map PyData.int)) = 0
    rw [depth_ints ns]
    rfl
theorem shaped_ints (ns : List Int) : SeqAt.shaped (.list (ns.map PyData.int)) = true := by
  unfold SeqAt.shaped
  rw [show PyData.canLay0 (.list (ns.map PyData.int)) = true by simp only [PyData.canLay0]; exact canLay_ints ns, show PyData.depth (.list (ns.map PyData.int)) = 1 by simp only [PyData.depth]; rw [depth_ints]]
  rfl
theorem ne_nil (cs : List Int) : neG (.lst (cs.map D.int)) (.lst []) = some (!cs.isEmpty) := by cases cs <;> rfl
theorem draw1_q {kc km kd : Str} {rest : Sto} {N : N1} (ok : N.Ok) (ks : Keys3 kc km kd) {cs : List Int} {m n b : Int} (hb : 0 < b) (hb2 : b < 1073741824) (hn : 0 ≤ n) (hn2 : n < 2 ^ 62) (hl : cs.length ≤ 63) :
    FWp (runD 5 (B_draw1 kc km kd N)) [.own 1, .int b] (deckS kc km kd rest cs m n) (Drawn kc km kd rest n b) := by
  refine run_q ?_
  show SWp (B_draw1 kc km kd N) [.d (.own 1), .d (.int b), .un, .un, .un] _ _
  unfold B_draw1
  refine sw_seq (sw_oput (wp_op (wp_dget (wp_var rfl (wp_c ⟨_, _, rfl, get_d ks, ?_⟩)))))
  refine wp_c (op_q rfl rfl rfl (wp_var rfl (wp_c ⟨1, _, _, rfl, rfl, rfl, rfl, by show 3 < sizeLine; decide, ?_⟩)))
  rw [put_d ks]
  show SWp _ [.d (.own 1), .d (.int b), .un, .un, .un] (deckS kc km kd rest cs m (n + 1)) (RetQ (Drawn kc km kd rest n b))
  refine sw_seq (sw_par (wp_cons (wp_dget (wp_var rfl (wp_c ⟨_, _, rfl, get_d ks, ?_⟩)))))
  refine wp_cons (wp_dget (wp_var rfl (wp_c ⟨_, _, rfl, get_m ks, wp_nil ⟨_, _, rfl, rfl, rfl, ?_⟩⟩)))
  show SWp _ [.d (.own 1), .d (.int b), .d (.int (n + 1)), .d (.int m), .un] (deckS kc km kd rest cs m (n + 1)) (RetQ (Drawn kc km kd rest n b))
  refine sw_seq (sw_if (wp_cmpT (wp_dget (wp_var rfl (wp_c ⟨_, _, rfl, get_c, ?_⟩)))))
  refine wp_lst (wp_nil ⟨rfl, by decide, cm_q rfl rfl (ne_nil cs) ?_⟩)
  rcases List.eq_nil_or_concat cs with h | ⟨r, y, h⟩
  · subst h
    rw [if_neg (by simp)]
    exact sw_nx (tail1 ok hb hn hn2 hl)
  · rw [List.concat_eq_append] at h
    subst h
    rw [if_pos (by cases r <;> rfl)]
    have hr : r.length ≤ 62 := by simp at hl; omega
    refine sw_seq (sw_asg (wp_cb (wp_cons (wp_opop (k := 0) (ds := []) (wp_dget (wp_var rfl (wp_c ⟨_, _, rfl, get_c, ?_⟩)))))))
    refine ⟨0, (r ++ [y]).map D.int, .int y, rfl, rfl, by simp, wp_nil ⟨_, _, rfl, rfl, rfl, _, rfl, ?_⟩⟩
    have e : (deckS kc km kd rest (r ++ [y]) m (n + 1)).set 0 (.lst ((r ++ [y]).map D.int).dropLast) = deckS kc km kd rest r m (n + 1) := by simp [deckS]
    rw [e]
    show SWp _ [.d (.own 1), .d (.int b), .d (.int (n + 1)), .d (.int m), .d (.int y)] (deckS kc km kd rest r m (n + 1)) _
    refine sw_seq (sw_if (wp_cmpT (wp_var rfl (wp_op (wp_c (wp_c (op_q rfl rfl (d := .int (10 ^ 18)) (by rfl) (cm_q (k := decide (10 ^ 18 ≤ y)) rfl rfl rfl ?_))))))))
    by_cases c : (10 : Int) ^ 18 ≤ y
    · rw [if_pos (decide_eq_true c)]
      refine sw_seq (sw_ex (wp_oapp (wp_dget (wp_var rfl (wp_c ⟨_, _, rfl, get_c, ?_⟩)))))
      refine ⟨0, _, rfl, rfl, wp_op (wp_var rfl (wp_var rfl (op_q rfl rfl (fdiv_r ⟨hb, hb2⟩) ⟨_, rfl, rfl, by rw [List.length_map, sizeLine_eq]; omega, ?_⟩)))⟩
      have e : (deckS kc km kd rest r m (n + 1)).set 0 (.lst (r.map D.int ++ [.int (y / b)])) = deckS kc km kd rest (r ++ [y / b]) m (n + 1) := by simp [deckS]
      rw [e]
      refine sw_ret (wp_op (wp_var rfl (wp_var rfl (op_q rfl rfl (mod_r hb) ⟨rfl, ?_⟩))))
      exact ⟨_, r ++ [y / b], m, rfl, Int.emod_nonneg _ (by omega), Int.emod_lt_of_pos _ hb, by simp; omega, rfl⟩
    · rw [if_neg (by rw [decide_eq_false c]; exact Bool.false_ne_true)]
      refine sw_nx (sw_asg (wp_op (wp_var rfl (wp_op (wp_var rfl (wp_c (op_q rfl rfl (mod_r ok.a1) (op_q rfl rfl rfl ⟨rfl, _, rfl, ?_⟩))))))))
      exact tail1 ok hb hn hn2 (by omega)
end Pd

/-! Values that are small enough to be shown; picks. -/
namespace Pd
open PySem L2 Hg
/-- how much the parts of a value bear -/
def Bk : Nat → Nat
  | 0 => 60
  | k + 1 => 3 * (Bk k + 2)
/-- a datum at most k deep, of at most three parts each -/
structure Val (k : Nat) (d : D) : Prop where
  ex : ∃ p, d.py = some p ∧ p.showable = true ∧ p.depth ≤ k ∧ p.leavesShort 64 = true ∧ p.bulk ≤ Bk k
theorem Val.fix {k : Nat} {d : D} (h : Val k d) : fixed d = true := by
  obtain ⟨p, e, _⟩ := h.ex
  cases d <;> first | rfl | (simp [D.py] at e; done)
theorem Bk_pos : ∀ k, 60 ≤ Bk k
  | 0 => Nat.le_refl _
  | k + 1 => by have := Bk_pos k; show 60 ≤ 3 * (Bk k + 2); omega
theorem Val.up {k : Nat} {d : D} (h : Val k d) : Val (k + 1) d := by
  obtain ⟨p, e, h1, h2, h3, h4⟩ := h.ex
  exact ⟨p, e, h1, by omega, h3, by show _ ≤ 3 * (Bk k + 2); omega⟩
theorem Val.mono {k j : Nat} {d : D} (h : Val k d) (l : k ≤ j) : Val j d := by
  induction l with
  | refl => exact h
  | step _ ih => exact ih.up
theorem Bk_4 : Bk 4 = 5100 := by decide
/-- it is shown -/
theorem Val.repr {k : Nat} {d : D} (h : Val k d) (hk : k ≤ 4) : ∃ x, reprD [d] = some (.str x) := by
  obtain ⟨p, e, h1, h2, h3, h4⟩ := (h.mono hk).ex
  have l := PyData.shown_le_bulk 64 (by decide) p h3
  rw [Bk_4] at h4
  have hs : showsB p = true := by
    unfold showsB
    rw [h1, decide_eq_true (by omega), decide_eq_true (by rw [sizeLine_eq]; omega)]
    rfl
  exact ⟨p.shown, by simp only [reprD, e, hs, if_true]⟩
theorem val_all {k : Nat} : ∀ {ds : List D}, (∀ d ∈ ds, Val k d) → ∃ ps, pyA ds = some ps ∧ ps.length = ds.length ∧ PyData.showableAll ps = true ∧ PyData.depthAll ps ≤ k ∧ PyData.leavesShortAll 64 ps = true ∧ PyData.bulkAll ps ≤ (Bk k + 1) * ds.length
  | [], _ => ⟨[], by simp [pyA], rfl, rfl, Nat.zero_le _, rfl, Nat.zero_le _⟩
  | d :: ds, h => by
    obtain ⟨p, e, h1, h2, h3, h4⟩ := (h d List.mem_cons_self).ex
    obtain ⟨ps, e', l, g1, g2, g3, g4⟩ := val_all fun c hc => h c (List.mem_cons_of_mem _ hc)
    refine ⟨p :: ps, by simp [pyA, e, e'], by simp [l], by simp [PyData.showableAll, h1, g1], by simp only [PyData.depthAll]; omega, by simp [PyData.leavesShortAll, h3, g3], ?_⟩
    simp only [PyData.bulkAll, List.length_cons]
    have : (Bk k + 1) * (ds.length + 1) = (Bk k + 1) * ds.length + (Bk k + 1) := Nat.mul_succ _ _
    omega
theorem val_tup {k : Nat} {ds : List D} (hl : ds.length ≤ 3) (h : ∀ d ∈ ds, Val k d) : Val (k + 1) (.tup ds) := by
  obtain ⟨ps, e, l, g1, g2, g3, g4⟩ := val_all h
  refine ⟨.tuple ps, by simp only [D.py, e], by simpa only [PyData.showable] using g1, by simp only [PyData.depth]; omega, by simpa only [PyData.leavesShort] using g3, ?_⟩
  simp only [PyData.bulk]
  have : (Bk k + 1) * ds.length ≤ (Bk k + 1) * 3 := Nat.mul_le_mul_left _ hl
  show _ ≤ 3 * (Bk k + 2)
  omega
theorem val_lst {k : Nat} {ds : List D} (hl : ds.length ≤ 3) (h : ∀ d ∈ ds, Val k d) : Val (k + 1) (.lst ds) := by
  obtain ⟨ps, e, l, g1, g2, g3, g4⟩ := val_all h
  refine ⟨.list ps, by simp only [D.py, e], by simpa only [PyData.showable] using g1, by simp only [PyData.depth]; omega, by simpa only [PyData.leavesShort] using g3, ?_⟩
  simp only [PyData.bulk]
  have : (Bk k + 1) * ds.length ≤ (Bk k + 1) * 3 := Nat.mul_le_mul_left _ hl
  show _ ≤ 3 * (Bk k + 2)
  omega
theorem val_kv {k : Nat} : ∀ {kvs : List (Int × D)}, (∀ p ∈ kvs, (0 ≤ p.1 ∧ p.1 < 10) ∧ Val k p.2) → ∃ ps, pyK (kvs.map fun p => (Sum.inl p.1, p.2)) = some ps ∧ PyData.showableKv ((kvs.map fun p => keyD (Sum.inl p.1)).zip ps) = true ∧
    PyData.depthKv ((kvs.map fun p => keyD (Sum.inl p.1)).zip ps) ≤ k ∧ PyData.leavesShortKv 64 ((kvs.map fun p => keyD (Sum.inl p.1)).zip ps) = true ∧ PyData.bulkKv ((kvs.map fun p => keyD (Sum.inl p.1)).zip ps) ≤ (Bk k + 2) * kvs.length
  | [], _ => ⟨[], by simp [pyK], rfl, Nat.zero_le _, rfl, Nat.zero_le _⟩
  | (i, d) :: r, h => by
    obtain ⟨⟨i0, i1⟩, hv⟩ := h _ List.mem_cons_self
    obtain ⟨p, e, h1, h2, h3, h4⟩ := hv.ex
    obtain ⟨ps, e', g1, g2, g3, g4⟩ := val_kv fun c hc => h c (List.mem_cons_of_mem _ hc)
    have kd : keyD (Sum.inl i) = .int i := rfl
    have hi : ∃ n : Nat, i = n ∧ n < 10 := ⟨i.toNat, by omega, by omega⟩
    obtain ⟨n, rfl, hn⟩ := hi
    have s1 : PyData.showable (.int (n : Int)) = true ∧ PyData.leavesShort 64 (.int (n : Int)) = true := by
      have : ∀ m, m < 10 → PyData.showable (.int ((m : Nat) : Int)) = true ∧ PyData.leavesShort 64 (.int ((m : Nat) : Int)) = true := by decide +kernel
      exact this n hn
    refine ⟨p :: ps, by simp only [List.map_cons, pyK, e, e'], ?_, ?_, ?_, ?_⟩
    · simp only [List.map_cons, List.zip_cons_cons, PyData.showableKv, kd, s1.1, h1, g1, Bool.and_self]
    · simp only [List.map_cons, List.zip_cons_cons, PyData.depthKv, kd, PyData.depth]; omega
    · simp only [List.map_cons, List.zip_cons_cons, PyData.leavesShortKv, kd, s1.2, h3, g3, Bool.and_self]
    · simp only [List.map_cons, List.zip_cons_cons, PyData.bulkKv, kd, PyData.bulk, List.length_cons]
      have : (Bk k + 2) * (r.length + 1) = (Bk k + 2) * r.length + (Bk k + 2) := Nat.mul_succ _ _
      omega
theorem val_dct {k : Nat} {kvs : List (Int × D)} (hl : kvs.length ≤ 3) (h : ∀ p ∈ kvs, (0 ≤ p.1 ∧ p.1 < 10) ∧ Val k p.2) : Val (k + 1) (.dct (kvs.map fun p => (Sum.inl p.1, p.2))) := by
  obtain ⟨ps, e, g1, g2, g3, g4⟩ := val_kv h
  have em : (kvs.map fun p => ((Sum.inl p.1 : Key), p.2)).map (fun p => keyD p.1) = kvs.map fun p => keyD (Sum.inl p.1) := by rw [List.map_map]; rfl
  refine ⟨.dict ((kvs.map fun p => keyD (Sum.inl p.1)).zip ps), by simp only [D.py, e, em], by simpa only [PyData.showable] using g1, by simp only [PyData.depth]; omega, by simpa only [PyData.leavesShort] using g3, ?_⟩
  simp only [PyData.bulk]
  have : (Bk k + 2) * kvs.length ≤ (Bk k + 2) * 3 := Nat.mul_le_mul_left _ hl
  show _ ≤ 3 * (Bk k + 2)
  omega
theorem at_in {α : Type} {xs : List α} {i : Int} (h0 : 0 ≤ i) (h1 : i < xs.length) : ∃ x, atI xs i = some x ∧ x ∈ xs := by
  have hl : i.toNat < xs.length := by omega
  refine ⟨xs[i.toNat], ?_, List.getElem_mem hl⟩
  unfold atI ixN
  rw [if_pos h0, if_pos h1, Option.bind_some, List.getElem?_eq_getElem hl]
section
variable {ρ : Rho} {S : Sto} {QD : D → Sto → Prop} {QL : List D → Sto → Prop} {m : M D} {k : Str} {r ps : List (Str × M D)}
theorem wp_pnil (q : QL [] S) : Wp (m_pairs []) ρ S QL := wp_pure q
theorem wp_pcons (h : Wp m ρ S fun d S1 => Wp (m_pairs r) ρ S1 fun ds S2 => QL (d :: ds) S2) : Wp (m_pairs ((k, m) :: r)) ρ S QL := wp_bind (h.mono fun d S1 h => wp_bind (h.mono fun ds S2 h => wp_pure h))
theorem wp_dispO (h : Wp (m_pairs ps) ρ S fun ds S1 => ds.all fixed = true ∧ ps.length ≤ 15 ∧ QD (.own S1.length) (S1 ++ [.dct (mergeD [] ((ps.map fun p => (Sum.inr p.1 : Key)).zip ds))])) : Wp (m_dispO ps) ρ S QD := wp_bind (h.mono fun ds S1 h => ⟨_, _, if_pos ⟨h.1, h.2.1⟩, h.2.2⟩)
theorem wi_range1 {ms : M (List D)} (h : Wp ms ρ S fun ds S1 => ∃ j : Int, ds = [.int j] ∧ (-(2 ^ 62) ≤ j ∧ j < 2 ^ 62) ∧ QL (rangeD 0 j.toNat) S1) : Wp (mi_range1 ms) ρ S QL := wp_bind (h.mono fun ds S1 h => by
  obtain ⟨j, rfl, h1, q⟩ := h
  exact wp_lift (if_pos h1) q)
theorem wi_enum {ms : M (List D)} (h : Wp ms ρ S fun ds S1 => ∃ xs, (ds = [.lst xs] ∨ ds = [.tup xs]) ∧ QL (enumD xs) S1) : Wp (mi_enum ms) ρ S QL := wp_bind (h.mono fun ds S1 h => by
  obtain ⟨xs, h1, q⟩ := h
  rcases h1 with rfl | rfl
  · exact wp_lift rfl q
  · exact wp_lift rfl q)
end
theorem eq_int (i j : Int) : eqF (.int i) (.int j) = some (decide (i = j)) := by
  have h : eqF (.int i) (.int j) = some (PyData.eqv (.int i) (.int j)) := rfl
  rw [h]
  congr 1
end Pd

/-! Comprehensions and loops by rewriting; operations told. Rows with --r stand in the runner's list. -/
namespace Pd
open PySem L2
section
variable {α β : Type} {m : M α} {ρ ρ1 : Rho} {S S1 : Sto} {Q : α → Sto → Prop} {E : EQ} {QD : D → Sto → Prop} {QB : Bool → Sto → Prop} {QL : List D → Sto → Prop} {QS : Fl → Rho → Sto → Prop} {QR : Rho → Sto → Prop} {ma mb mc me mo mk mv : M D} {mt mu : M Bool} {ms mi : M (List D)} {n : Nat} {F : FFs} {d d' x y : D} {ds es acc : List D} {i j l : Nat} {a b : SM} {k : Bool} {c f : Str} {fs : List (Str × D)} {g : D → Rho → Option Rho} {vs : List Nat}
/-! ### one turn of a comprehension -/
def KT1 (me : M D) (ρ1 : Rho) (Q : Option D → Sto → Prop) (k : Bool) (S : Sto) : Prop := if k = true then WM me ρ1 S (fun y S => Q (some y) S) NoE else Q none S
def KT2 (Q : Option D → Sto → Prop) (y : D) (S : Sto) : Prop := Q (some y) S
def KT0 (mt : M Bool) (me : M D) (Q : Option D → Sto → Prop) (ρ1 : Rho) (S : Sto) : Prop := WM mt ρ1 S (KT1 me ρ1 Q) NoE
variable {QO : Option D → Sto → Prop}
theorem k_t1t : KT1 me ρ1 QO true S = WM me ρ1 S (KT2 QO) NoE := rfl --r
theorem k_t1f : KT1 me ρ1 QO false S = QO none S := rfl --r
theorem k_t2 : KT2 QO y S = QO (some y) S := rfl --r
theorem k_t0 : KT0 mt me QO ρ1 S = WM mt ρ1 S (KT1 me ρ1 QO) NoE := rfl --r
def Turn (vs : List Nat) (g : D → Rho → Option Rho) (mt : M Bool) (me : M D) (ρ : Rho) (x : D) (S : Sto) (Q : Option D → Sto → Prop) : Prop := OpR (g x (wipeR ρ vs)) S (KT0 mt me Q)
theorem turn_def : Turn vs g mt me ρ x S QO = OpR (g x (wipeR ρ vs)) S (KT0 mt me QO) := rfl --r
def KLr (vs : List Nat) (g : D → Rho → Option Rho) (mt : M Bool) (me : M D) (ρ : Rho) (ds acc : List D) (Q : List D → Sto → Prop) (r : Option D) (S : Sto) : Prop := match r with
  | some y => (Fx y ∧ acc.length < sizeLine) ∧ LC vs g mt me ρ ds (acc ++ [y]) S Q
  | none => LC vs g mt me ρ ds acc S Q
theorem lc_turn : LC vs g mt me ρ (d :: ds) acc S QL = Turn vs g mt me ρ d S (KLr vs g mt me ρ ds acc QL) := by
  rw [lc_cons]
  rfl
/-- each turn gives r of its item and leaves the store -/
theorem lc_pure (r : D → Option D) (h : ∀ x ∈ ds, ∀ Q, Turn vs g mt me ρ x S Q = Q (r x) S) (hf : ∀ x ∈ ds, ∀ y, r x = some y → Fx y) (hl : acc.length + ds.length ≤ sizeLine) :
    LC vs g mt me ρ ds acc S QL = QL (acc ++ ds.filterMap r) S := by
  induction ds generalizing acc with
  | nil => simp [lc_nil]
  | cons d ds ih =>
    rw [lc_turn, h d List.mem_cons_self]
    simp only [List.length_cons] at hl
    cases e : r d with
    | none =>
      show LC vs g mt me ρ ds acc S QL = _
      rw [ih (fun x hx => h x (List.mem_cons_of_mem _ hx)) (fun x hx => hf x (List.mem_cons_of_mem _ hx)) (by omega), List.filterMap_cons_none e]
    | some y =>
      show ((Fx y ∧ acc.length < sizeLine) ∧ LC vs g mt me ρ ds (acc ++ [y]) S QL) = _
      rw [ih (fun x hx => h x (List.mem_cons_of_mem _ hx)) (fun x hx => hf x (List.mem_cons_of_mem _ hx)) (by simp; omega), List.filterMap_cons_some e]
      have : acc.length < sizeLine := by omega
      simp [hf d List.mem_cons_self y e, this]
theorem fmap_some {f : D → D} : ds.filterMap (fun x => some (f x)) = ds.map f := by rw [← List.filterMap_eq_map]; rfl
theorem lc_map (f : D → D) (h : ∀ x ∈ ds, ∀ Q, Turn vs g mt me ρ x S Q = Q (some (f x)) S) (hf : ∀ x ∈ ds, Fx (f x)) (hl : acc.length + ds.length ≤ sizeLine) :
    LC vs g mt me ρ ds acc S QL = QL (acc ++ ds.map f) S := by
  rw [lc_pure (fun x => some (f x)) h (fun x hx y e => by cases e; exact hf x hx) hl, fmap_some]
/-- each turn keeps some of its items -/
theorem lc_filter (t : D → Bool) (h : ∀ x ∈ ds, ∀ Q, Turn vs g mt me ρ x S Q = Q (if t x = true then some x else none) S) (hf : ∀ x ∈ ds, Fx x) (hl : acc.length + ds.length ≤ sizeLine) :
    LC vs g mt me ρ ds acc S QL = QL (acc ++ ds.filter t) S := by
  rw [lc_pure (fun x => if t x = true then some x else none) h (fun x hx y e => by split at e <;> cases e; exact hf x hx) hl]
  congr 1
  congr 1
  induction ds with
  | nil => rfl
  | cons d ds ih =>
    have := ih (fun x hx => h x (List.mem_cons_of_mem _ hx)) (fun x hx => hf x (List.mem_cons_of_mem _ hx)) (by simp only [List.length_cons] at hl; omega)
    by_cases c : t d = true
    · rw [List.filter_cons_of_pos c, List.filterMap_cons_some (b := d) (by rw [if_pos c]), this]
    · rw [List.filter_cons_of_neg c, List.filterMap_cons_none (by rw [if_neg c]), this]
/-- turns that change the store: what holds ahead of each -/
theorem lc_inv (P : List D → List D → Sto → Prop) (hl : acc.length + ds.length ≤ sizeLine) (h0 : P ds acc S)
    (h : ∀ x xs acc' S', x ∈ ds → acc'.length + (xs.length + 1) ≤ acc.length + ds.length → P (x :: xs) acc' S' → Turn vs g mt me ρ x S' (fun r S2 => match r with | some y => Fx y ∧ P xs (acc' ++ [y]) S2 | none => P xs acc' S2))
    (hq : ∀ acc' S', acc'.length ≤ acc.length + ds.length → P [] acc' S' → QL acc' S') : LC vs g mt me ρ ds acc S QL := by
  have mono : ∀ {x : D} {S : Sto} {Q Q' : Option D → Sto → Prop}, Turn vs g mt me ρ x S Q → (∀ r S, Q r S → Q' r S) → Turn vs g mt me ρ x S Q' := by
    intro x S Q Q' t k
    unfold Turn OpR KT0 KT1 WM at t ⊢
    cases e : g x (wipeR ρ vs) with
    | none => rw [e] at t; exact t
    | some ρ1 =>
      rw [e] at t
      dsimp only at t ⊢
      cases e2 : mt ρ1 S with
      | none => rw [e2] at t; exact t
      | some p =>
        obtain ⟨r1, S1⟩ := p
        rw [e2] at t
        cases r1 with
        | er c fs => exact t
        | ok b =>
          cases b with
          | false => exact k _ _ t
          | true =>
            dsimp only at t ⊢
            rw [if_pos rfl] at t ⊢
            cases e3 : me ρ1 S1 with
            | none => rw [e3] at t; exact t
            | some p2 =>
              obtain ⟨r2, S2⟩ := p2
              rw [e3] at t
              cases r2 with
              | er c fs => exact t
              | ok y => exact k _ _ t
  have key : ∀ (xs acc' : List D) (S' : Sto), (∀ x ∈ xs, x ∈ ds) → acc'.length + xs.length ≤ acc.length + ds.length → P xs acc' S' → LC vs g mt me ρ xs acc' S' QL := by
    intro xs
    induction xs with
    | nil => exact fun acc' S' _ hl' p => hq acc' S' (by simpa using hl') p
    | cons x xs ih =>
      intro acc' S' hm hl' p
      simp only [List.length_cons] at hl'
      rw [lc_turn]
      refine mono (h x xs acc' S' (hm x List.mem_cons_self) (by omega) p) fun r S2 q => ?_
      cases r with
      | none => exact ih acc' S2 (fun y hy => hm y (List.mem_cons_of_mem _ hy)) (by omega) q
      | some y => exact ⟨⟨q.1, by omega⟩, ih _ S2 (fun y hy => hm y (List.mem_cons_of_mem _ hy)) (by simp; omega) q.2⟩
  exact key ds acc S (fun _ h => h) (Nat.le_refl _) h0
/-! ### loops -/
theorem WS.mono {QS' : Fl → Rho → Sto → Prop} (h : WS a ρ S QS) (k : ∀ f ρ S, QS f ρ S → QS' f ρ S) : WS a ρ S QS' := by
  unfold WS at h ⊢
  cases e : a ρ S with
  | none => rw [e] at h; exact h
  | some p => obtain ⟨f, ρ1, S1⟩ := p; rw [e] at h; exact k _ _ _ h
theorem WM.mono {Q' : α → Sto → Prop} {E' : EQ} (h : WM m ρ S Q E) (k : ∀ x S, Q x S → Q' x S) (ke : ∀ c fs S, E c fs S → E' c fs S) : WM m ρ S Q' E' := by
  unfold WM at h ⊢
  cases e : m ρ S with
  | none => rw [e] at h; exact h
  | some p =>
    obtain ⟨r, S1⟩ := p
    rw [e] at h
    cases r with
    | ok x => exact k _ _ h
    | er c fs => exact ke _ _ _ h
theorem WF.mono {QD' : D → Sto → Prop} {E' : EQ} (h : WF F ds S QD E) (k : ∀ x S, QD x S → QD' x S) (ke : ∀ c fs S, E c fs S → E' c fs S) : WF F ds S QD' E' := WM.mono h k ke
theorem wf_of {QD' : D → Sto → Prop} (h : FWp F ds S QD) (k : ∀ x S, QD x S → QD' x S) : WF F ds S QD' E := by
  obtain ⟨d, S', e, q⟩ := h
  unfold WF WM
  dsimp only
  rw [e]
  exact k _ _ q
theorem wf_then {QD' : D → Sto → Prop} (h : WF F ds S QD NoE) (k : ∀ x S, QD x S → QD' x S) : WF F ds S QD' E := WF.mono h k fun _ _ _ z => False.elim z
theorem fwp_of (h : WF F ds S QD NoE) : FWp F ds S QD := by
  unfold WF WM at h
  dsimp only at h
  cases e : F ds S with
  | none => rw [e] at h; exact False.elim h
  | some p =>
    obtain ⟨r, S1⟩ := p
    rw [e] at h
    cases r with
    | ok x => exact ⟨x, S1, e, h⟩
    | er c fs => exact False.elim h
/-- a loop: what holds ahead of each turn; a turn ends as the loop goes on, or as it ends -/
def LoopQ (P : Rho → Sto → Prop) (Q : Fl → Rho → Sto → Prop) (f : Fl) (ρ : Rho) (S : Sto) : Prop := match f with
  | .nx => P ρ S
  | .ct => P ρ S
  | .bk => Q .nx ρ S
  | f => Q f ρ S
variable {P' : Rho → Sto → Prop}
theorem lq_nx : LoopQ P' QS .nx ρ S = P' ρ S := rfl --r
theorem lq_ct : LoopQ P' QS .ct ρ S = P' ρ S := rfl --r
theorem lq_bk : LoopQ P' QS .bk ρ S = QS .nx ρ S := rfl --r
theorem lq_rt : LoopQ P' QS (.rt d) ρ S = QS (.rt d) ρ S := rfl --r
theorem lq_er : LoopQ P' QS (.er c fs) ρ S = QS (.er c fs) ρ S := rfl --r
theorem for_inv (P : List D → Rho → Sto → Prop) (h0 : P ds ρ S)
    (h : ∀ x xs pre ρ' S', ds = pre ++ x :: xs → P (x :: xs) ρ' S' → OpR (g x ρ') S' (fun ρ1 S1 => WS a ρ1 S1 (LoopQ (P xs) QS)))
    (hq : ∀ ρ' S', P [] ρ' S' → QS .nx ρ' S') : WS (s_forD g a ds) ρ S QS := by
  have key : ∀ (xs pre : List D) (ρ' : Rho) (S' : Sto), ds = pre ++ xs → P xs ρ' S' → WS (s_forD g a xs) ρ' S' QS := by
    intro xs
    induction xs with
    | nil => exact fun pre ρ' S' _ p => hq ρ' S' p
    | cons x xs ih =>
      intro pre ρ' S' e p
      rw [ws_forC]
      have hh := h x xs pre ρ' S' e p
      unfold OpR at hh ⊢
      cases e1 : g x ρ' with
      | none => rw [e1] at hh; exact hh
      | some ρ1 =>
        rw [e1] at hh
        refine WS.mono hh fun f ρ2 S2 q => ?_
        have e2 : ds = (pre ++ [x]) ++ xs := by rw [e]; simp
        cases f with
        | nx => exact ih _ ρ2 S2 e2 q
        | ct => exact ih _ ρ2 S2 e2 q
        | _ => exact q
  exact key ds [] ρ S rfl h0
/-! ### a list of the store grows -/
def KOa2 (k : Nat) (Q : D → Sto → Prop) (d : D) (S : Sto) : Prop := match S[k]? with
  | some (.lst es) => (Fx d ∧ es.length < sizeLine) ∧ Q .non (S.set k (.lst (es ++ [d])))
  | _ => False
def KOa (me : M D) (ρ : Rho) (Q : D → Sto → Prop) (E : EQ) (o : D) (S : Sto) : Prop := match o with
  | .own k => (∃ ds, S[k]? = some (.lst ds)) ∧ WM me ρ S (KOa2 k Q) E
  | _ => False
theorem wm_oapp : WM (m_oapp mo me) ρ S QD E = WM mo ρ S (KOa me ρ QD E) E := by --r
  unfold m_oapp
  simp only [wm_bind, wm_lift]
  congr 1
  funext o S1
  unfold KOa
  cases o with
  | own k =>
    dsimp only
    cases e : S1[k]? with
    | none => simp [Op]
    | some mo =>
      cases mo with
      | lst ds =>
        simp only [Op]
        refine propext ⟨fun h => ⟨⟨ds, rfl⟩, ?_⟩, fun h => ?_⟩
        · unfold WM at h ⊢
          cases e2 : me ρ S1 with
          | none => rw [e2] at h; exact h
          | some p =>
            obtain ⟨r, S2⟩ := p
            rw [e2] at h
            cases r with
            | er c fs => exact h
            | ok d =>
              dsimp only at h ⊢
              unfold KOa2
              cases e3 : S2[k]? with
              | none => rw [e3] at h; exact h
              | some mo2 =>
                rw [e3] at h
                cases mo2 with
                | lst es =>
                  dsimp only at h ⊢
                  by_cases c : fixed d = true ∧ es.length < sizeLine
                  · rw [if_pos c] at h; exact ⟨c, h⟩
                  · rw [if_neg c] at h; exact False.elim h
                | _ => exact h
        · replace h := h.2
          unfold WM at h ⊢
          cases e2 : me ρ S1 with
          | none => rw [e2] at h; exact h
          | some p =>
            obtain ⟨r, S2⟩ := p
            rw [e2] at h
            cases r with
            | er c fs => exact h
            | ok d =>
              dsimp only at h ⊢
              unfold KOa2 at h
              cases e3 : S2[k]? with
              | none => rw [e3] at h; exact h
              | some mo2 =>
                rw [e3] at h
                cases mo2 with
                | lst es =>
                  dsimp only at h ⊢
                  rw [if_pos (show fixed d = true ∧ es.length < sizeLine from h.1)]
                  exact h.2
                | _ => exact h
      | _ => simp [Op]
  | _ => rfl
theorem k_oa {k : Nat} (h : S[k]? = some (.lst ds)) : KOa me ρ QD E (.own k) S = WM me ρ S (KOa2 k QD) E := propext ⟨fun z => z.2, fun z => ⟨⟨ds, h⟩, z⟩⟩
theorem k_oa2 {k : Nat} (h : S[k]? = some (.lst ds)) : KOa2 k QD d S = ((Fx d ∧ ds.length < sizeLine) ∧ QD .non (S.set k (.lst (ds ++ [d])))) := by
  unfold KOa2
  rw [h]
def KCatA (mb : M D) (ρ : Rho) (Q : List D → Sto → Prop) (E : EQ) (x : D) (S : Sto) : Prop := WM mb ρ S (fun y S2 => Op ((rsv ρ S2 x).bind fun a => (rsv ρ S2 y).bind fun b => catL a b) S2 Q) E
def KCatB (x : D) (ρ : Rho) (Q : List D → Sto → Prop) (y : D) (S : Sto) : Prop := Op ((rsv ρ S x).bind fun a => (rsv ρ S y).bind fun b => catL a b) S Q
theorem wm_cat : WM (mf_cat ma mb) ρ S QL E = WM ma ρ S (KCatA mb ρ QL E) E := by --r
  unfold mf_cat KCatA
  simp only [wm_bind, wm_lift]
  congr 1
  funext x S1
  congr 1
  funext y S2
  cases rsv ρ S2 x <;> cases rsv ρ S2 y <;> rfl
theorem k_catA : KCatA mb ρ QL E x S = WM mb ρ S (KCatB x ρ QL) E := rfl --r
theorem k_catB : KCatB x ρ QL y S = Op ((rsv ρ S x).bind fun a => (rsv ρ S y).bind fun b => catL a b) S QL := rfl --r
theorem ct_lst : catL (.lst ds) (.lst es) = if ds.length + es.length ≤ sizeLine then some (ds ++ es) else none := rfl --r
/-! ### operations, told -/
theorem eg_int {i j : Int} : eqG (.int i) (.int j) = some (decide (i = j)) := eq_int i j --r
theorem eg_str {x y : Str} : eqG (.str x) (.str y) = some (decide (x = y)) := rfl --r
theorem eg_tup0 : eqG (.tup ds) (.tup []) = some ds.isEmpty := rfl --r
theorem eg_lst0 : eqG (.lst ds) (.lst []) = some ds.isEmpty := rfl --r
theorem eg_bl {a b : Bool} : eqG (.bl a) (.bl b) = some (a == b) := rfl --r
theorem neg_def {a b : D} : neG a b = (eqG a b).map (!·) := rfl --r
theorem tr_non : truth .non = some false := rfl --r
theorem tr_bl : truth (.bl k) = some k := rfl --r
theorem tr_int {i : Int} : truth (.int i) = some (i != 0) := rfl --r
theorem tr_tup : truth (.tup ds) = some (!ds.isEmpty) := rfl --r
theorem tr_lst : truth (.lst ds) = some (!ds.isEmpty) := rfl --r
theorem lt_int {i j : Int} : ltD (.int i) (.int j) = some (decide (i < j)) := rfl --r
theorem le_int {i j : Int} : leD (.int i) (.int j) = some (decide (i ≤ j)) := rfl --r
theorem gt_int {i j : Int} : gtD (.int i) (.int j) = some (decide (j < i)) := rfl --r
theorem ge_int {i j : Int} : geD (.int i) (.int j) = some (decide (j ≤ i)) := rfl --r
theorem ad_int {i j : Int} : addD (.int i) (.int j) = some (.int (i + j)) := rfl --r
theorem sb_int {i j : Int} : subD (.int i) (.int j) = some (.int (i - j)) := rfl --r
theorem ad_tup : addD (.tup ds) (.tup es) = if ds.length + es.length ≤ sizeLine then some (.tup (ds ++ es)) else none := rfl --r
theorem ad_lst : addD (.lst ds) (.lst es) = if ds.length + es.length ≤ sizeLine then some (.lst (ds ++ es)) else none := rfl --r
theorem ix_tup {i : Int} : ixD (.tup ds) (.int i) = atI ds i := rfl --r
theorem ix_lst {i : Int} : ixD (.lst ds) (.int i) = atI ds i := rfl --r
theorem sl_tup {lo hi : Option Int} : sliceD lo hi (.tup ds) = some (.tup (cutD ds lo hi)) := rfl --r
theorem sl_lst {lo hi : Option Int} : sliceD lo hi (.lst ds) = some (.lst (cutD ds lo hi)) := rfl --r
theorem ln_tup : lenD [.tup ds] = some (.int ds.length) := rfl --r
theorem ln_lst : lenD [.lst ds] = some (.int ds.length) := rfl --r
theorem tp_tup : tupleD [.tup ds] = some (.tup ds) := rfl --r
theorem tp_lst : tupleD [.lst ds] = some (.tup ds) := rfl --r
theorem ls_tup : listD [.tup ds] = some (.lst ds) := rfl --r
theorem ls_lst : listD [.lst ds] = some (.lst ds) := rfl --r
theorem all_of {p : D → Bool} : allD [.lst (ds.map fun x => .bl (p x))] = some (.bl (ds.all p)) := by
  have h : ∀ ds : List D, boolsD (ds.map fun x => .bl (p x)) = some (ds.map p) := fun ds => by
    induction ds with
    | nil => rfl
    | cons d ds ih => simp only [List.map_cons, boolsD, ih, Option.map_some]
  simp only [allD, h, Option.map_some, List.all_map]
  rfl

theorem is_int_non  : isTy "int" .non = some false := by rfl --r
theorem is_int_bl  : isTy "int" (.bl k) = some true := by rfl --r
theorem is_int_int {i : Int} : isTy "int" (.int i) = some true := by rfl --r
theorem is_int_str {x : Str} : isTy "int" (.str x) = some false := by rfl --r
theorem is_int_tup  : isTy "int" (.tup ds) = some false := by rfl --r
theorem is_int_lst  : isTy "int" (.lst ds) = some false := by rfl --r
theorem is_int_dct {kvs : List (Key × D)} : isTy "int" (.dct kvs) = some false := by rfl --r
theorem is_bool_non  : isTy "bool" .non = some false := by rfl --r
theorem is_bool_bl  : isTy "bool" (.bl k) = some true := by rfl --r
theorem is_bool_int {i : Int} : isTy "bool" (.int i) = some false := by rfl --r
theorem is_bool_str {x : Str} : isTy "bool" (.str x) = some false := by rfl --r
theorem is_bool_tup  : isTy "bool" (.tup ds) = some false := by rfl --r
theorem is_bool_lst  : isTy "bool" (.lst ds) = some false := by rfl --r
theorem is_bool_dct {kvs : List (Key × D)} : isTy "bool" (.dct kvs) = some false := by rfl --r
theorem is_str_non  : isTy "str" .non = some false := by rfl --r
theorem is_str_bl  : isTy "str" (.bl k) = some false := by rfl --r
theorem is_str_int {i : Int} : isTy "str" (.int i) = some false := by rfl --r
theorem is_str_str {x : Str} : isTy "str" (.str x) = some true := by rfl --r
theorem is_str_tup  : isTy "str" (.tup ds) = some false := by rfl --r
theorem is_str_lst  : isTy "str" (.lst ds) = some false := by rfl --r
theorem is_str_dct {kvs : List (Key × D)} : isTy "str" (.dct kvs) = some false := by rfl --r
theorem is_tuple_non  : isTy "tuple" .non = some false := by rfl --r
theorem is_tuple_bl  : isTy "tuple" (.bl k) = some false := by rfl --r
theorem is_tuple_int {i : Int} : isTy "tuple" (.int i) = some false := by rfl --r
theorem is_tuple_str {x : Str} : isTy "tuple" (.str x) = some false := by rfl --r
theorem is_tuple_tup  : isTy "tuple" (.tup ds) = some true := by rfl --r
theorem is_tuple_lst  : isTy "tuple" (.lst ds) = some false := by rfl --r
theorem is_tuple_dct {kvs : List (Key × D)} : isTy "tuple" (.dct kvs) = some false := by rfl --r
theorem is_list_non  : isTy "list" .non = some false := by rfl --r
theorem is_list_bl  : isTy "list" (.bl k) = some false := by rfl --r
theorem is_list_int {i : Int} : isTy "list" (.int i) = some false := by rfl --r
theorem is_list_str {x : Str} : isTy "list" (.str x) = some false := by rfl --r
theorem is_list_tup  : isTy "list" (.tup ds) = some false := by rfl --r
theorem is_list_lst  : isTy "list" (.lst ds) = some true := by rfl --r
theorem is_list_dct {kvs : List (Key × D)} : isTy "list" (.dct kvs) = some false := by rfl --r
theorem is_dict_non  : isTy "dict" .non = some false := by rfl --r
theorem is_dict_bl  : isTy "dict" (.bl k) = some false := by rfl --r
theorem is_dict_int {i : Int} : isTy "dict" (.int i) = some false := by rfl --r
theorem is_dict_str {x : Str} : isTy "dict" (.str x) = some false := by rfl --r
theorem is_dict_tup  : isTy "dict" (.tup ds) = some false := by rfl --r
theorem is_dict_lst  : isTy "dict" (.lst ds) = some false := by rfl --r
theorem is_dict_dct {kvs : List (Key × D)} : isTy "dict" (.dct kvs) = some true := by rfl --r
end
end Pd

/-! Values of any kind, within limits. -/
namespace Pd
open PySem L2
/-- how great whole numbers, texts, rows may be -/
structure Lim where
  (I L T : Nat)
mutual
def okv (M : Lim) : D → Bool
  | .non => true
  | .bl _ => true
  | .int i => decide (i.natAbs ≤ M.I)
  | .str x => decide (x.length ≤ M.L) && x.cps.toList.all (· < 128)
  | .tup ds => decide (ds.length ≤ M.T) && okvs M ds
  | .lst ds => decide (ds.length ≤ M.T) && okvs M ds
  | .dct kvs => kvs.isEmpty
  | _ => false
def okvs (M : Lim) : List D → Bool
  | [] => true
  | d :: ds => okv M d && okvs M ds
end
mutual
def dep : D → Nat
  | .tup ds => deps ds + 1
  | .lst ds => deps ds + 1
  | .dct _ => 1
  | _ => 0
def deps : List D → Nat
  | [] => 0
  | d :: ds => max (dep d) (deps ds)
end
mutual
def wt : D → Nat
  | .str x => x.length
  | .tup ds => wts ds
  | .lst ds => wts ds
  | _ => 0
def wts : List D → Nat
  | [] => 0
  | d :: ds => wt d + 1 + wts ds
end
section
variable {M N : Lim} {d : D} {ds es : List D}
theorem okvs_all : okvs M ds = true ↔ ∀ d ∈ ds, okv M d = true := by
  induction ds with
  | nil => simp [okvs]
  | cons d ds ih => simp [okvs, ih]
theorem okvs_app : okvs M (ds ++ es) = (okvs M ds && okvs M es) := by
  induction ds with
  | nil => simp [okvs]
  | cons d ds ih => simp [okvs, ih, Bool.and_assoc]
theorem deps_app : deps (ds ++ es) = max (deps ds) (deps es) := by
  induction ds with
  | nil => simp [deps]
  | cons d ds ih => simp only [List.cons_append, deps, ih]; omega
theorem wts_app : wts (ds ++ es) = wts ds + wts es := by
  induction ds with
  | nil => simp [wts]
  | cons d ds ih => simp only [List.cons_append, wts, ih]; omega
theorem deps_le {k : Nat} : deps ds ≤ k ↔ ∀ d ∈ ds, dep d ≤ k := by
  induction ds with
  | nil => simp [deps]
  | cons d ds ih => simp only [deps, List.mem_cons, forall_eq_or_imp, ← ih]; omega
theorem dep_mem (h : d ∈ ds) : dep d ≤ deps ds := deps_le.mp (Nat.le_refl _) d h
theorem wt_mem (h : d ∈ ds) : wt d + 1 ≤ wts ds := by
  induction ds with
  | nil => cases h
  | cons e ds ih =>
    rcases List.mem_cons.mp h with rfl | h
    · simp only [wts]; omega
    · have := ih h; simp only [wts]; omega
theorem wts_len : ds.length ≤ wts ds := by
  induction ds with
  | nil => simp
  | cons e ds ih => simp only [wts, List.length_cons]; omega
theorem okv_mem (h : okv M (.tup ds) = true) (hd : d ∈ ds) : okv M d = true := okvs_all.mp (by simp only [okv, Bool.and_eq_true] at h; exact h.2) d hd
theorem okv_memL (h : okv M (.lst ds) = true) (hd : d ∈ ds) : okv M d = true := okvs_all.mp (by simp only [okv, Bool.and_eq_true] at h; exact h.2) d hd
theorem okv_len (h : okv M (.tup ds) = true) : ds.length ≤ M.T := by simp only [okv, Bool.and_eq_true, decide_eq_true_eq] at h; exact h.1
theorem okv_fix (h : okv M d = true) : fixed d = true := by cases d <;> first | rfl | (simp [okv] at h; done)
theorem okv_rsv {ρ : Rho} {S : Sto} (h : okv M d = true) : rsv ρ S d = some d := by cases d <;> first | rfl | (simp [okv] at h; done)
theorem okv_Fx (h : okv M d = true) : Fx d := okv_fix h
mutual
theorem okv_mono (hi : M.I ≤ N.I) (hl : M.L ≤ N.L) (ht : M.T ≤ N.T) : ∀ d, okv M d = true → okv N d = true
  | .non, _ => rfl
  | .bl _, _ => rfl
  | .int i, h => by simp only [okv, decide_eq_true_eq] at h ⊢; omega
  | .str x, h => by simp only [okv, Bool.and_eq_true, decide_eq_true_eq] at h ⊢; exact ⟨by omega, h.2⟩
  | .tup ds, h => by simp only [okv, Bool.and_eq_true, decide_eq_true_eq] at h ⊢; exact ⟨by omega, okvs_mono hi hl ht ds h.2⟩
  | .lst ds, h => by simp only [okv, Bool.and_eq_true, decide_eq_true_eq] at h ⊢; exact ⟨by omega, okvs_mono hi hl ht ds h.2⟩
  | .dct kvs, h => by simp only [okv] at h ⊢; exact h
  | .ins _ _, h => by simp [okv] at h
  | .exc _ _, h => by simp [okv] at h
  | .own _, h => by simp [okv] at h
  | .loc _, h => by simp [okv] at h
  | .cls _, h => by simp [okv] at h
  | .scr _, h => by simp [okv] at h
theorem okvs_mono (hi : M.I ≤ N.I) (hl : M.L ≤ N.L) (ht : M.T ≤ N.T) : ∀ ds, okvs M ds = true → okvs N ds = true
  | [], _ => rfl
  | d :: ds, h => by simp only [okvs, Bool.and_eq_true] at h ⊢; exact ⟨okv_mono hi hl ht d h.1, okvs_mono hi hl ht ds h.2⟩
end
mutual
theorem okv_py (hI : M.I < 10 ^ 60) : ∀ d, okv M d = true → ∃ p, d.py = some p ∧ p.showable = true ∧ p.depth = dep d ∧ p.leavesShort 64 = true ∧ p.bulk = wt d
  | .non, _ => ⟨.none, rfl, rfl, rfl, rfl, rfl⟩
  | .bl b, _ => ⟨.bool b, rfl, rfl, rfl, rfl, rfl⟩
  | .int i, h => by
    simp only [okv, decide_eq_true_eq] at h
    refine ⟨.int i, rfl, ?_, rfl, ?_, rfl⟩
    · simp only [PyData.showable, decide_eq_true_eq]
      by_cases z : i.natAbs = 0
      · rw [z]; decide
      · rw [Nat.log2_lt z]
        have : (10 : Nat) ^ 60 < 2 ^ 1920 := by decide +kernel
        omega
    · have hh : (Str.ofString (toString i)).length ≤ 61 := by
        have e := int_text_length_le10 (a := i) (k := 60) (by decide) (by omega)
        rw [ofString_length]; exact e
      simp only [PyData.leavesShort, decide_eq_true_eq]
      show (Str.ofString (toString i)).length ≤ 64
      omega
  | .str x, h => by
    simp only [okv, Bool.and_eq_true, decide_eq_true_eq, List.all_eq_true] at h
    refine ⟨.str x, rfl, rfl, rfl, ?_, rfl⟩
    simp only [PyData.leavesShort, List.all_eq_true, decide_eq_true_eq]
    intro c hc
    have := h.2 c hc
    omega
  | .tup ds, h => by
    simp only [okv, Bool.and_eq_true] at h
    obtain ⟨ps, e, h1, h2, h3, h4⟩ := okvs_py hI ds h.2
    exact ⟨.tuple ps, by simp only [D.py, e], h1, by simp only [PyData.depth, dep, h2], h3, h4⟩
  | .lst ds, h => by
    simp only [okv, Bool.and_eq_true] at h
    obtain ⟨ps, e, h1, h2, h3, h4⟩ := okvs_py hI ds h.2
    exact ⟨.list ps, by simp only [D.py, e], h1, by simp only [PyData.depth, dep, h2], h3, h4⟩
  | .dct kvs, h => by
    simp only [okv, List.isEmpty_iff] at h
    subst h
    exact ⟨.dict [], rfl, rfl, rfl, rfl, rfl⟩
  | .ins _ _, h => by simp [okv] at h
  | .exc _ _, h => by simp [okv] at h
  | .own _, h => by simp [okv] at h
  | .loc _, h => by simp [okv] at h
  | .cls _, h => by simp [okv] at h
  | .scr _, h => by simp [okv] at h
theorem okvs_py (hI : M.I < 10 ^ 60) : ∀ ds, okvs M ds = true → ∃ ps, pyA ds = some ps ∧ PyData.showableAll ps = true ∧ PyData.depthAll ps = deps ds ∧ PyData.leavesShortAll 64 ps = true ∧ PyData.bulkAll ps = wts ds
  | [], _ => ⟨[], rfl, rfl, rfl, rfl, rfl⟩
  | d :: ds, h => by
    simp only [okvs, Bool.and_eq_true] at h
    obtain ⟨p, e, h1, h2, h3, h4⟩ := okv_py hI d h.1
    obtain ⟨ps, e', g1, g2, g3, g4⟩ := okvs_py hI ds h.2
    exact ⟨p :: ps, by simp only [pyA, e, e'], by simp only [PyData.showableAll, h1, g1, Bool.and_self], by simp only [PyData.depthAll, deps, h2, g2], by simp only [PyData.leavesShortAll, h3, g3, Bool.and_self], by simp only [PyData.bulkAll, wts, h4, g4]⟩
end
/-- what it is shown as -/
def shw (d : D) : Str := match d.py with
  | some p => p.shown
  | none => Str.empty
theorem okv_repr (hI : M.I < 10 ^ 60) (h : okv M d = true) (hd : dep d ≤ 60) (hw : wt d ≤ 250000) : reprD [d] = some (.str (shw d)) := by
  obtain ⟨p, e, h1, h2, h3, h4⟩ := okv_py hI d h
  have l := PyData.shown_le_bulk 64 (by decide) p h3
  have hs : showsB p = true := by
    unfold showsB
    rw [h1, decide_eq_true (by omega), decide_eq_true (by rw [sizeLine_eq]; omega)]
    rfl
  simp only [reprD, shw, e, hs, if_true]
/-- within limits, at most so deep and so heavy -/
structure Any (M : Lim) (k w : Nat) (d : D) : Prop where
  ok : okv M d = true
  dp : dep d ≤ k
  wt : wt d ≤ w
theorem Any.mono {k k' w w' : Nat} (h : Any M k w d) (hi : M.I ≤ N.I) (hl : M.L ≤ N.L) (ht : M.T ≤ N.T) (hk : k ≤ k') (hw : w ≤ w') : Any N k' w' d := ⟨okv_mono hi hl ht d h.ok, Nat.le_trans h.dp hk, Nat.le_trans h.wt hw⟩
end
end Pd

/-! Kinds of values: functions of data. -/
namespace Pd
open PySem L2 TL
/-- data of the built-in kinds -/
def pl (d : D) : Bool := (tyN d).isSome
def isI : D → Bool
  | .int _ => true
  | _ => false
def isT : D → Bool
  | .tup _ => true
  | _ => false
def btw (lo hi : Int) : D → Bool
  | .int i => decide (lo ≤ i) && decide (i ≤ hi)
  | _ => false
def btws (lo hi : Int) : D → Bool
  | .tup ds => ds.all (btw lo hi)
  | _ => false
/-- each less than the next -/
def ascI : List Int → Bool
  | a :: b :: r => decide (a < b) && ascI (b :: r)
  | _ => true
def ascN : List Nat → Bool
  | a :: b :: r => decide (a < b) && ascN (b :: r)
  | _ => true
def intsL : List D → List Int
  | [] => []
  | .int i :: r => i :: intsL r
  | _ :: r => 0 :: intsL r
def ascD : D → Bool
  | .tup ds => ascI (intsL ds)
  | .str x => ascN x.cps.toList
  | _ => false
def lettersD : D → Bool
  | .str x => x.cps.toList.all (fun c => decide (97 ≤ c) && decide (c ≤ 122)) && ascN x.cps.toList
  | _ => false
def tupOf (n : Int) : D → Bool
  | .tup ds => decide ((ds.length : Int) = n)
  | _ => false
theorem okv_pl {M : Lim} {d : D} (h : okv M d = true) : pl d = true := by cases d <;> first | rfl | (simp [okv] at h; done)
theorem pl_fx {d : D} (h : pl d = true) : Fx d := by cases d <;> first | rfl | (simp [pl, tyN] at h; done)
theorem pl_rsv {d : D} {ρ : Rho} {S : Sto} (h : pl d = true) : rsv ρ S d = some d := by cases d <;> first | rfl | (simp [pl, tyN] at h; done)
theorem all_cong {ds : List D} {p q : D → Bool} (h : ∀ x ∈ ds, p x = q x) : ds.all p = ds.all q := by
  induction ds with
  | nil => rfl
  | cons d ds ih => rw [List.all_cons, List.all_cons, h d List.mem_cons_self, ih fun x hx => h x (List.mem_cons_of_mem _ hx)]
theorem range_mem {lo : Int} {n : Nat} {x : D} (h : x ∈ rangeD lo n) : ∃ i : Nat, i < n ∧ x = .int (lo + i) := by
  unfold rangeD at h
  obtain ⟨i, hi, rfl⟩ := List.mem_map.mp h
  exact ⟨i, List.mem_range.mp hi, rfl⟩
theorem atI_nat {α : Type} {xs : List α} {i : Nat} : atI xs (i : Int) = xs[i]? := by
  unfold atI ixN
  rw [if_pos (by omega)]
  by_cases h : i < xs.length
  · rw [if_pos (by omega), Option.bind_some, Int.toNat_natCast]
  · rw [if_neg (by omega)]
    exact (List.getElem?_eq_none (by omega)).symm
/-- the test of neighbours at i -/
def nbI (ns : List Int) (x : D) : Bool := match x with
  | .int i => match ns[i.toNat]?, ns[i.toNat + 1]? with
    | some a, some b => decide (a < b)
    | _, _ => false
  | _ => false
def nbN (ns : List Nat) (x : D) : Bool := match x with
  | .int i => match ns[i.toNat]?, ns[i.toNat + 1]? with
    | some a, some b => decide (a < b)
    | _, _ => false
  | _ => false
theorem all_range {n : Nat} {p : D → Bool} : (rangeD 0 n).all p = (List.range n).all fun i : Nat => p (.int i) := by
  unfold rangeD
  rw [List.all_map]
  congr 1
  funext i
  simp
theorem range_cons (n : Nat) : List.range (n + 1) = 0 :: (List.range n).map (· + 1) := by rw [List.range_succ_eq_map]
theorem nbI_all : ∀ ns : List Int, (rangeD 0 (ns.length - 1)).all (nbI ns) = ascI ns := by
  intro ns
  rw [all_range]
  induction ns with
  | nil => rfl
  | cons a r ih =>
    cases r with
    | nil => rfl
    | cons b r =>
      have e : (a :: b :: r).length - 1 = ((b :: r).length - 1) + 1 := by simp
      rw [e, range_cons, List.all_cons, List.all_map]
      have h0 : nbI (a :: b :: r) (.int ((0 : Nat) : Int)) = decide (a < b) := rfl
      rw [h0, ascI, ← ih]
      congr 1
theorem nbN_all : ∀ ns : List Nat, (rangeD 0 (ns.length - 1)).all (nbN ns) = ascN ns := by
  intro ns
  rw [all_range]
  induction ns with
  | nil => rfl
  | cons a r ih =>
    cases r with
    | nil => rfl
    | cons b r =>
      have e : (a :: b :: r).length - 1 = ((b :: r).length - 1) + 1 := by simp
      rw [e, range_cons, List.all_cons, List.all_map]
      have h0 : nbN (a :: b :: r) (.int ((0 : Nat) : Int)) = decide (a < b) := rfl
      rw [h0, ascN, ← ih]
      congr 1
theorem ints_of_btw {lo hi : Int} : ∀ {ds : List D}, ds.all (btw lo hi) = true → ds = (intsL ds).map D.int
  | [], _ => rfl
  | d :: ds, h => by
    simp only [List.all_cons, Bool.and_eq_true] at h
    cases d <;> first | (simp [btw] at h; done) | skip
    rw [intsL, List.map_cons, ← ints_of_btw h.2]
theorem intsL_map : ∀ ns : List Int, intsL (ns.map D.int) = ns
  | [] => rfl
  | n :: r => by rw [List.map_cons, intsL, intsL_map r]
theorem intsL_len : ∀ ds : List D, (intsL ds).length = ds.length
  | [] => rfl
  | d :: ds => by cases d <;> simp [intsL, intsL_len ds]
theorem lt_one {a b : Nat} : (([a] : List Nat) < [b]) ↔ a < b := by
  rw [List.cons_lt_cons_iff]
  simp
theorem ascI_pw : ∀ ns : List Int, ascI ns = true ↔ ns.Pairwise (· < ·)
  | [] => by simp [ascI]
  | [a] => by simp [ascI]
  | a :: b :: r => by
    rw [ascI, Bool.and_eq_true, ascI_pw (b :: r), decide_eq_true_eq]
    refine ⟨fun h => List.pairwise_cons.mpr ⟨fun y hy => ?_, h.2⟩, fun h => ⟨(List.pairwise_cons.mp h).1 b List.mem_cons_self, (List.pairwise_cons.mp h).2⟩⟩
    rcases List.mem_cons.mp hy with rfl | hy
    · exact h.1
    · exact Int.lt_trans h.1 ((List.pairwise_cons.mp h.2).1 y hy)
theorem ascN_pw : ∀ ns : List Nat, ascN ns = true ↔ ns.Pairwise (· < ·)
  | [] => by simp [ascN]
  | [a] => by simp [ascN]
  | a :: b :: r => by
    rw [ascN, Bool.and_eq_true, ascN_pw (b :: r), decide_eq_true_eq]
    refine ⟨fun h => List.pairwise_cons.mpr ⟨fun y hy => ?_, h.2⟩, fun h => ⟨(List.pairwise_cons.mp h).1 b List.mem_cons_self, (List.pairwise_cons.mp h).2⟩⟩
    rcases List.mem_cons.mp hy with rfl | hy
    · exact h.1
    · exact Nat.lt_trans h.1 ((List.pairwise_cons.mp h.2).1 y hy)
theorem sortI_same (ns : List Int) : decide (ns = sortI ns) = ascI ns := by
  cases h : ascI ns with
  | true => exact decide_eq_true (asc_ext ((ascI_pw ns).mp h) (asc_sortI ns) fun k => (mem_sortI k ns).symm)
  | false => exact decide_eq_false fun e => by rw [e, (ascI_pw _).mpr (asc_sortI ns)] at h; cases h
theorem sortN_same (ns : List Nat) : decide (ns = sortN ns) = ascN ns := by
  cases h : ascN ns with
  | true => exact decide_eq_true (asc_extN ((ascN_pw ns).mp h) (asc_sortN ns) fun k => (mem_sortN k ns).symm)
  | false => exact decide_eq_false fun e => by rw [e, (ascN_pw _).mpr (asc_sortN ns)] at h; cases h
theorem join_sg : ∀ cs : List Nat, Txt.join ("" : Str) (cs.map sg) = ⟨cs.toArray⟩ := by
  intro cs
  have h : tl (Txt.join ("" : Str) (cs.map sg)) = cs := by
    rw [join_eq, tl_join]
    have e : tl ("" : Str) = [] := by decide +kernel
    rw [e]
    induction cs with
    | nil => rfl
    | cons c cs ih =>
      cases cs with
      | nil => rfl
      | cons c2 cs =>
        show tl (sg c) ++ ([] ++ joinL [] (((c2 :: cs).map sg).map tl)) = _
        rw [ih]
        rfl
  rw [← mk_tl (Txt.join ("" : Str) (cs.map sg)), h]
theorem str_eq_iff {x y : Str} : x = y ↔ x.cps.toList = y.cps.toList := by
  constructor
  · rintro rfl; rfl
  · intro h
    obtain ⟨a⟩ := x
    obtain ⟨b⟩ := y
    exact congrArg Str.mk (Array.toList_inj.mp h)
theorem strs_sg : ∀ cs : List Nat, strsD (cs.map fun c => D.str (sg c)) = some (cs.map sg)
  | [] => rfl
  | c :: cs => by simp only [List.map_cons, strsD, strs_sg cs, Option.map_some]
theorem join_told {cs : List Nat} (h : cs.length ≤ 1000000) : joinD ("" : Str) [.lst (cs.map fun c => D.str (sg c))] = some (.str ⟨cs.toArray⟩) := by
  have hs : ((cs.map sg).map (·.length)).sum = cs.length := by
    clear h
    induction cs with
    | nil => rfl
    | cons c cs ih =>
      rw [List.map_cons, List.map_cons, List.sum_cons, ih, List.length_cons]
      show 1 + cs.length = _
      omega
  have e : (("" : Str)).length = 0 := by decide +kernel
  simp only [joinD, strs_sg, Option.bind_some, hs, e, Nat.mul_zero, Nat.add_zero]
  rw [if_pos (by omega), join_sg]
theorem sortN_len (ns : List Nat) : (sortN ns).length ≤ ns.length := by
  have key : ∀ k l, (insN k l).length ≤ l.length + 1 := by
    intro k l
    induction l with
    | nil => simp [insN]
    | cons a l ih =>
      unfold insN
      split
      · simp
      · split
        · simp
        · simp; omega
  induction ns with
  | nil => simp [sortN]
  | cons a l ih =>
    have := key a (sortN l)
    simp only [sortN, List.length_cons]
    omega
theorem eqvA_ints : ∀ as bs : List Int, PyData.eqvAll (as.map PyData.int) (bs.map PyData.int) = decide (as = bs)
  | [], [] => rfl
  | [], _ :: _ => rfl
  | _ :: _, [] => rfl
  | a :: as, b :: bs => by
    rw [List.map_cons, List.map_cons]
    show (PyData.eqv (.int a) (.int b) && PyData.eqvAll (as.map PyData.int) (bs.map PyData.int)) = _
    rw [eqvA_ints as bs]
    show ((a == b) && _) = _
    by_cases h : a = b
    · subst h
      by_cases h2 : as = bs
      · subst h2; simp
      · simp [h2]
    · simp [h]
theorem eqP_ints (as bs : List Int) : eqP (.lst (as.map D.int)) (.lst (bs.map D.int)) = some (decide (as = bs)) := by
  have e : ∀ cs : List Int, (D.lst (cs.map D.int)).py = some (.list (cs.map PyData.int)) := fun cs => by simp only [D.py, py_ints]
  unfold eqP
  rw [e, e]
  dsimp only
  rw [if_pos ⟨shaped_ints as, shaped_ints bs⟩]
  exact congrArg some (eqvA_ints as bs)
theorem eqG_ints (as bs : List Int) : eqG (.lst (as.map D.int)) (.lst (bs.map D.int)) = some (decide (as = bs)) := by
  cases bs with
  | nil =>
    show some ((as.map D.int).isEmpty) = _
    cases as <;> rfl
  | cons b bs => exact eqP_ints as (b :: bs)
theorem isO_pl {c : Str} {cs : List Str} {d : D} (h : pl d = true) : isO c cs d = some false := by cases d <;> first | rfl | (simp [pl, tyN] at h; done)
theorem tyOk_pl {cs : List Str} {d : D} (h : pl d = true) : tyOk cs d = true := by unfold tyOk; rw [show (tyN d).isSome = true from h]; rfl
/-! no dict in it -/
mutual
def noD : D → Bool
  | .dct _ => false
  | .tup ds => noDs ds
  | .lst ds => noDs ds
  | _ => true
def noDs : List D → Bool
  | [] => true
  | d :: ds => noD d && noDs ds
end
theorem noDs_all {ds : List D} : noDs ds = true ↔ ∀ d ∈ ds, noD d = true := by
  induction ds with
  | nil => simp [noDs]
  | cons d ds ih => simp [noDs, ih]
theorem strOk_low {x : Str} (h : ∀ c ∈ x.cps.toList, c < 128) : PyData.strOk x = true := by
  unfold PyData.strOk
  rw [← Array.all_toList, List.all_eq_true]
  intro c hc
  have := h c hc
  exact decide_eq_true (by omega)
mutual
theorem lay_noD {M : Lim} : ∀ (d : D) (p : PyData), d.py = some p → okv M d = true → noD d = true → p.canLay0 = true
  | .non, _, e, _, _ => by cases e; rfl
  | .bl _, _, e, _, _ => by cases e; rfl
  | .int _, _, e, _, _ => by cases e; rfl
  | .str x, _, e, ho, _ => by
    cases e
    simp only [okv, Bool.and_eq_true, List.all_eq_true, decide_eq_true_eq] at ho
    simp only [PyData.canLay0]
    exact strOk_low ho.2
  | .tup ds, p, e, ho, h => by
    simp only [okv, Bool.and_eq_true] at ho
    simp only [D.py] at e
    cases q : pyA ds with
    | none => rw [q] at e; cases e
    | some ps =>
      rw [q] at e
      cases e
      simp only [PyData.canLay0]
      exact lay_noDs ds ps q ho.2 (by simpa only [noD] using h)
  | .lst ds, p, e, ho, h => by
    simp only [okv, Bool.and_eq_true] at ho
    simp only [D.py] at e
    cases q : pyA ds with
    | none => rw [q] at e; cases e
    | some ps =>
      rw [q] at e
      cases e
      simp only [PyData.canLay0]
      exact lay_noDs ds ps q ho.2 (by simpa only [noD] using h)
  | .dct _, _, _, _, h => by simp [noD] at h
  | .ins _ _, _, e, _, _ => by simp [D.py] at e
  | .exc _ _, _, e, _, _ => by simp [D.py] at e
  | .own _, _, e, _, _ => by simp [D.py] at e
  | .loc _, _, e, _, _ => by simp [D.py] at e
  | .cls _, _, e, _, _ => by simp [D.py] at e
  | .scr _, _, e, _, _ => by simp [D.py] at e
theorem lay_noDs {M : Lim} : ∀ (ds : List D) (ps : List PyData), pyA ds = some ps → okvs M ds = true → noDs ds = true → PyData.canLayAll0 ps = true
  | [], _, e, _, _ => by cases e; rfl
  | d :: ds, ps, e, ho, h => by
    simp only [okvs, Bool.and_eq_true] at ho
    simp only [noDs, Bool.and_eq_true] at h
    simp only [pyA] at e
    cases q : d.py with
    | none => rw [q] at e; cases e
    | some p =>
      cases q2 : pyA ds with
      | none => rw [q, q2] at e; cases e
      | some ps =>
        rw [q, q2] at e
        cases e
        simp only [PyData.canLayAll0, Bool.and_eq_true]
        exact ⟨lay_noD d p q ho.1 h.1, lay_noDs ds ps q2 ho.2 h.2⟩
end
mutual
theorem eqv_same : ∀ p : PyData, p.canLay0 = true → PyData.eqv p p = true
  | .none, _ => rfl
  | .bool b, _ => by simp [PyData.eqv]
  | .int i, _ => by simp [PyData.eqv]
  | .str x, _ => by simp [PyData.eqv]
  | .list ps, h => by
    simp only [PyData.eqv]
    exact eqv_sames ps (by simpa only [PyData.canLay0] using h)
  | .tuple ps, h => by
    simp only [PyData.eqv]
    exact eqv_sames ps (by simpa only [PyData.canLay0] using h)
  | .dict _, h => by simp [PyData.canLay0] at h
theorem eqv_sames : ∀ ps : List PyData, PyData.canLayAll0 ps = true → PyData.eqvAll ps ps = true
  | [], _ => rfl
  | p :: ps, h => by
    simp only [PyData.canLayAll0, Bool.and_eq_true] at h
    simp only [PyData.eqvAll, eqv_same p h.1, eqv_sames ps h.2, Bool.and_self]
end
theorem eqG_same {M : Lim} {d : D} (hI : M.I < 10 ^ 60) (h : okv M d = true) (n : noD d = true) (hd : dep d ≤ 64) : eqG d d = some true := by
  obtain ⟨p, e, -, h2, -, -⟩ := okv_py hI d h
  have c := lay_noD d p e h n
  have sh : SeqAt.shaped p = true := by
    unfold SeqAt.shaped
    rw [c, decide_eq_true (by omega)]
    rfl
  have hp : eqP d d = some true := by
    unfold eqP
    rw [e]
    dsimp only
    rw [if_pos ⟨sh, sh⟩, eqv_same p c]
  cases d <;> first | (simp [okv] at h; done) | exact hp | skip
  · show some (decide _) = _
    simp
  · next ds =>
    cases ds with
    | nil => rfl
    | cons x xs => exact hp
  · next ds =>
    cases ds with
    | nil => rfl
    | cons x xs => exact hp
theorem ints_ofD : ∀ ns : List Int, intsOfD (ns.map D.int) = some ns
  | [] => rfl
  | n :: ns => by simp only [List.map_cons, intsOfD, ints_ofD ns, Option.map_some]
end Pd

local macro_rules | `(tactic| simp? only [$xs,*]) => `(tactic| simp -implicitDefEqProofs only [Pd.nth_0, Pd.nth_s, Pd.put_0, Pd.put_s, Pd.op_some, Pd.op_none, Pd.op_guard, Pd.opr_some, Pd.opr_none, Pd.wm_pure, Pd.br_t, Pd.br_f, Pd.brs_t, Pd.brs_f, Pd.wm_c, Pd.var_d, Pd.var_m, Pd.wm_var, Pd.op2_some, Pd.wm_op, Pd.k_op, Pd.k_op2, Pd.k_bl, Pd.wm_cmpT, Pd.k_cmT, Pd.k_cmT2, Pd.wm_cmp, Pd.op2_neF, Pd.wm_chain, Pd.k_ch, Pd.k_ch2, Pd.k_ch3, Pd.wm_isT, Pd.k_isT, Pd.wm_tr, Pd.k_tr, Pd.wm_and, Pd.wm_or, Pd.k_bo, Pd.wm_not, Pd.k_notD, Pd.k_not2, Pd.wt_and', Pd.wt_or', Pd.kt_bot, Pd.kt_bof, Pd.wt_not', Pd.kt_not, Pd.wm_if, Pd.k_if, Pd.wm_nil, Pd.wm_cons, Pd.k_cons, Pd.k_cons2, Pd.wm_tup, Pd.k_tup, Pd.wm_lst, Pd.k_lst, Pd.fxs_nil, Pd.fxs_cons, Pd.short_nil, Pd.short_cons, Pd.fx_non, Pd.fx_bl, Pd.fx_int, Pd.fx_str, Pd.fx_tup, Pd.fx_lst, Pd.fx_dct, Pd.fx_ins, Pd.fx_exc, Pd.fx_own, Pd.fx_scr, Pd.fx_cls, Pd.rs_non, Pd.rs_bl, Pd.rs_int, Pd.rs_str, Pd.rs_tup, Pd.rs_lst, Pd.rs_dct, Pd.rs_ins, Pd.rs_exc, Pd.rs_scr, Pd.rs_cls, Pd.rs_own, Pd.rs_loc, Pd.mol_l, Pd.mol_d, Pd.mol_i, Pd.rsA_nil, Pd.rsA_cons, Pd.rsC_some, Pd.wm_neg, Pd.k_neg, Pd.wo_none', Pd.wo_some', Pd.k_oS, Pd.wm_slice, Pd.k_sl, Pd.k_sl2, Pd.k_sl3, Pd.wm_cb, Pd.k_cb, Pd.k_u, Pd.wm_isi, Pd.wm_isO, Pd.wm_sortAny, Pd.wm_rev, Pd.wm_fmt, Pd.wm_fld, Pd.wm_sm, Pd.k_sm, Pd.wm_sm0, Pd.k_sm0, Pd.wm_dget, Pd.k_dg, Pd.k_dg2, Pd.wm_pnil, Pd.wm_pcons, Pd.k_pc, Pd.wm_disp, Pd.k_di, Pd.wm_dispO, Pd.k_diO, Pd.wm_pub, Pd.k_pub, Pd.wm_mrev, Pd.k_rv, Pd.wm_opop, Pd.wm_call, Pd.k_call, Pd.wm_callK, Pd.k_callK, Pd.pkd_nil, Pd.pkd_cons, Pd.pkC, Pd.wm_fz, Pd.k_fz, Pd.wi_of', Pd.k_items, Pd.it_tup, Pd.it_lst, Pd.wi_range1', Pd.k_rg1, Pd.wi_range2', Pd.k_rg2, Pd.wi_enum', Pd.k_enum, Pd.en_tup, Pd.en_lst, Pd.wm_lc, Pd.k_lc, Pd.lc_nil, Pd.k_lg, Pd.k_ltt, Pd.k_ltf, Pd.k_le, Pd.wipe_nil, Pd.wipe_cons, Pd.wm_exc, Pd.k_exc, Pd.wm_isX, Pd.k_isX, Pd.wm_fldX, Pd.k_fldX, Pd.wm_xf, Pd.wm_eqO, Pd.k_eqO, Pd.k_eqO2, Pd.k_eqR, Pd.wm_lenO, Pd.k_lenO, Pd.k_lenR, Pd.wm_meth, Pd.k_me, Pd.k_me2, Pd.wm_js0, Pd.wm_js, Pd.k_js, Pd.k_er, Pd.ws_nx, Pd.ws_bk, Pd.ws_ct, Pd.ws_retN, Pd.ws_raise0, Pd.ws_seq, Pd.k_seq_nx, Pd.k_seq_bk, Pd.k_seq_ct, Pd.k_seq_rt, Pd.k_seq_er, Pd.ws_ex, Pd.k_ex, Pd.ws_ret, Pd.k_ret, Pd.ws_if, Pd.ks_if, Pd.k_nx, Pd.ws_asg, Pd.k_asg, Pd.g_nm, Pd.g_tp, Pd.g_nl, Pd.g_cn, Pd.gC_some, Pd.opr_guard, Pd.ws_par, Pd.k_par, Pd.ws_par3, Pd.k_par3, Pd.ws_aug, Pd.aug_d, Pd.k_aug, Pd.k_aug2, Pd.ws_frz, Pd.frz_l, Pd.frz_d, Pd.frz_o, Pd.wm_mlst', Pd.k_ml, Pd.ws_setL, Pd.k_setL, Pd.ws_for, Pd.k_for, Pd.ws_for0, Pd.ws_forC, Pd.k_body, Pd.k_lp_nx, Pd.k_lp_ct, Pd.k_lp_bk, Pd.k_lp_rt, Pd.k_lp_er, Pd.ws_wh, Pd.k_wht, Pd.k_whf, Pd.ws_raise, Pd.k_raise, Pd.ws_try, Pd.k_try_nx, Pd.k_try_bk, Pd.k_try_ct, Pd.k_try_rt, Pd.k_try_er, Pd.k_sui_nx, Pd.k_sui_bk, Pd.k_sui_ct, Pd.k_sui_rt, Pd.ws_oput, Pd.ws_app, Pd.app_l, Pd.k_app2, Pd.ws_attr, Pd.k_att, Pd.att_i, Pd.un_0, Pd.un_s, Pd.sl_nil, Pd.sl_s, Pd.wf_run, Pd.k_run_nx, Pd.k_run_rt, Pd.k_run_er, Pd.ini_m, Pd.wf_ini, Pd.k_ini_nx, Pd.k_ini_rtn, Pd.k_ini_er, Pd.k_bo2t, Pd.k_bo2f, Pd.k_t1t, Pd.k_t1f, Pd.k_t2, Pd.k_t0, Pd.turn_def, Pd.lq_nx, Pd.lq_ct, Pd.lq_bk, Pd.lq_rt, Pd.lq_er, Pd.wm_oapp, Pd.wm_cat, Pd.k_catA, Pd.k_catB, Pd.ct_lst, Pd.eg_int, Pd.eg_str, Pd.eg_tup0, Pd.eg_lst0, Pd.eg_bl, Pd.neg_def, Pd.tr_non, Pd.tr_bl, Pd.tr_int, Pd.tr_tup, Pd.tr_lst, Pd.lt_int, Pd.le_int, Pd.gt_int, Pd.ge_int, Pd.ad_int, Pd.sb_int, Pd.ad_tup, Pd.ad_lst, Pd.ix_tup, Pd.ix_lst, Pd.sl_tup, Pd.sl_lst, Pd.ln_tup, Pd.ln_lst, Pd.tp_tup, Pd.tp_lst, Pd.ls_tup, Pd.ls_lst, Pd.is_int_non, Pd.is_int_bl, Pd.is_int_int, Pd.is_int_str, Pd.is_int_tup, Pd.is_int_lst, Pd.is_int_dct, Pd.is_bool_non, Pd.is_bool_bl, Pd.is_bool_int, Pd.is_bool_str, Pd.is_bool_tup, Pd.is_bool_lst, Pd.is_bool_dct, Pd.is_str_non, Pd.is_str_bl, Pd.is_str_int, Pd.is_str_str, Pd.is_str_tup, Pd.is_str_lst, Pd.is_str_dct, Pd.is_tuple_non, Pd.is_tuple_bl, Pd.is_tuple_int, Pd.is_tuple_str, Pd.is_tuple_tup, Pd.is_tuple_lst, Pd.is_tuple_dct, Pd.is_list_non, Pd.is_list_bl, Pd.is_list_int, Pd.is_list_str, Pd.is_list_tup, Pd.is_list_lst, Pd.is_list_dct, Pd.is_dict_non, Pd.is_dict_bl, Pd.is_dict_int, Pd.is_dict_str, Pd.is_dict_tup, Pd.is_dict_lst, Pd.is_dict_dct, Lk56.fd_Guest_rooms, Lk56.fd_Guest_moves, Lk56.fd_ty_Guest, Lk56.fd_is_Guest_Guest, List.getElem?_cons_succ, List.getElem?_cons_zero, Option.bind_some, Option.map_some, and_true, true_and, and_self, Bool.not_true, Bool.not_false, if_true, if_false, decide_true, decide_false, Bool.false_eq_true, Bool.and_true, Bool.true_and, Bool.and_false, Bool.false_and, beq_self_eq_true, List.length_cons, List.length_nil, List.length_map, Nat.reduceAdd, Nat.reduceLeDiff, Nat.reduceLT, Nat.reduceEqDiff, Int.reduceEq, Int.reduceLT, Int.reduceLE, Int.reduceAdd, Int.reduceSub, Int.reduceNeg, Int.reduceToNat, Int.reduceBEq, Int.reduceBNe, Int.reducePow, Int.cast_ofNat_Int, $xs,*])
namespace Lk56
open PySem L2 Pd TL
section
variable {S : Sto} {Q : D → Sto → Prop} {E : EQ} {d : D} {lo hi : Int}
theorem q_integer (h : pl d = true) : WF F_is_integer [d] S Q E = Q (.bl (isI d)) S := by
  cases d <;> first | (simp [pl, tyN] at h; done) | (unfold F_is_integer B_is_integer; simp? only [and_self]; rfl)
theorem q_between (h : pl d = true) : WF F_is_between [d, .int lo, .int hi] S Q E = Q (.bl (btw lo hi d)) S := by
  have fx := pl_fx h
  have key : ∀ {S Q E}, WF F_is_integer [d] S Q E = Q (.bl (isI d)) S := q_integer h
  unfold F_is_between B_is_between
  simp? only [key, fx]
  cases d <;> first | (simp [pl, tyN] at h; done) | (simp? only [isI, btw]; done) | skip
  rename_i i
  simp? only [isI]
  by_cases c : lo ≤ i
  · simp? only [c, btw, Bool.true_and]
  · simp? only [c, btw, Bool.false_and]
theorem q_are_between (h : pl d = true) (hd : ∀ ds, d = .tup ds → (∀ x ∈ ds, pl x = true) ∧ ds.length ≤ sizeLine) : WF F_are_between [d, .int lo, .int hi] S Q E = Q (.bl (btws lo hi d)) S := by
  unfold F_are_between B_are_between
  cases d <;> first | (simp [pl, tyN] at h; done) | (simp? only [btws]; done) | skip
  rename_i ds
  obtain ⟨hp, hl⟩ := hd ds rfl
  simp? only [and_self]
  rw [lc_map (f := fun x => .bl (btw lo hi x))]
  · simp? only [List.nil_append, all_of, btws]
  · intro x hx Q
    simp? only [pl_fx (hp x hx), q_between (hp x hx)]
  · exact fun x _ => rfl
  · simpa using hl
theorem q_ascendI {ns : List Int} (hl : ns.length < 16777216) : WF F_do_ascend [.tup (ns.map .int)] S Q E = Q (.bl (ascI ns)) S := by
  unfold F_do_ascend B_do_ascend
  simp? only [and_self]
  have h1 : (-4611686018427387904) ≤ (ns.length : Int) - 1 ∧ (ns.length : Int) - 1 < 4611686018427387904 := by omega
  simp? only [h1]
  have e : ((ns.length : Int) - 1).toNat = ns.length - 1 := by omega
  rw [e, lc_map (f := fun x => .bl (nbI ns x))]
  · simp? only [List.nil_append, all_of, nbI_all]
  · intro x hx Q
    obtain ⟨i, hi, rfl⟩ := range_mem hx
    have e2 : (0 : Int) + (i : Int) = (i : Int) := Int.zero_add _
    rw [e2]
    have a1 : ns[i]? = some ns[i] := List.getElem?_eq_getElem (by omega)
    have a2 : ns[i + 1]? = some ns[i + 1] := List.getElem?_eq_getElem (by omega)
    have c : (i : Int) + 1 = ((i + 1 : Nat) : Int) := by omega
    simp? only [c, Pd.atI_nat, List.getElem?_map, a1, a2, nbI, Int.toNat_natCast]
  · exact fun x _ => rfl
  · rw [rangeD_len, sizeLine_eq]
    simp
    omega
theorem q_ascendS {x : Str} (hl : x.length ≤ 16777216) : WF F_do_ascend [.str x] S Q E = Q (.bl (ascN x.cps.toList)) S := by
  have ex : x.length = x.cps.toList.length := by simp [Str.length]
  have hs : x.length ≤ sizeLine := by rw [sizeLine_eq]; exact hl
  have l1 : lenD [.str x] = some (.int x.length) := if_pos hs
  unfold F_do_ascend B_do_ascend
  simp? only [l1]
  have h1 : (-4611686018427387904) ≤ (x.length : Int) - 1 ∧ (x.length : Int) - 1 < 4611686018427387904 := by omega
  simp? only [h1]
  have e : ((x.length : Int) - 1).toNat = x.cps.toList.length - 1 := by omega
  rw [e, lc_map (f := fun y => .bl (nbN x.cps.toList y))]
  · simp? only [List.nil_append, all_of, nbN_all]
  · intro y hx Q
    obtain ⟨i, hi, rfl⟩ := range_mem hx
    have e2 : (0 : Int) + (i : Int) = (i : Int) := Int.zero_add _
    rw [e2]
    have a1 : x.cps.toList[i]? = some x.cps.toList[i] := List.getElem?_eq_getElem (by omega)
    have a2 : x.cps.toList[i + 1]? = some x.cps.toList[i + 1] := List.getElem?_eq_getElem (by omega)
    have c : (i : Int) + 1 = ((i + 1 : Nat) : Int) := by omega
    have k : ∀ i : Int, ixD (.str x) (.int i) = (atI x.cps.toList i).map fun c => .str ⟨#[c]⟩ := fun i => if_pos hs
    have lt1 : ∀ a b : Nat, ltD (.str ⟨#[a]⟩) (.str ⟨#[b]⟩) = some (decide (a < b)) := fun a b => by simp only [ltD, lt_one]
    simp? only [c, k, Pd.atI_nat, a1, a2, nbN, Int.toNat_natCast, lt1]
  · exact fun x _ => rfl
  · rw [rangeD_len, sizeLine_eq]
    simp only [List.length_nil]
    omega
theorem q_ascending (h : pl d = true) (hd : ∀ ds, d = .tup ds → (∀ x ∈ ds, pl x = true) ∧ ds.length < 16777216) : WF F_are_ascending [d, .int lo, .int hi] S Q E = Q (.bl (btws lo hi d && ascD d)) S := by
  have key : ∀ {S Q E}, WF F_are_between [d, .int lo, .int hi] S Q E = Q (.bl (btws lo hi d)) S := q_are_between h fun ds e => ⟨(hd ds e).1, by rw [sizeLine_eq]; exact Nat.le_of_lt (hd ds e).2⟩
  unfold F_are_ascending B_are_ascending
  simp? only [key, pl_fx h]
  cases c : btws lo hi d with
  | false => simp? only [Bool.false_and]
  | true =>
    cases d <;> first | (simp [btws] at c; done) | skip
    rename_i ds
    have e := ints_of_btw (lo := lo) (hi := hi) c
    have hl := (hd ds rfl).2
    generalize hn : intsL ds = ns at e
    subst e
    rw [intsL_map] at hn
    simp? only [q_ascendI (S := S) (ns := ns) (by simpa using hl), Bool.true_and, ascD, intsL_map]
theorem q_letters (h : pl d = true) (hd : ∀ x, d = .str x → x.length ≤ 16777216) : WF F_are_letters [d] S Q E = Q (.bl (lettersD d)) S := by
  unfold F_are_letters B_are_letters
  cases d <;> first | (simp [pl, tyN] at h; done) | (simp? only [lettersD]; done) | skip
  rename_i x
  have hl := hd x rfl
  have hi : items (.str x) = some (x.cps.toList.map fun c => .str ⟨#[c]⟩) := rfl
  simp? only [hi]
  rw [lc_map (f := fun y => .bl (match y with | .str z => decide (97 ≤ z.cps.toList.headD 0) && decide (z.cps.toList.headD 0 ≤ 122) | _ => false))]
  · simp? only [List.nil_append, all_of, List.all_map, q_ascendS hl, lettersD]
    have e : (x.cps.toList.all fun c => decide (97 ≤ c) && decide (c ≤ 122)) = x.cps.toList.all ((fun y : D => match y with | .str z => decide (97 ≤ z.cps.toList.headD 0) && decide (z.cps.toList.headD 0 ≤ 122) | _ => false) ∘ fun c => .str ⟨#[c]⟩) := rfl
    rw [e]
    cases x.cps.toList.all ((fun y : D => match y with | .str z => decide (97 ≤ z.cps.toList.headD 0) && decide (z.cps.toList.headD 0 ≤ 122) | _ => false) ∘ fun c => .str ⟨#[c]⟩) with
    | false => simp? only [Bool.false_and]
    | true => simp? only [Bool.true_and, q_ascendS hl]
  · intro y hy Q
    obtain ⟨c, _, rfl⟩ := List.mem_map.mp hy
    have l1 : leD (.str "a") (.str ⟨#[c]⟩) = some (decide (97 ≤ c)) := by
      show some (!decide ([c] < [97])) = _
      simp only [lt_one]
      congr 1
      by_cases q : 97 ≤ c
      · rw [decide_eq_true q, decide_eq_false (by omega)]; rfl
      · rw [decide_eq_false q, decide_eq_true (by omega)]; rfl
    have l2 : leD (.str ⟨#[c]⟩) (.str "z") = some (decide (c ≤ 122)) := by
      show some (!decide ([122] < [c])) = _
      simp only [lt_one]
      congr 1
      by_cases q : c ≤ 122
      · rw [decide_eq_true q, decide_eq_false (by omega)]; rfl
      · rw [decide_eq_false q, decide_eq_true (by omega)]; rfl
    simp? only [l1]
    by_cases c1 : 97 ≤ c
    · simp? only [c1, l2, List.headD_cons, Bool.true_and]
      all_goals rfl
    · simp? only [c1, List.headD_cons, Bool.false_and]
  · exact fun x _ => rfl
  · rw [sizeLine_eq]
    simpa [Str.length] using hl
theorem q_heard (h : pl d = true) (hd : ∀ x, d = .str x → x.length ≤ 16777216) : WF F_is_heard [d] S Q E = Q (.bl (lettersD d)) S := by
  have key : ∀ {S Q E}, WF F_are_letters [d] S Q E = Q (.bl (lettersD d)) S := q_letters h hd
  unfold F_is_heard B_is_heard
  simp? only [key, pl_fx h]
theorem q_tuple_of {n : Int} (h : pl d = true) : WF F_is_tuple_of [d, .int n] S Q E = Q (.bl (tupOf n d)) S := by
  unfold F_is_tuple_of B_is_tuple_of
  cases d <;> first | (simp [pl, tyN] at h; done) | (simp? only [tupOf]; done)
end
section
variable {S : Sto} {Q : D → Sto → Prop} {E : EQ} {d : D} {M : Lim}
structure Sml (M : Lim) : Prop where
  L : M.L < 64
  T : M.T < 64
theorem ok_hd (hM : Sml M) (h : okv M d = true) : ∀ ds, d = .tup ds → (∀ x ∈ ds, pl x = true) ∧ ds.length < 16777216 := by
  rintro ds rfl
  exact ⟨fun x hx => okv_pl (okv_mem h hx), by have := okv_len h; have := hM.T; omega⟩
theorem ok_hs (hM : Sml M) (h : okv M d = true) : ∀ x, d = .str x → x.length ≤ 16777216 := by
  rintro x rfl
  simp only [okv, Bool.and_eq_true, decide_eq_true_eq] at h
  have := hM.L
  omega
/-- rooms of a guest -/
def groomsD : D → Bool
  | .tup (.int a :: r) => btws (-1) 9 (.tup (.int a :: r)) && decide (a = -1)
  | _ => false
theorem q_rooms (hM : Sml M) (h : okv M d = true) : WF F_are_rooms [d] S Q E = Q (.bl (btws (-1) 9 d && (match d with | .tup (_ :: _) => true | _ => false))) S := by
  have hd := ok_hd hM h
  have key : ∀ {S Q E}, WF F_are_between [d, .int (-1), .int 9] S Q E = Q (.bl (btws (-1) 9 d)) S := q_are_between (okv_pl h) fun ds e => ⟨(hd ds e).1, by rw [sizeLine_eq]; exact Nat.le_of_lt (hd ds e).2⟩
  unfold F_are_rooms B_are_rooms
  simp? only [key, okv_Fx h]
  cases c : btws (-1) 9 d with
  | false => simp? only [Bool.false_and]
  | true =>
    cases d <;> first | (simp [btws] at c; done) | skip
    rename_i ds
    cases ds with
    | nil =>
      have e : decide ((0 : Int) < ((0 : Nat) : Int)) = false := rfl
      simp? only [e, Bool.and_false]
    | cons x r =>
      have e : decide ((0 : Int) < ((r.length + 1 : Nat) : Int)) = true := decide_eq_true (by omega)
      simp? only [e, Bool.and_self]
theorem q_grooms (hM : Sml M) (h : okv M d = true) : WF F_are_guest_rooms [d] S Q E = Q (.bl (groomsD d)) S := by
  unfold F_are_guest_rooms B_are_guest_rooms
  simp? only [q_rooms (S := S) hM h, okv_Fx h]
  cases d <;> first | (simp [okv] at h; done) | (simp? only [btws, groomsD, Bool.false_and]; done) | skip
  rename_i ds
  cases ds with
  | nil => simp? only [btws, groomsD, Bool.and_false]
  | cons x r =>
    cases c : btws (-1) 9 (.tup (x :: r)) with
    | false =>
      have e : groomsD (.tup (x :: r)) = false := by
        cases x <;> first | rfl | (simp only [groomsD, c, Bool.false_and])
      simp? only [e, Bool.false_and]
    | true =>
      have c' := c
      cases x <;> first | (simp [btws, btw] at c'; done) | skip
      rename_i i
      have e : atI (D.int i :: r) 0 = some (.int i) := Pd.atI_nat (i := 0)
      simp? only [e, groomsD, c, Bool.true_and, Bool.and_self]
/-- a move of a guest -/
def gmoveD (n : Int) : D → Bool
  | .tup [a, b, h, f] => btw 0 (n - 1) a && (btw 0 (n - 1) b && (lettersD h && (btws 0 99 f && ascD f)))
  | _ => false
theorem tupOf4 {d : D} (h : tupOf 4 d = true) : ∃ a b c e, d = .tup [a, b, c, e] := by
  cases d <;> first | (simp [tupOf] at h; done) | skip
  rename_i ds
  match ds, h with
  | [a, b, c, e], _ => exact ⟨_, _, _, _, rfl⟩
  | [], h => simp [tupOf] at h
  | [_], h => simp [tupOf] at h
  | [_, _], h => simp [tupOf] at h
  | [_, _, _], h => simp [tupOf] at h
  | _ :: _ :: _ :: _ :: _ :: _, h => simp [tupOf] at h; omega
theorem gmove_no {n : Int} (h : tupOf 4 d = false) : gmoveD n d = false := by
  unfold gmoveD
  split
  · simp [tupOf] at h
  · rfl
theorem q_gmove (hM : Sml M) {rs : List D} (h : okv M d = true) : WF F_is_guest_move [.tup rs, d] S Q E = Q (.bl (gmoveD rs.length d)) S := by
  unfold F_is_guest_move B_is_guest_move
  simp? only [q_tuple_of (S := S) (n := 4) (okv_pl h), okv_Fx h]
  cases c : tupOf 4 d with
  | false => simp? only [gmove_no c]
  | true =>
    obtain ⟨a, b, t, f, rfl⟩ := tupOf4 c
    have m := fun {x : D} (hx : x ∈ [a, b, t, f]) => okv_mem h hx
    have ha := m (x := a) (by simp)
    have hb := m (x := b) (by simp)
    have ht := m (x := t) (by simp)
    have hf := m (x := f) (by simp)
    simp? only [okv_Fx ha, okv_Fx hb, okv_Fx ht, okv_Fx hf, q_between (S := S) (okv_pl ha), q_between (S := S) (okv_pl hb), q_heard (S := S) (okv_pl ht) (ok_hs hM ht), q_ascending (S := S) (okv_pl hf) (ok_hd hM hf), gmoveD]
    cases ca : btw 0 ((rs.length : Int) - 1) a <;> cases cb : btw 0 ((rs.length : Int) - 1) b <;> cases ct : lettersD t <;> simp? only [ca, cb, ct, okv_Fx hb, okv_Fx ht, okv_Fx hf, Bool.true_and, Bool.false_and, q_between (S := S) (okv_pl hb), q_heard (S := S) (okv_pl ht) (ok_hs hM ht), q_ascending (S := S) (okv_pl hf) (ok_hd hM hf)]
/-- the number of the first item that is no move -/
def firstBad (n : Int) : Nat → List D → Option D
  | _, [] => none
  | k, d :: ds => if gmoveD n d = true then firstBad n (k + 1) ds else some (.int k)
/-- what is wrong -/
def mdue (n : Int) : D → Option D
  | .tup ms => firstBad n 0 ms
  | _ => some (.str "moves")
def gdue : D → D → Option D
  | .tup rs, m => if groomsD (.tup rs) = true then mdue rs.length m else some (.str "rooms")
  | _, _ => some (.str "rooms")
def enumF : Nat → List D → List D
  | _, [] => []
  | k, d :: ds => .tup [.int k, d] :: enumF (k + 1) ds
theorem enumF_eq : ∀ (ds : List D) (k : Nat), List.zipWith (fun a b => D.tup [a, b]) ((List.range ds.length).map fun i : Nat => D.int ((k : Int) + (i : Int))) ds = enumF k ds
  | [], k => rfl
  | d :: ds, k => by
    rw [List.length_cons, range_cons, List.map_cons, List.zipWith_cons_cons, enumF, ← enumF_eq ds (k + 1), List.map_map]
    congr 3
    funext i
    show D.int ((k : Int) + ((i + 1 : Nat) : Int)) = D.int (((k + 1 : Nat) : Int) + (i : Int))
    congr 1
    omega
theorem enumD_F (ds : List D) : enumD ds = enumF 0 ds := by
  have := enumF_eq ds 0
  unfold enumD rangeD
  rw [← this]
  rfl
theorem q_init (hM : Sml M) {r m : D} (hr : okv M r = true) (hm : okv M m = true) (hq : match gdue r m with
    | some p => E "BadGuest" [("part", p)] S
    | none => Q (.ins "Guest" [("rooms", r), ("moves", m)]) S) : WF F_Guest_init [r, m] S Q E := by
  unfold F_Guest_init B_Guest_init
  simp? only [okv_Fx hr, okv_Fx hm, q_grooms (S := S) hM hr]
  cases c : groomsD r with
  | false =>
    have e : gdue r m = some (.str "rooms") := by
      cases r <;> first | rfl | (simp only [gdue, c, Bool.false_eq_true, if_false])
    rw [e] at hq
    simp? only [and_self]
    exact hq
  | true =>
    cases r <;> first | (simp [groomsD] at c; done) | skip
    rename_i rs
    have eg : gdue (.tup rs) m = mdue rs.length m := by simp only [gdue, c, if_true]
    rw [eg] at hq
    simp? only [and_self]
    cases m <;> first | (simp [okv] at hm; done) | (simp? only [pl_rsv (okv_pl hm)]; exact hq) | skip
    rename_i ms
    rw [mdue] at hq
    simp? only [enumD_F]
    refine for_inv (P := fun xs ρ S' => S' = S ∧ ∃ k ds x3 x4, xs = enumF k ds ∧ (∀ d ∈ ds, okv M d = true) ∧ ρ = [.m (.ins "Guest" []), .d (.tup rs), .d (.tup ms), x3, x4] ∧ firstBad rs.length k ds = firstBad rs.length 0 ms) ⟨rfl, 0, ms, _, _, rfl, fun d hd => okv_mem hm hd, rfl, rfl⟩ ?_ ?_
    · rintro x xs pre ρ' S' - ⟨rfl, k, ds, x3, x4, e, hd, rfl, hb⟩
      cases ds with
      | nil => cases e
      | cons d ds =>
        rw [enumF] at e
        injection e with e1 e2
        subst e1 e2
        have hdd := hd d List.mem_cons_self
        simp? only [q_gmove (S := S') hM hdd, okv_Fx hdd]
        rw [firstBad] at hb
        cases cg : gmoveD rs.length d with
        | true =>
          rw [cg, if_pos rfl] at hb
          simp? only [and_self]
          exact ⟨k + 1, ds, _, _, rfl, fun d h => hd d (List.mem_cons_of_mem _ h), rfl, hb⟩
        | false =>
          rw [cg, if_neg (by decide)] at hb
          rw [← hb] at hq
          simp? only [and_self]
          exact hq
    · rintro ρ' S' ⟨rfl, k, ds, x3, x4, e, hd, rfl, hb⟩
      cases ds with
      | cons d ds => cases e
      | nil =>
        rw [firstBad] at hb
        rw [← hb] at hq
        have l0 : (0 : Nat) < 1000 := by decide
        have l1 : (0 + 1 : Nat) < 1000 := by decide
        have ne : (("rooms" : Str) = "moves") = False := by decide +kernel
        simp? only [okv_Fx hr, okv_Fx hm, putFD, l0, l1, ne]
        exact hq
end
end Lk56

namespace Lk56
open PySem L2 Pd TL
section
variable {S : Sto} {Q : D → Sto → Prop} {E : EQ} {d : D} {M : Lim}
theorem l_whole (h : pl d = true) : WF F__law_is_whole [d] S Q E = Q (.bl (isI d)) S := by
  cases d <;> first | (simp [pl, tyN] at h; done) | (unfold F__law_is_whole B__law_is_whole; simp? only [and_self]; rfl)
theorem in_abc : ∀ c : Nat, c < 128 → inD (.str ⟨#[c]⟩) (.str "abcdefghijklmnopqrstuvwxyz") = some (decide (97 ≤ c) && decide (c ≤ 122)) := by
  have h : (List.range 128).all (fun c => match inD (.str ⟨#[c]⟩) (.str "abcdefghijklmnopqrstuvwxyz") with | some b => b == (decide (97 ≤ c) && decide (c ≤ 122)) | none => false) = true := by decide +kernel
  intro c hc
  have := List.all_eq_true.mp h c (List.mem_range.mpr hc)
  revert this
  cases inD (.str ⟨#[c]⟩) (.str "abcdefghijklmnopqrstuvwxyz") with
  | none => intro z; cases z
  | some b => intro z; rw [eq_of_beq z]
theorem nin_abc {c : Nat} (hc : c < 128) : ninF (.str ⟨#[c]⟩) (.str "abcdefghijklmnopqrstuvwxyz") = some (!(decide (97 ≤ c) && decide (c ≤ 122))) := by
  show (inD _ _).map _ = _
  rw [in_abc c hc]
  rfl
def letr : D → Bool
  | .str z => decide (97 ≤ z.cps.toList.headD 0) && decide (z.cps.toList.headD 0 ≤ 122)
  | _ => false
theorem filter_none {ds : List D} {p : D → Bool} : (ds.filter fun x => !p x).isEmpty = ds.all p := by
  induction ds with
  | nil => rfl
  | cons d ds ih =>
    cases c : p d with
    | true => rw [List.filter_cons_of_neg (by simp [c]), List.all_cons, c, ih, Bool.true_and]
    | false => rw [List.filter_cons_of_pos (by simp [c]), List.all_cons, c]; rfl
theorem l_told (hM : Sml M) (h : okv M d = true) : WF F__law_is_told [d] S Q E = Q (.bl (lettersD d)) S := by
  unfold F__law_is_told B__law_is_told
  cases d <;> first | (simp [okv] at h; done) | (simp? only [lettersD]; done) | skip
  rename_i x
  have hx := h
  simp only [okv, Bool.and_eq_true, decide_eq_true_eq, List.all_eq_true] at hx
  have hl : x.cps.toList.length < 64 := by have := hM.L; rw [← len_tl]; omega
  have hi : items (.str x) = some (x.cps.toList.map fun c => .str ⟨#[c]⟩) := rfl
  simp? only [hi]
  rw [lc_filter (t := fun y => !letr y)]
  · have e1 : (x.cps.toList.map fun c => D.str ⟨#[c]⟩).all letr = x.cps.toList.all fun c => decide (97 ≤ c) && decide (c ≤ 122) := by rw [List.all_map]; rfl
    have e2 : sortAnyD (.str x) = some (.lst ((sortN x.cps.toList).map fun c => D.str (sg c))) := if_pos (by simpa using hl)
    have e3 := join_told (cs := sortN x.cps.toList) (by have := sortN_len x.cps.toList; omega)
    have e4 : decide (x = (⟨(sortN x.cps.toList).toArray⟩ : Str)) = ascN x.cps.toList := by
      rw [← sortN_same]
      congr 1
      rw [str_eq_iff]
    simp? only [List.nil_append, filter_none, e1, lettersD]
    cases x.cps.toList.all fun c => decide (97 ≤ c) && decide (c ≤ 122) with
    | false => simp? only [Bool.false_and]
    | true => simp? only [e2, e3, e4, Bool.true_and]
  · intro y hy Q
    obtain ⟨c, hc, rfl⟩ := List.mem_map.mp hy
    have hc := hx.2 c hc
    simp? only [nin_abc hc, letr, List.headD_cons]
    by_cases c1 : 97 ≤ c <;> by_cases c2 : c ≤ 122 <;> simp? only [c1, c2, Bool.and_self, Bool.and_true, Bool.and_false]
  · intro y hy
    obtain ⟨c, hc, rfl⟩ := List.mem_map.mp hy
    rfl
  · rw [sizeLine_eq]
    simp only [List.length_nil, List.length_map]
    omega
/-- a whole number from lo up to, not including, hi -/
theorem l_spots {lo hi : Int} {ds : List D} (h : ∀ x ∈ ds, pl x = true) {ρ : Rho} {i : Nat} (hl : ds.length < 16777216) {t : Pd.M Bool} (ht : ∀ x ∈ ds, ∀ S Q, WM t (put ρ i (.d x)) S Q NoE = Q (!(btw lo hi x)) S) {QL : List D → Sto → Prop} (hv : ∀ x, nth (put ρ i (.d x)) i = .d x) (hw : ∀ x, put (wipeR ρ [i]) i (.d x) = put ρ i (.d x)) :
    LC [i] (g_name i) t (m_var i) ρ ds [] S QL = QL (ds.filter fun x => !(btw lo hi x)) S := by
  rw [lc_filter (t := fun x => !(btw lo hi x))]
  · rw [List.nil_append]
  · intro x hx Q
    rw [turn_def, g_nm, opr_some, k_t0, hw, ht x hx]
    cases btw lo hi x <;> simp? only [hv]
  · exact fun x hx => pl_fx (h x hx)
  · rw [sizeLine_eq]; simp only [List.length_nil]; omega
theorem btw_lt {lo hi hi' i : Int} (h : hi' = hi - 1) : (decide (lo ≤ i) && decide (i < hi)) = btw lo hi' (.int i) := by
  subst h
  show _ = (decide (lo ≤ i) && decide (i ≤ hi - 1))
  congr 1
  exact decide_eq_decide.mpr (by omega)
def sh4 : D → Bool
  | .tup [_, _, h, .tup _] => lettersD h
  | _ => false
theorem l_row (hM : Sml M) {n : Int} (h : okv M d = true) : WF F__law_is_row [d, .int n] S Q E = Q (.bl (gmoveD n d)) S := by
  unfold F__law_is_row B__law_is_row
  cases d <;> first | (simp [okv] at h; done) | (simp? only [gmoveD]; done) | skip
  rename_i ds
  have hm := fun {x : D} (hx : x ∈ ds) => okv_mem h hx
  have hlen : ds.length < 64 := by have := okv_len h; have := hM.T; omega
  cases c4 : decide ((ds.length : Int) = 4) with
  | false =>
    have e : gmoveD n (.tup ds) = false := gmove_no (by simp only [tupOf, c4])
    simp? only [eg_int, c4, e]
  | true =>
    obtain ⟨a, b, t, f, e⟩ := tupOf4 (d := .tup ds) (by simp only [tupOf, c4])
    injection e with e
    subst e
    have ha := hm (x := a) (by simp)
    have hb := hm (x := b) (by simp)
    have ht := hm (x := t) (by simp)
    have hf := hm (x := f) (by simp)
    have i2 : atI [a, b, t, f] 2 = some t := Pd.atI_nat (i := 2)
    have i3 : atI [a, b, t, f] 3 = some f := Pd.atI_nat (i := 3)
    have e4 : decide (((0 + 1 + 1 + 1 + 1 : Nat) : Int) = 4) = true := by decide
    have c2 : cutD [a, b, t, f] none (some 2) = [a, b] := rfl
    simp? only [i2, i3, l_told (S := S) hM ht, okv_Fx ht, e4]
    cases ct : lettersD t with
    | false =>
      have e : gmoveD n (.tup [a, b, t, f]) = false := by simp only [gmoveD, ct, Bool.false_and, Bool.and_false]
      simp? only [e]
    | true =>
      simp? only [i3]
      cases f <;> first | (simp [okv] at hf; done) | (simp? only [gmoveD, btws, Bool.false_and, Bool.and_false]; done) | skip
      rename_i fs
      simp? only [c2]
      have hfs := fun {x : D} (hx : x ∈ fs) => okv_mem hf hx
      have hfl : fs.length < 64 := by have := okv_len hf; have := hM.T; omega
      rw [l_spots (lo := 0) (hi := n - 1) (fun x hx => okv_pl (by rcases List.mem_cons.mp hx with rfl | hx; exact ha; rw [List.mem_singleton.mp hx]; exact hb)) (by simp)]
      · simp? only [filter_none, List.all_cons, List.all_nil, Bool.and_true]
        cases ca : btw 0 (n - 1) a with
        | false =>
          simp? only [gmoveD, ca, Bool.false_and]
        | true =>
          cases cb : btw 0 (n - 1) b with
          | false => simp? only [gmoveD, ca, cb, Bool.false_and, Bool.true_and]
          | true =>
            simp? only [i3, Bool.and_self]
            rw [l_spots (lo := 0) (hi := 99) (fun x hx => okv_pl (hfs hx)) (by omega)]
            · simp? only [filter_none, gmoveD, ca, cb, ct, Bool.true_and]
              have eb : btws 0 99 (.tup fs) = fs.all (btw 0 99) := rfl
              cases cf : fs.all (btw 0 99) with
              | false => simp? only [eb, cf, Bool.false_and]
              | true =>
                have ef := ints_of_btw (lo := 0) (hi := 99) cf
                generalize hn : intsL fs = ns at ef
                subst ef
                rw [intsL_map] at hn
                have so : sortAnyD (.tup (ns.map D.int)) = some (.lst ((sortI ns).map D.int)) := by
                  show sortSetD (.tup (ns.map D.int)) = _
                  simp only [sortSetD, ints_ofD, Option.bind_some]
                  rw [if_pos (by simpa using hfl)]
                simp? only [i3, so, eqG_ints, sortI_same, eb, cf, Bool.true_and, ascD, intsL_map]
            · intro x hx S Q
              have hx' : okv M x = true := hfs hx
              simp? only [okv_Fx hx', l_whole (S := S) (okv_pl hx')]
              cases x <;> first | (simp [okv] at hx'; done) | (simp? only [isI, btw]; done) | skip
              rename_i i
              simp? only [isI]
              rw [← btw_lt (hi := 100) (by omega)]
              cases decide (0 ≤ i) <;> simp? only [Bool.false_and, Bool.true_and]
            · exact fun x => rfl
            · exact fun x => rfl
      · intro x hx S Q
        have hx' : okv M x = true := by
          rcases List.mem_cons.mp hx with rfl | hx
          · exact ha
          · rw [List.mem_singleton.mp hx]; exact hb
        simp? only [okv_Fx hx', l_whole (S := S) (okv_pl hx')]
        cases x <;> first | (simp [okv] at hx'; done) | (simp? only [isI, btw]; done) | skip
        rename_i i
        simp? only [isI]
        rw [← btw_lt (hi := n) (by omega)]
        cases decide (0 ≤ i) <;> simp? only [Bool.false_and, Bool.true_and]
      · exact fun x => rfl
      · exact fun x => rfl
end
end Lk56

namespace Lk56
open PySem L2 Pd TL
section
variable {S : Sto} {Q : D → Sto → Prop} {E : EQ} {d : D} {M : Lim}
def badR (n : Int) : D → Option D
  | .tup [.int k, d] => if gmoveD n d = true then none else some (.int k)
  | _ => none
theorem cut1 {ds : List D} : cutD ds none (some 1) = ds.take 1 := by
  unfold cutD
  rw [show HT.sIx ds.length ds.length (some 1) = min 1 ds.length from HT.sIx_nat _ _ 1]
  show (ds.drop 0).take (min 1 ds.length - 0) = _
  cases ds <;> simp
theorem bad_first {n : Int} : ∀ (ds : List D) (k : Nat), ((enumF k ds).filterMap (badR n)).take 1 = (firstBad n k ds).toList
  | [], _ => rfl
  | d :: ds, k => by
    rw [enumF, firstBad]
    by_cases c : gmoveD n d = true
    · rw [List.filterMap_cons_none (by simp only [badR, c, if_true]), if_pos c, bad_first ds (k + 1)]
    · rw [List.filterMap_cons_some (b := .int k) (by simp only [badR, c]; rfl), if_neg c]
      simp
theorem enumF_mem {ds : List D} {x : D} : ∀ {k : Nat}, x ∈ enumF k ds → ∃ (j : Nat) (d : D), x = .tup [.int j, d] ∧ d ∈ ds := by
  induction ds with
  | nil => intro k h; cases h
  | cons d ds ih =>
    intro k h
    rw [enumF] at h
    rcases List.mem_cons.mp h with rfl | h
    · exact ⟨k, d, rfl, List.mem_cons_self⟩
    · obtain ⟨j, e, rfl, he⟩ := ih h
      exact ⟨j, e, rfl, List.mem_cons_of_mem _ he⟩
theorem enumF_len : ∀ (ds : List D) (k : Nat), (enumF k ds).length = ds.length
  | [], _ => rfl
  | d :: ds, k => by rw [enumF, List.length_cons, enumF_len ds, List.length_cons]
theorem l_due (hM : Sml M) {r m : D} (hr : okv M r = true) (hm : okv M m = true) : WF F__law_due [r, m] S Q E = Q (.lst (gdue r m).toList) S := by
  unfold F__law_due B__law_due
  cases r <;> first | (simp [okv] at hr; done) | (simp? only [gdue, Option.toList]; done) | skip
  rename_i rs
  have hrs := fun {x : D} (hx : x ∈ rs) => okv_mem hr hx
  have hrl : rs.length < 64 := by have := okv_len hr; have := hM.T; omega
  simp? only [and_self]
  cases c0 : rs.isEmpty with
  | true =>
    have e : rs = [] := List.isEmpty_iff.mp c0
    subst e
    simp? only [gdue, groomsD, Option.toList]
  | false =>
    simp? only [and_self]
    rw [lc_filter (t := fun x => !(btw (-1) 9 x))]
    · simp? only [List.nil_append, filter_none]
      cases ca : rs.all (btw (-1) 9) with
      | false =>
        have e : groomsD (.tup rs) = false := by
          unfold groomsD
          split
          · rename_i heq
            cases heq
            simp only [btws, ca, Bool.false_and]
          · rfl
        simp? only [gdue, e, Option.toList]
      | true =>
        cases rs with
        | nil => cases c0
        | cons x xs =>
          have ca' := ca
          cases x <;> first | (simp [btw] at ca'; done) | skip
          rename_i i
          have i0 : atI (D.int i :: xs) 0 = some (.int i) := Pd.atI_nat (i := 0)
          have eg : groomsD (.tup (.int i :: xs)) = decide (i = -1) := by simp only [groomsD, btws, ca, Bool.true_and]
          simp? only [i0, gdue, eg]
          by_cases c1 : i = -1
          · simp? only [c1]
            cases m <;> first | (simp [okv] at hm; done) | (simp? only [mdue, Option.toList]; done) | skip
            rename_i ms
            have hms := fun {x : D} (hx : x ∈ ms) => okv_mem hm hx
            have hml : ms.length < 64 := by have := okv_len hm; have := hM.T; omega
            simp? only [enumD_F]
            rw [lc_pure (r := badR (((xs.length + 1 : Nat) : Int)))]
            · simp? only [List.nil_append, cut1, bad_first, mdue]
            · intro x hx Q
              obtain ⟨j, d, rfl, hd⟩ := enumF_mem hx
              have hd := hms hd
              simp? only [l_row (S := S) hM hd, okv_Fx hd, badR]
              cases gmoveD (((xs.length + 1 : Nat) : Int)) d with
              | true => simp? only [and_self]
              | false => simp? only [and_self]
            · intro x hx y e
              obtain ⟨j, d, rfl, hd⟩ := enumF_mem hx
              simp only [badR] at e
              split at e <;> cases e
              rfl
            · rw [enumF_len, sizeLine_eq]; simp only [List.length_nil]; omega
          · simp? only [c1, Option.toList]
    · intro x hx Q
      have hx' : okv M x = true := hrs hx
      simp? only [okv_Fx hx', l_whole (S := S) (okv_pl hx')]
      cases x <;> first | (simp [okv] at hx'; done) | (simp? only [isI, btw]; done) | skip
      rename_i i
      simp? only [isI, btw]
      by_cases c1 : -1 ≤ i <;> by_cases c2 : i ≤ 9 <;> simp? only [c1, c2, Bool.and_self, Bool.and_true, Bool.and_false]
    · exact fun x hx => okv_Fx (hrs hx)
    · rw [sizeLine_eq]; simp only [List.length_nil]; omega
/-- what is made, or told of the error -/
def heardD (r m : D) : D := match gdue r m with
  | some p => .lst [p, .bl true]
  | none => .ins "Guest" [("rooms", r), ("moves", m)]
theorem first_int {n : Int} : ∀ {ds : List D} {k : Nat} {p : D}, firstBad n k ds = some p → ∃ j : Nat, p = .int j ∧ j < k + ds.length
  | [], _, _, h => by cases h
  | d :: ds, k, p, h => by
    rw [firstBad] at h
    split at h
    · obtain ⟨j, rfl, hj⟩ := first_int h
      exact ⟨j, rfl, by simp only [List.length_cons]; omega⟩
    · cases h
      exact ⟨k, rfl, by simp only [List.length_cons]; omega⟩
def L0 : Lim := ⟨64, 8, 8⟩
theorem due_ok (hM : Sml M) {r m p : D} (hm : okv M m = true) (h : gdue r m = some p) : okv L0 p = true ∧ dep p = 0 ∧ wt p ≤ 8 := by
  have hs : ∀ x : Str, (x = "rooms" ∨ x = "moves") → okv L0 (.str x) = true ∧ dep (.str x) = 0 ∧ wt (.str x) ≤ 8 := by
    intro x hx
    rcases hx with rfl | rfl <;> decide +kernel
  unfold gdue at h
  split at h
  · split at h
    · rename_i rs _ _
      cases m <;> first | (simp [okv] at hm; done) | (cases h; exact hs _ (.inr rfl)) | skip
      rename_i ms
      obtain ⟨j, rfl, hj⟩ := first_int h
      have := okv_len hm
      have := hM.T
      refine ⟨?_, rfl, Nat.zero_le _⟩
      show decide (((j : Nat) : Int).natAbs ≤ 64) = true
      exact decide_eq_true (by omega)
    · cases h; exact hs _ (.inl rfl)
  · cases h; exact hs _ (.inl rfl)
theorem l_heard (hM : Sml M) {r m : D} (hr : okv M r = true) (hm : okv M m = true) (k : Bool) (h : Q (heardD r m) S) : WF F__law_heard [r, m, .bl k] S Q E := by
  unfold F__law_heard B__law_heard
  have lk : ∀ p : D, List.lookup ("part" : Str) [(("part" : Str), p)] = some p := fun p => List.lookup_cons_self
  have me : (("BadGuest" : Str) ∈ [("BadGuest" : Str)]) = True := by simp
  have rest : ∀ {S : Sto} {ρ : Rho}, True := trivial
  cases k with
  | true =>
    simp? only [okv_Fx hr, okv_Fx hm]
    refine q_init hM hr hm ?_
    unfold heardD at h
    cases e : gdue r m with
    | some p =>
      rw [e] at h
      have fx := okv_Fx (due_ok hM hm e).1
      simp? only [lk, me, fx]
      exact h
    | none =>
      rw [e] at h
      simp? only [and_self]
      exact h
  | false =>
    simp? only [okv_Fx hr, okv_Fx hm]
    refine q_init hM hr hm ?_
    unfold heardD at h
    cases e : gdue r m with
    | some p =>
      rw [e] at h
      have fx := okv_Fx (due_ok hM hm e).1
      simp? only [lk, me, fx]
      exact h
    | none =>
      rw [e] at h
      simp? only [and_self]
      exact h
end
end Lk56

namespace Lk56
open PySem L2 Pd TL
section
variable {S : Sto} {Q : D → Sto → Prop} {E : EQ} {d : D} {M : Lim}
theorem q_len {rs : List D} {m : D} : WF F_Guest_len [.ins "Guest" [("rooms", .tup rs), ("moves", m)]] S Q E = Q (.int rs.length) S := by
  unfold F_Guest_len B_Guest_len
  simp? only [and_self]
theorem q_eq_other {fs : List (Str × D)} (h : pl d = true) : WF F_Guest_eq [.ins "Guest" fs, d] S Q E = Q (.bl false) S := by
  unfold F_Guest_eq B_Guest_eq
  simp? only [pl_rsv h, isO_pl h]
theorem q_eq {r m r' m' : D} {a b : Bool} (ha : eqG r r' = some a) (hb : eqG m m' = some b) (fr : pl r = true) (fr' : pl r' = true) (fm : pl m = true) (fm' : pl m' = true) : WF F_Guest_eq [.ins "Guest" [("rooms", r), ("moves", m)], .ins "Guest" [("rooms", r'), ("moves", m')]] S Q E = Q (.bl (a && b)) S := by
  unfold F_Guest_eq B_Guest_eq
  simp? only [pl_rsv fr, pl_rsv fr', ha]
  cases a with
  | true => simp? only [pl_rsv fm, pl_rsv fm', hb, Bool.true_and]
  | false => simp? only [Bool.false_and]
theorem first_none {n : Int} : ∀ {ds : List D} {k : Nat}, firstBad n k ds = none → ∀ d ∈ ds, gmoveD n d = true
  | [], _, _, d, hd => by cases hd
  | x :: ds, k, h, d, hd => by
    rw [firstBad] at h
    split at h
    · rcases List.mem_cons.mp hd with rfl | hd
      · assumption
      · exact first_none h d hd
    · cases h
theorem due_none {r m : D} (h : gdue r m = none) : ∃ rs ms, r = .tup rs ∧ m = .tup ms ∧ groomsD r = true ∧ ∀ d ∈ ms, gmoveD rs.length d = true := by
  cases r <;> first | (simp [gdue] at h; done) | skip
  rename_i rs
  rw [gdue] at h
  split at h
  · rename_i c
    cases m <;> first | (simp [mdue] at h; done) | skip
    rename_i ms
    exact ⟨rs, ms, rfl, rfl, c, first_none h⟩
  · cases h
theorem btws_noD {lo hi : Int} {d : D} (h : btws lo hi d = true) : noD d = true := by
  cases d <;> first | (simp [btws] at h; done) | skip
  rename_i ds
  simp only [btws, List.all_eq_true] at h
  simp only [noD, noDs_all]
  intro x hx
  have := h x hx
  cases x <;> first | rfl | (simp [btw] at this; done)
theorem gmove_noD {n : Int} {d : D} (h : gmoveD n d = true) : noD d = true := by
  unfold gmoveD at h
  split at h
  · rename_i a b t f
    simp only [Bool.and_eq_true] at h
    obtain ⟨ha, hb, ht, hf, _⟩ := h
    have na : noD a = true := by cases a <;> first | rfl | (simp [btw] at ha; done)
    have nb : noD b = true := by cases b <;> first | rfl | (simp [btw] at hb; done)
    have nt : noD t = true := by cases t <;> first | rfl | (simp [lettersD] at ht; done)
    simp only [noD, noDs, na, nb, nt, btws_noD hf, Bool.and_self]
  · cases h
theorem due_noD {r m : D} (h : gdue r m = none) : noD r = true ∧ noD m = true := by
  obtain ⟨rs, ms, rfl, rfl, hr, hm⟩ := due_none h
  constructor
  · unfold groomsD at hr
    split at hr
    · rename_i e
      cases e
      rw [Bool.and_eq_true] at hr
      exact btws_noD hr.1
    · cases hr
  · simp only [noD, noDs_all]
    exact fun x hx => gmove_noD (hm x hx)
/-- within the law's limits -/
structure Fit (M : Lim) (d : D) : Prop where
  ok : okv M d = true
  dp : dep d ≤ 20
  wt : wt d ≤ 100000
theorem rep_due {p : D} (h : okv L0 p = true ∧ dep p = 0 ∧ wt p ≤ 8) : ∃ x, reprD [.lst [p, .bl true]] = some (.str x) := by
  refine ⟨_, okv_repr (M := L0) (by decide) ?_ ?_ ?_⟩
  · simp only [okv, okvs, h.1, Bool.and_self, Bool.true_and, Bool.and_true]; exact decide_eq_true (by simp [L0])
  · simp only [dep, deps, h.2.1]; omega
  · simp only [Pd.wt, wts]; omega
theorem l_right (hM : Sml M) (hI : M.I < 10 ^ 60) (hT : 2 ≤ M.T) {r m : D} (hr : Fit M r) (hm : Fit M m) (k : Bool) (h : Q (.bl true) S) : WF F__law_right [r, m, .bl k] S Q E := by
  unfold F__law_right B__law_right
  have fr := okv_Fx hr.ok
  have fm := okv_Fx hm.ok
  have sr := fun {ρ : Rho} {S : Sto} => pl_rsv (ρ := ρ) (S := S) (okv_pl hr.ok)
  have sm := fun {ρ : Rho} {S : Sto} => pl_rsv (ρ := ρ) (S := S) (okv_pl hm.ok)
  have ho : okv M (.tup [r, m]) = true := by simp only [okv, okvs, hr.ok, hm.ok, Bool.and_self, Bool.and_true, List.length_cons, List.length_nil]; exact decide_eq_true hT
  have hp : reprD [.tup [r, m]] = some (.str (shw (.tup [r, m]))) := okv_repr hI ho (by have := hr.dp; have := hm.dp; simp only [dep, deps]; omega) (by have := hr.wt; have := hm.wt; simp only [Pd.wt, wts]; omega)
  generalize shw (.tup [r, m]) = w at hp
  simp? only [fr, fm, hp, l_due (S := S) hM hr.ok hm.ok]
  refine l_heard hM hr.ok hm.ok k ?_
  unfold heardD
  cases e : gdue r m with
  | some p =>
    have dk := due_ok hM hm.ok e
    have fp := okv_Fx dk.1
    have sp := fun {ρ : Rho} {S : Sto} => pl_rsv (ρ := ρ) (S := S) (okv_pl dk.1)
    obtain ⟨x, hx⟩ := rep_due dk
    have i0 : atI [p] 0 = some p := Pd.atI_nat (i := 0)
    simp? only [fr, fm, hp, Option.toList, List.isEmpty_cons, hx, i0, fp, sp]
    exact h
  | none =>
    obtain ⟨rs, ms, rfl, rfl, _, _⟩ := due_none e
    obtain ⟨nr, nm⟩ := due_noD e
    have e1 := eqG_same hI hr.ok nr (by have := hr.dp; omega)
    have e2 := eqG_same hI hm.ok nm (by have := hm.dp; omega)
    have me : (("Guest" : Str) = "Guest") = True := by simp
    simp? only [fr, fm, hp, Option.toList, List.isEmpty_nil, q_len (S := S)]
    have l1 : (0 : Int) ≤ (rs.length : Int) := by omega
    have l2 : (rs.length : Int) < 9223372036854775808 := by have := okv_len hr.ok; have := hM.T; omega
    simp? only [l1, l2]
    refine l_heard hM hr.ok hm.ok (!k) ?_
    unfold heardD
    rw [e]
    simp? only [q_eq (S := S) e1 e2 (okv_pl hr.ok) (okv_pl hr.ok) (okv_pl hm.ok) (okv_pl hm.ok)]
    rw [lc_filter (t := fun _ => false)]
    · have ff : ∀ l : List D, l.filter (fun _ => false) = [] := fun l => by induction l with | nil => rfl | cons a l ih => exact ih
      simp? only [ff, List.nil_append, List.isEmpty_nil]
      exact h
    · intro x hx Q
      have hpx : pl x = true := by
        simp only [List.mem_cons, List.not_mem_nil, or_false] at hx
        rcases hx with rfl | rfl | rfl | rfl | rfl | rfl | rfl <;> rfl
      simp? only [q_eq_other (S := S) hpx, tyOk_pl hpx, pl_fx hpx]
    · intro x hx
      simp only [List.mem_cons, List.not_mem_nil, or_false] at hx
      rcases hx with rfl | rfl | rfl | rfl | rfl | rfl | rfl <;> rfl
    · rw [sizeLine_eq]; simp
end
end Lk56

/-! The deck, draws, picks. -/
local macro_rules | `(tactic| simp? only [$xs,*]) => `(tactic| simp -implicitDefEqProofs only [Pd.nth_0, Pd.nth_s, Pd.put_0, Pd.put_s, Pd.op_some, Pd.op_none, Pd.op_guard, Pd.opr_some, Pd.opr_none, Pd.wm_pure, Pd.br_t, Pd.br_f, Pd.brs_t, Pd.brs_f, Pd.wm_c, Pd.var_d, Pd.var_m, Pd.wm_var, Pd.op2_some, Pd.wm_op, Pd.k_op, Pd.k_op2, Pd.k_bl, Pd.wm_cmpT, Pd.k_cmT, Pd.k_cmT2, Pd.wm_cmp, Pd.op2_neF, Pd.wm_chain, Pd.k_ch, Pd.k_ch2, Pd.k_ch3, Pd.wm_isT, Pd.k_isT, Pd.wm_tr, Pd.k_tr, Pd.wm_and, Pd.wm_or, Pd.k_bo, Pd.wm_not, Pd.k_notD, Pd.k_not2, Pd.wt_and', Pd.wt_or', Pd.kt_bot, Pd.kt_bof, Pd.wt_not', Pd.kt_not, Pd.wm_if, Pd.k_if, Pd.wm_nil, Pd.wm_cons, Pd.k_cons, Pd.k_cons2, Pd.wm_tup, Pd.k_tup, Pd.wm_lst, Pd.k_lst, Pd.fxs_nil, Pd.fxs_cons, Pd.short_nil, Pd.short_cons, Pd.fx_non, Pd.fx_bl, Pd.fx_int, Pd.fx_str, Pd.fx_tup, Pd.fx_lst, Pd.fx_dct, Pd.fx_ins, Pd.fx_exc, Pd.fx_own, Pd.fx_scr, Pd.fx_cls, Pd.rs_non, Pd.rs_bl, Pd.rs_int, Pd.rs_str, Pd.rs_tup, Pd.rs_lst, Pd.rs_dct, Pd.rs_ins, Pd.rs_exc, Pd.rs_scr, Pd.rs_cls, Pd.rs_own, Pd.rs_loc, Pd.mol_l, Pd.mol_d, Pd.mol_i, Pd.rsA_nil, Pd.rsA_cons, Pd.rsC_some, Pd.wm_neg, Pd.k_neg, Pd.wo_none', Pd.wo_some', Pd.k_oS, Pd.wm_slice, Pd.k_sl, Pd.k_sl2, Pd.k_sl3, Pd.wm_cb, Pd.k_cb, Pd.k_u, Pd.wm_isi, Pd.wm_isO, Pd.wm_sortAny, Pd.wm_rev, Pd.wm_fmt, Pd.wm_fld, Pd.wm_sm, Pd.k_sm, Pd.wm_sm0, Pd.k_sm0, Pd.wm_dget, Pd.k_dg, Pd.k_dg2, Pd.wm_pnil, Pd.wm_pcons, Pd.k_pc, Pd.wm_disp, Pd.k_di, Pd.wm_dispO, Pd.k_diO, Pd.wm_pub, Pd.k_pub, Pd.wm_mrev, Pd.k_rv, Pd.wm_opop, Pd.wm_call, Pd.k_call, Pd.wm_callK, Pd.k_callK, Pd.pkd_nil, Pd.pkd_cons, Pd.pkC, Pd.wm_fz, Pd.k_fz, Pd.wi_of', Pd.k_items, Pd.it_tup, Pd.it_lst, Pd.wi_range1', Pd.k_rg1, Pd.wi_range2', Pd.k_rg2, Pd.wi_enum', Pd.k_enum, Pd.en_tup, Pd.en_lst, Pd.wm_lc, Pd.k_lc, Pd.lc_nil, Pd.k_lg, Pd.k_ltt, Pd.k_ltf, Pd.k_le, Pd.wipe_nil, Pd.wipe_cons, Pd.wm_exc, Pd.k_exc, Pd.wm_isX, Pd.k_isX, Pd.wm_fldX, Pd.k_fldX, Pd.wm_xf, Pd.wm_eqO, Pd.k_eqO, Pd.k_eqO2, Pd.k_eqR, Pd.wm_lenO, Pd.k_lenO, Pd.k_lenR, Pd.wm_meth, Pd.k_me, Pd.k_me2, Pd.wm_js0, Pd.wm_js, Pd.k_js, Pd.k_er, Pd.ws_nx, Pd.ws_bk, Pd.ws_ct, Pd.ws_retN, Pd.ws_raise0, Pd.ws_seq, Pd.k_seq_nx, Pd.k_seq_bk, Pd.k_seq_ct, Pd.k_seq_rt, Pd.k_seq_er, Pd.ws_ex, Pd.k_ex, Pd.ws_ret, Pd.k_ret, Pd.ws_if, Pd.ks_if, Pd.k_nx, Pd.ws_asg, Pd.k_asg, Pd.g_nm, Pd.g_tp, Pd.g_nl, Pd.g_cn, Pd.gC_some, Pd.opr_guard, Pd.ws_par, Pd.k_par, Pd.ws_par3, Pd.k_par3, Pd.ws_aug, Pd.aug_d, Pd.k_aug, Pd.k_aug2, Pd.ws_frz, Pd.frz_l, Pd.frz_d, Pd.frz_o, Pd.wm_mlst', Pd.k_ml, Pd.ws_setL, Pd.k_setL, Pd.ws_for, Pd.k_for, Pd.ws_for0, Pd.ws_forC, Pd.k_body, Pd.k_lp_nx, Pd.k_lp_ct, Pd.k_lp_bk, Pd.k_lp_rt, Pd.k_lp_er, Pd.ws_wh, Pd.k_wht, Pd.k_whf, Pd.ws_raise, Pd.k_raise, Pd.ws_try, Pd.k_try_nx, Pd.k_try_bk, Pd.k_try_ct, Pd.k_try_rt, Pd.k_try_er, Pd.k_sui_nx, Pd.k_sui_bk, Pd.k_sui_ct, Pd.k_sui_rt, Pd.ws_oput, Pd.ws_app, Pd.app_l, Pd.k_app2, Pd.ws_attr, Pd.k_att, Pd.att_i, Pd.un_0, Pd.un_s, Pd.sl_nil, Pd.sl_s, Pd.wf_run, Pd.k_run_nx, Pd.k_run_rt, Pd.k_run_er, Pd.ini_m, Pd.wf_ini, Pd.k_ini_nx, Pd.k_ini_rtn, Pd.k_ini_er, Pd.k_bo2t, Pd.k_bo2f, Pd.k_t1t, Pd.k_t1f, Pd.k_t2, Pd.k_t0, Pd.turn_def, Pd.lq_nx, Pd.lq_ct, Pd.lq_bk, Pd.lq_rt, Pd.lq_er, Pd.wm_oapp, Pd.wm_cat, Pd.k_catA, Pd.k_catB, Pd.ct_lst, Pd.eg_int, Pd.eg_str, Pd.eg_tup0, Pd.eg_lst0, Pd.eg_bl, Pd.neg_def, Pd.tr_non, Pd.tr_bl, Pd.tr_int, Pd.tr_tup, Pd.tr_lst, Pd.lt_int, Pd.le_int, Pd.gt_int, Pd.ge_int, Pd.ad_int, Pd.sb_int, Pd.ad_tup, Pd.ad_lst, Pd.ix_tup, Pd.ix_lst, Pd.sl_tup, Pd.sl_lst, Pd.ln_tup, Pd.ln_lst, Pd.tp_tup, Pd.tp_lst, Pd.ls_tup, Pd.ls_lst, Pd.is_int_non, Pd.is_int_bl, Pd.is_int_int, Pd.is_int_str, Pd.is_int_tup, Pd.is_int_lst, Pd.is_int_dct, Pd.is_bool_non, Pd.is_bool_bl, Pd.is_bool_int, Pd.is_bool_str, Pd.is_bool_tup, Pd.is_bool_lst, Pd.is_bool_dct, Pd.is_str_non, Pd.is_str_bl, Pd.is_str_int, Pd.is_str_str, Pd.is_str_tup, Pd.is_str_lst, Pd.is_str_dct, Pd.is_tuple_non, Pd.is_tuple_bl, Pd.is_tuple_int, Pd.is_tuple_str, Pd.is_tuple_tup, Pd.is_tuple_lst, Pd.is_tuple_dct, Pd.is_list_non, Pd.is_list_bl, Pd.is_list_int, Pd.is_list_str, Pd.is_list_tup, Pd.is_list_lst, Pd.is_list_dct, Pd.is_dict_non, Pd.is_dict_bl, Pd.is_dict_int, Pd.is_dict_str, Pd.is_dict_tup, Pd.is_dict_lst, Pd.is_dict_dct, List.getElem?_cons_succ, List.getElem?_cons_zero, Option.bind_some, Option.map_some, and_true, true_and, and_self, Bool.not_true, Bool.not_false, if_true, if_false, decide_true, decide_false, Bool.false_eq_true, Bool.and_true, Bool.true_and, Bool.and_false, Bool.false_and, beq_self_eq_true, List.length_cons, List.length_nil, List.length_map, Nat.reduceAdd, Nat.reduceLeDiff, Nat.reduceLT, Nat.reduceEqDiff, Int.reduceEq, Int.reduceLT, Int.reduceLE, Int.reduceAdd, Int.reduceSub, Int.reduceNeg, Int.reduceToNat, Int.reduceBEq, Int.reduceBNe, Int.reducePow, Int.cast_ofNat_Int, $xs,*])
namespace Pd
open PySem L2
/-- the three names of a deck's parts -/
structure Kn where
  (c m d : Str)
/-- the deck, at most hi draws made; what stands behind it in the store -/
def Dk (k : Kn) (hi : Int) (rest : Sto) (S : Sto) : Prop := ∃ cs m n, S = deckS k.c k.m k.d rest cs m n ∧ cs.length ≤ 63 ∧ 0 ≤ n ∧ n ≤ hi
section
variable {k : Kn} {hi b : Int} {rest S : Sto} {Q : D → Sto → Prop} {E : EQ} {F : FFs}
theorem Dk.mono {hi' : Int} (h : Dk k hi rest S) (l : hi ≤ hi') : Dk k hi' rest S := let ⟨cs, m, n, e, h1, h2, h3⟩ := h; ⟨cs, m, n, e, h1, h2, by omega⟩
def DrawQ (k : Kn) (F : FFs) : Prop := ∀ {hi b : Int} {rest S : Sto} {Q : D → Sto → Prop} {E : EQ}, 0 < b → b < 1073741824 → hi < 2 ^ 62 → Dk k hi rest S → (∀ i S', 0 ≤ i → i < b → Dk k (hi + 1) rest S' → Q (.int i) S') → WF F [.own 1, .int b] S Q E
def PickQ (k : Kn) (F : FFs) : Prop := ∀ {hi : Int} {ds : List D} {rest S : Sto} {Q : D → Sto → Prop} {E : EQ}, ds ≠ [] → ds.length ≤ 1000 → (∀ d ∈ ds, Fx d) → hi < 2 ^ 62 → Dk k hi rest S → (∀ d S', d ∈ ds → Dk k (hi + 1) rest S' → Q d S') → WF F [.own 1, .lst ds] S Q E
theorem draw1_Q {N : N1} (ok : N.Ok) (ks : Keys3 k.c k.m k.d) : DrawQ k (runD 5 (B_draw1 k.c k.m k.d N)) := by
  intro hi b rest S Q E hb hb2 hh hS hq
  obtain ⟨cs, m, n, rfl, h1, h2, h3⟩ := hS
  refine wf_of (draw1_q ok ks hb hb2 h2 (by omega) h1) fun d S' h => ?_
  obtain ⟨i, cs', m', rfl, i0, i1, hl, rfl⟩ := h
  exact hq i _ i0 i1 ⟨cs', m', n + 1, rfl, hl, by omega, by omega⟩
def B_pick1 (F : FFs) : SM := (s_ret (m_op ixD (m_var 1) (m_call 2 F (ma_cons (m_var 0) (ma_cons (m_cb lenD (ma_cons (m_var 1) ma_nil)) ma_nil)))))
theorem pick1_Q (dq : DrawQ k F) : PickQ k (runD 2 (B_pick1 F)) := by
  intro hi ds rest S Q E hd hl hf hh hS hq
  unfold B_pick1
  simp? only [and_self]
  have hp : 0 < ds.length := List.length_pos_iff.mpr hd
  refine dq (by omega) (by omega) hh hS fun i S' i0 i1 hS' => ?_
  obtain ⟨x, e, hx⟩ := at_in i0 i1
  simp? only [e, hf x hx]
  exact hq x S' hx hS'
def B_deck1 (kc km kd : Str) (a1 a2 a3 a4 a5 : Int) : SM := (s_seq (s_par 1 2 (ma_cons (m_cb listD (ma_cons (m_slice (m_var 0) mo_none (mo_some (m_c (.int 63)))) ma_nil)) (ma_cons (m_c (.int a1)) ma_nil)))
  (s_seq (s_for (mi_of (m_var 1)) (g_name 3) (s_asg (g_name 2) (m_op modD (m_cb intOf (ma_cons (m_op addD (m_op addD (m_op mulD (m_var 2) (m_c (.int a2))) (m_op modD (m_cb intOf (ma_cons (m_var 3) ma_nil)) (m_c (.int a3)))) (m_c (.int a4))) ma_nil)) (m_c (.int a5)))))
  (s_ret (m_dispO [(kc, (m_pub (mf_rev (m_var 1)))), (km, (m_var 2)), (kd, (m_c (.int 0)))]))))
theorem rs_scr' {ρ : Rho} {S : Sto} {ns : List Int} : sliceD none (some 63) (.scr ns) = some (.lst ((cutD ns none (some 63)).map D.int)) := rfl
theorem deck1_q {a1 a2 a3 a4 a5 : Int} (h2 : small64 a2 = true) (h3 : 0 < a3) (h5 : 0 < a5) (ks : Keys3 k.c k.m k.d) {ns : List Int} (hq : ∀ S', Dk k 0 [] S' → Q (.own 1) S') : WF (runD 4 (B_deck1 k.c k.m k.d a1 a2 a3 a4 a5)) [.scr ns] [] Q E := by
  have hc : (cutD ns none (some 63)).length ≤ 63 := by
    have : (cutD ns none (some 63)).length ≤ min 63 ns.length := by
      unfold cutD
      rw [show HT.sIx ns.length ns.length (some 63) = min 63 ns.length from HT.sIx_nat _ _ 63]
      simp [HT.sIx]
    omega
  unfold B_deck1
  simp? only [rs_scr' (ρ := []) (S := []) (ns := ns)]
  generalize cutD ns none (some 63) = cs at hc
  refine for_inv (P := fun _ ρ S => S = [] ∧ ∃ m x, ρ = [.d (.scr ns), .d (.lst (cs.map D.int)), .d (.int m), x]) ⟨rfl, _, _, rfl⟩ ?_ ?_
  · rintro x xs pre ρ' S' e ⟨rfl, m, y, rfl⟩
    have hx : x ∈ cs.map D.int := by rw [e]; simp
    obtain ⟨c, _, rfl⟩ := List.mem_map.mp hx
    have i1 : ∀ i, intOf [.int i] = some (.int i) := fun _ => rfl
    have m1 : ∀ i, mulD (.int i) (.int a2) = some (.int (i * a2)) := fun i => mul_r (by rw [h2, Bool.or_true])
    have m2 : ∀ i, modD (.int i) (.int a3) = some (.int (i % a3)) := fun i => mod_r h3
    have m3 : ∀ i, modD (.int i) (.int a5) = some (.int (i % a5)) := fun i => mod_r h5
    simp? only [i1, m1, m2, m3]
    exact ⟨_, _, rfl⟩
  · rintro ρ' S' ⟨rfl, m, y, rfl⟩
    have l15 : (0 + 1 + 1 + 1 ≤ 15) = True := by simp
    simp? only [revL, l15]
    refine hq _ ⟨cs.reverse, m, 0, ?_, by simpa using hc, Int.le_refl _, Int.le_refl _⟩
    rw [← List.map_reverse]
    have n1 : (Sum.inr k.m : Key) ≠ Sum.inr k.c := fun z => ks.cm (Sum.inr.inj z).symm
    simp [dctOf, mergeD, putD, ks.cm, ks.cd, ks.md, keyC]
end
end Pd

/-! What data are shown as tells them: whole numbers, texts of letters, None, truth values, tuples and lists of these. -/
namespace Pd
open PySem L2 TL PyProof.Rows
mutual
def gdp : PyData → Bool
  | .none => true
  | .bool _ => true
  | .int _ => true
  | .str x => x.cps.toList.all fun c => decide (97 ≤ c) && decide (c ≤ 122)
  | .list ps => gdps ps
  | .tuple ps => gdps ps
  | .dict _ => false
def gdps : List PyData → Bool
  | [] => true
  | p :: ps => gdp p && gdps ps
end
theorem ofStr_inj {s t : String} (h : Str.ofString s = Str.ofString t) : s = t := by
  have e := congrArg (fun x : Str => x.cps.toList) h
  rw [signs_ofString, signs_ofString] at e
  have : s.toList = t.toList := List.map_inj_right (fun a b h => Char.toNat_inj.mp h) |>.mp e
  exact String.toList_inj.mp this
theorem int_txt_inj {i j : Int} (h : Str.ofString (toString i) = Str.ofString (toString j)) : i = j := by
  have e := ofStr_inj h
  exact Int.repr_inj.mp e
abbrev itx (i : Int) : List Nat := tl (Str.ofString (toString i))
theorem itx_free {k : Nat} (hk : k ≠ 45 ∧ (k < 48 ∨ 57 < k)) (i : Int) : k ∉ itx i := int_text_free' k hk i
theorem itx_ne (i : Int) : itx i ≠ [] := by
  intro h
  cases i with
  | ofNat n => 
    have := tl_num n
    exact numL_ne n (this.symm.trans h)
  | negSucc n =>
    have : toString (Int.negSucc n) = "-" ++ toString (n + 1) := rfl
    rw [itx, this, tl, signs_ofString] at h
    simp at h
theorem itx_head (i : Int) : ∃ c r, itx i = c :: r ∧ (c = 45 ∨ (48 ≤ c ∧ c ≤ 57)) := by
  cases e : itx i with
  | nil => exact absurd e (itx_ne i)
  | cons c r =>
    refine ⟨c, r, rfl, ?_⟩
    have hm : c ∈ itx i := by rw [e]; exact List.mem_cons_self
    by_cases h : c = 45
    · exact .inl h
    · refine .inr ?_
      by_cases hk : c < 48 ∨ 57 < c
      · exact absurd hm (itx_free ⟨h, hk⟩ i)
      · omega
/-- what stands behind an item -/
def Dlm (r : List Nat) : Prop := r = [] ∨ ∃ c r', r = c :: r' ∧ (c = 44 ∨ c = 41 ∨ c = 93)
theorem split_free {a b r s : List Nat} (ha : ∀ c ∈ a, c ≠ 44 ∧ c ≠ 41 ∧ c ≠ 93) (hb : ∀ c ∈ b, c ≠ 44 ∧ c ≠ 41 ∧ c ≠ 93) (hr : Dlm r) (hs : Dlm s) (h : a ++ r = b ++ s) : a = b ∧ r = s := by
  induction a generalizing b with
  | nil =>
    cases b with
    | nil => exact ⟨rfl, h⟩
    | cons c b =>
      have h : r = c :: (b ++ s) := h
      have hc := hb c List.mem_cons_self
      rcases hr with rfl | ⟨d, r', rfl, hd⟩
      · cases h
      · injection h with h1 h2
        omega
  | cons c a ih =>
    cases b with
    | nil =>
      have h : c :: (a ++ r) = s := h
      have hc := ha c List.mem_cons_self
      rcases hs with rfl | ⟨d, r', rfl, hd⟩
      · cases h
      · injection h with h1 h2
        omega
    | cons d b =>
      injection h with h1 h2
      obtain ⟨e1, e2⟩ := ih (fun x hx => ha x (List.mem_cons_of_mem _ hx)) (fun x hx => hb x (List.mem_cons_of_mem _ hx)) h2
      exact ⟨by rw [h1, e1], e2⟩
def restL (e : Nat) : List (List Nat) → List Nat
  | [] => [e]
  | y :: ys => 44 :: 32 :: (y ++ restL e ys)
def seqT : List (List Nat) → List Nat
  | [] => [40, 41]
  | [x] => 40 :: (x ++ [44, 41])
  | x :: y :: r => 40 :: (x ++ restL 41 (y :: r))
def seqL : List (List Nat) → List Nat
  | [] => [91, 93]
  | x :: r => 91 :: (x ++ restL 93 r)
theorem join_rest (e : Nat) : ∀ (x : Str) (r : List Str), tl (Str.join ", " (x :: r)) ++ [e] = tl x ++ restL e (r.map tl)
  | x, [] => rfl
  | x, y :: r => by
    show tl (x ++ ", " ++ Str.join ", " (y :: r)) ++ [e] = _
    rw [tl_append, tl_append]
    have ec : tl (", " : Str) = [44, 32] := by decide +kernel
    rw [ec, List.append_assoc, List.append_assoc, join_rest e y r]
    rfl
theorem tl_tuple (ts : List Str) : tl (tupleText ts) = seqT (ts.map tl) := by
  have e1 : tl ("(" : Str) = [40] := by decide +kernel
  have e2 : tl (",)" : Str) = [44, 41] := by decide +kernel
  have e3 : tl (")" : Str) = [41] := by decide +kernel
  unfold tupleText
  rw [tl_append, tl_append, e1]
  match ts with
  | [] =>
    show [40] ++ tl (Str.join ", " []) ++ tl (")" : Str) = _
    rw [e3]
    rfl
  | [x] =>
    show [40] ++ tl x ++ tl (",)" : Str) = _
    rw [e2]
    rfl
  | x :: y :: r =>
    show [40] ++ tl (Str.join ", " (x :: y :: r)) ++ tl (if ((x :: y :: r).length == 1) = true then ",)" else ")" : String) = _
    rw [if_neg (by simp), e3, List.append_assoc, join_rest]
    rfl
theorem tl_from : ∀ (ts : List Str) (k : Nat) (acc : Str), tl (textFrom (k + 1) acc ts) ++ [93] = tl acc ++ restL 93 (ts.map tl)
  | [], k, acc => rfl
  | t :: ts, k, acc => by
    show tl (textFrom (k + 1 + 1) (acc ++ (if k + 1 > 0 then ", " else "" : String) ++ t) ts) ++ [93] = _
    have ec : tl (", " : Str) = [44, 32] := by decide +kernel
    rw [tl_from ts (k + 1), if_pos (Nat.succ_pos k), tl_append, tl_append, ec, List.append_assoc, List.append_assoc]
    rfl
theorem tl_list (ts : List Str) : tl (listText ts) = seqL (ts.map tl) := by
  have e1 : tl ("[" : Str) = [91] := by decide +kernel
  have e2 : tl ("]" : Str) = [93] := by decide +kernel
  unfold listText
  rw [tl_append, e2]
  cases ts with
  | nil =>
    show tl ("[" : Str) ++ [93] = _
    rw [e1]
    rfl
  | cons t ts =>
    show tl (textFrom 1 (("[" : Str) ++ (if (0 : Nat) > 0 then ", " else "" : String) ++ t) ts) ++ [93] = _
    rw [tl_from ts 0, if_neg (by decide), tl_append, tl_append, e1]
    rfl
/-- the kind by the first sign -/
def kdc (c : Nat) : Nat := if c = 78 then 0 else if c = 84 then 1 else if c = 70 then 1 else if c = 39 then 3 else if c = 91 then 4 else if c = 40 then 5 else if c = 45 ∨ (48 ≤ c ∧ c ≤ 57) then 2 else 7
def kdp : PyData → Nat
  | .none => 0
  | .bool _ => 1
  | .int _ => 2
  | .str _ => 3
  | .list _ => 4
  | .tuple _ => 5
  | .dict _ => 6
theorem rchar_letter : ∀ c : Nat, c < 123 → 97 ≤ c → Builtin.Str.reprChar 39 c = [c] := by
  have h : (List.range 123).all (fun c => !decide (97 ≤ c) || (Builtin.Str.reprChar 39 c == [c])) = true := by decide +kernel
  intro c h1 h2
  have := List.all_eq_true.mp h c (List.mem_range.mpr h1)
  rw [decide_eq_true h2] at this
  exact eq_of_beq (by simpa using this)
theorem rfold_letters : ∀ (l : List Nat) (acc : Array Nat), (∀ c ∈ l, 97 ≤ c ∧ c ≤ 122) → (l.foldl (fun out c => out ++ (Builtin.Str.reprChar 39 c).toArray) acc).toList = acc.toList ++ l
  | [], acc, _ => by simp
  | c :: l, acc, h => by
    have hc := h c List.mem_cons_self
    rw [List.foldl_cons, rfold_letters l _ fun d hd => h d (List.mem_cons_of_mem _ hd), rchar_letter c (by omega) hc.1]
    simp
theorem rep_letters {x : Str} (h : ∀ c ∈ tl x, 97 ≤ c ∧ c ≤ 122) : tl (reprText x) = 39 :: (tl x ++ [39]) := by
  have q : reprQuote x = 39 := by
    unfold reprQuote
    have n : x.cps.contains 39 = false := by
      rw [← Array.contains_toList]
      cases e : (x.cps.toList.contains 39) with
      | false => rfl
      | true =>
        have := h 39 (by simpa using e)
        omega
    rw [n]
    rfl
  show ((x.cps.foldl (fun out c => out ++ (Builtin.Str.reprChar (reprQuote x) c).toArray) #[reprQuote x]).push (reprQuote x)).toList = _
  rw [q, Array.toList_push, ← Array.foldl_toList, rfold_letters x.cps.toList _ h]
  rfl
theorem split_q {a b r s : List Nat} (ha : ∀ c ∈ a, 97 ≤ c ∧ c ≤ 122) (hb : ∀ c ∈ b, 97 ≤ c ∧ c ≤ 122) (h : a ++ 39 :: r = b ++ 39 :: s) : a = b ∧ r = s := by
  induction a generalizing b with
  | nil =>
    cases b with
    | nil => injection h with _ h; exact ⟨rfl, h⟩
    | cons c b =>
      injection h with h1 h2
      have := hb c List.mem_cons_self
      omega
  | cons c a ih =>
    cases b with
    | nil =>
      injection h with h1 h2
      have := ha c List.mem_cons_self
      omega
    | cons d b =>
      injection h with h1 h2
      obtain ⟨e1, e2⟩ := ih (fun x hx => ha x (List.mem_cons_of_mem _ hx)) (fun x hx => hb x (List.mem_cons_of_mem _ hx)) h2
      exact ⟨by rw [h1, e1], e2⟩
theorem kd_ok : ∀ p : PyData, gdp p = true → ∃ c r, tl p.shown = c :: r ∧ kdc c = kdp p := by
  intro p h
  cases p with
  | none => exact ⟨78, [111, 110, 101], by decide +kernel, rfl⟩
  | bool b =>
    cases b with
    | true => exact ⟨84, [114, 117, 101], by decide +kernel, rfl⟩
    | false => exact ⟨70, [97, 108, 115, 101], by decide +kernel, rfl⟩
  | int i =>
    obtain ⟨c, r, e, hc⟩ := itx_head i
    refine ⟨c, r, by rw [PyData.shown_int]; exact e, ?_⟩
    unfold kdc
    rw [if_neg (by omega), if_neg (by omega), if_neg (by omega), if_neg (by omega), if_neg (by omega), if_neg (by omega), if_pos hc]
    rfl
  | str x =>
    simp only [gdp, List.all_eq_true, Bool.and_eq_true, decide_eq_true_eq] at h
    exact ⟨39, _, by rw [PyData.shown_str]; exact rep_letters h, rfl⟩
  | list ps =>
    simp only [PyData.shown, tl_list]
    cases PyData.shownAll ps with
    | nil => exact ⟨91, [93], rfl, rfl⟩
    | cons t ts => exact ⟨91, _, rfl, rfl⟩
  | tuple ps =>
    simp only [PyData.shown, tl_tuple]
    match PyData.shownAll ps with
    | [] => exact ⟨40, [41], rfl, rfl⟩
    | [t] => exact ⟨40, _, rfl, rfl⟩
    | t :: u :: ts => exact ⟨40, _, rfl, rfl⟩
  | dict _ => simp [gdp] at h
theorem dlm_rest {e : Nat} (he : e = 41 ∨ e = 93) (ys : List (List Nat)) (r : List Nat) : Dlm (restL e ys ++ r) := by
  cases ys with
  | nil => exact .inr ⟨e, r, rfl, by omega⟩
  | cons y ys => exact .inr ⟨44, _, rfl, .inl rfl⟩
mutual
theorem shown_inj : ∀ (p q : PyData), gdp p = true → gdp q = true → ∀ (r s : List Nat), Dlm r → Dlm s → tl p.shown ++ r = tl q.shown ++ s → p = q ∧ r = s
  | p, q, hp, hq, r, s, hr, hs, h => by
    obtain ⟨c, u, e1, k1⟩ := kd_ok p hp
    obtain ⟨d, v, e2, k2⟩ := kd_ok q hq
    have hk : kdp p = kdp q := by
      rw [e1, e2] at h
      injection h with h1 h2
      rw [← k1, ← k2, h1]
    match p, q, hp, hq, h, hk with
    | .none, .none, _, _, h, _ => exact ⟨rfl, List.append_cancel_left h⟩
    | .bool a, .bool b, _, _, h, _ =>
      cases a <;> cases b
      · exact ⟨rfl, List.append_cancel_left h⟩
      · exfalso
        have x1 : tl (PyData.shown (.bool false)) = [70, 97, 108, 115, 101] := by decide +kernel
        have x2 : tl (PyData.shown (.bool true)) = [84, 114, 117, 101] := by decide +kernel
        rw [x1, x2] at h
        cases h
      · exfalso
        have x1 : tl (PyData.shown (.bool false)) = [70, 97, 108, 115, 101] := by decide +kernel
        have x2 : tl (PyData.shown (.bool true)) = [84, 114, 117, 101] := by decide +kernel
        rw [x1, x2] at h
        cases h
      · exact ⟨rfl, List.append_cancel_left h⟩
    | .int i, .int j, _, _, h, _ =>
      rw [PyData.shown_int, PyData.shown_int] at h
      obtain ⟨h1, h2⟩ := split_free (a := itx i) (b := itx j) (fun c hc => ⟨fun z => itx_free (by decide) i (z ▸ hc), fun z => itx_free (by decide) i (z ▸ hc), fun z => itx_free (by decide) i (z ▸ hc)⟩)
        (fun c hc => ⟨fun z => itx_free (by decide) j (z ▸ hc), fun z => itx_free (by decide) j (z ▸ hc), fun z => itx_free (by decide) j (z ▸ hc)⟩) hr hs h
      exact ⟨by rw [int_txt_inj (ext_tl h1)], h2⟩
    | .str x, .str y, hp, hq, h, _ =>
      simp only [gdp, List.all_eq_true, Bool.and_eq_true, decide_eq_true_eq] at hp hq
      rw [PyData.shown_str, PyData.shown_str, rep_letters hp, rep_letters hq] at h
      have h : tl x ++ 39 :: r = tl y ++ 39 :: s := by simpa using h
      obtain ⟨h1, h2⟩ := split_q hp hq h
      exact ⟨by rw [ext_tl h1], h2⟩
    | .list ps, .list qs, hp, hq, h, _ =>
      have hp : gdps ps = true := hp
      have hq : gdps qs = true := hq
      simp only [PyData.shown, tl_list] at h
      cases ps with
      | nil =>
        cases qs with
        | nil => exact ⟨rfl, List.append_cancel_left h⟩
        | cons q qs =>
          obtain ⟨d, v, e2, k2⟩ := kd_ok q (by simp only [gdps, Bool.and_eq_true] at hq; exact hq.1)
          simp only [PyData.shownAll, List.map_cons, List.map_nil, seqL] at h
          rw [e2] at h
          injection h with _ h
          injection h with h _
          subst h
          simp [kdc] at k2
          cases q <;> simp [kdp] at k2
      | cons p ps =>
        cases qs with
        | nil =>
          obtain ⟨d, v, e2, k2⟩ := kd_ok p (by simp only [gdps, Bool.and_eq_true] at hp; exact hp.1)
          simp only [PyData.shownAll, List.map_cons, List.map_nil, seqL] at h
          rw [e2] at h
          injection h with _ h
          injection h with h _
          subst h
          simp [kdc] at k2
          cases p <;> simp [kdp] at k2
        | cons q qs =>
          simp only [gdps, Bool.and_eq_true] at hp hq
          simp only [PyData.shownAll, List.map_cons, seqL] at h
          injection h with _ h
          simp only [List.append_eq, List.append_assoc] at h
          obtain ⟨h1, h2⟩ := shown_inj p q hp.1 hq.1 _ _ (dlm_rest (.inr rfl) _ _) (dlm_rest (.inr rfl) _ _) h
          obtain ⟨h3, h4⟩ := rest_inj ps qs hp.2 hq.2 93 (.inr rfl) r s h2
          exact ⟨by rw [h1, h3], h4⟩
    | .tuple ps, .tuple qs, hp, hq, h, _ =>
      have hp : gdps ps = true := hp
      have hq : gdps qs = true := hq
      simp only [PyData.shown, tl_tuple] at h
      have one : ∀ (x : List Nat), seqT [x] = 40 :: (x ++ [44, 41]) := fun _ => rfl
      match ps, qs, hp, hq, h with
      | [], [], _, _, h => exact ⟨rfl, List.append_cancel_left h⟩
      | [], q :: qs, _, hq, h =>
        exfalso
        obtain ⟨d, v, e5, k5⟩ := kd_ok q (by simp only [gdps, Bool.and_eq_true] at hq; exact hq.1)
        have : ∃ z, seqT ((PyData.shownAll (q :: qs)).map tl) = 40 :: d :: z := by
          cases qs with
          | nil => simp only [PyData.shownAll, List.map_cons, List.map_nil, seqT]; rw [e5]; exact ⟨_, rfl⟩
          | cons q2 qs => simp only [PyData.shownAll, List.map_cons, seqT]; rw [e5]; exact ⟨_, rfl⟩
        obtain ⟨z, ez⟩ := this
        rw [ez] at h
        simp only [PyData.shownAll, List.map_nil, seqT] at h
        injection h with _ h
        injection h with h _
        subst h
        simp [kdc] at k5
        cases q <;> simp [kdp] at k5
      | p :: ps, [], hp, _, h =>
        exfalso
        obtain ⟨d, v, e5, k5⟩ := kd_ok p (by simp only [gdps, Bool.and_eq_true] at hp; exact hp.1)
        have : ∃ z, seqT ((PyData.shownAll (p :: ps)).map tl) = 40 :: d :: z := by
          cases ps with
          | nil => simp only [PyData.shownAll, List.map_cons, List.map_nil, seqT]; rw [e5]; exact ⟨_, rfl⟩
          | cons q2 qs => simp only [PyData.shownAll, List.map_cons, seqT]; rw [e5]; exact ⟨_, rfl⟩
        obtain ⟨z, ez⟩ := this
        rw [ez] at h
        simp only [PyData.shownAll, List.map_nil, seqT] at h
        injection h with _ h
        injection h with h _
        subst h
        simp [kdc] at k5
        cases p <;> simp [kdp] at k5
      | [p], [q], hp, hq, h =>
        simp only [gdps, Bool.and_eq_true] at hp hq
        simp only [PyData.shownAll, List.map_cons, List.map_nil, seqT] at h
        injection h with _ h
        simp only [List.append_eq, List.append_assoc] at h
        obtain ⟨h1, h2⟩ := shown_inj p q hp.1 hq.1 _ _ (.inr ⟨44, _, rfl, .inl rfl⟩) (.inr ⟨44, _, rfl, .inl rfl⟩) h
        injection h2 with _ h2
        exact ⟨by rw [h1], List.append_cancel_left h2⟩
      | [p], q :: q2 :: qs, hp, hq, h =>
        exfalso
        simp only [gdps, Bool.and_eq_true] at hp hq
        simp only [PyData.shownAll, List.map_cons, List.map_nil, seqT] at h
        injection h with _ h
        simp only [List.append_eq, List.append_assoc] at h
        obtain ⟨h1, h2⟩ := shown_inj p q hp.1 hq.1 _ _ (.inr ⟨44, _, rfl, .inl rfl⟩) (dlm_rest (.inl rfl) _ _) h
        simp only [restL] at h2
        injection h2 with _ h2
        injection h2 with h2 _
        cases h2
      | p :: p2 :: ps, [q], hp, hq, h =>
        exfalso
        simp only [gdps, Bool.and_eq_true] at hp hq
        simp only [PyData.shownAll, List.map_cons, List.map_nil, seqT] at h
        injection h with _ h
        simp only [List.append_eq, List.append_assoc] at h
        obtain ⟨h1, h2⟩ := shown_inj p q hp.1 hq.1 _ _ (dlm_rest (.inl rfl) _ _) (.inr ⟨44, _, rfl, .inl rfl⟩) h
        simp only [restL] at h2
        injection h2 with _ h2
        injection h2 with h2 _
        cases h2
      | p :: p2 :: ps, q :: q2 :: qs, hp, hq, h =>
        have hp' := hp
        have hq' := hq
        simp only [gdps, Bool.and_eq_true] at hp hq
        simp only [PyData.shownAll, List.map_cons, seqT] at h
        injection h with _ h
        simp only [List.append_eq, List.append_assoc] at h
        obtain ⟨h1, h2⟩ := shown_inj p q hp.1 hq.1 _ _ (dlm_rest (.inl rfl) _ _) (dlm_rest (.inl rfl) _ _) h
        obtain ⟨h3, h4⟩ := rest_inj (p2 :: ps) (q2 :: qs) (by simp only [gdps, hp.2.1, hp.2.2, Bool.and_self]) (by simp only [gdps, hq.2.1, hq.2.2, Bool.and_self]) 41 (.inl rfl) r s (by simpa only [PyData.shownAll, List.map_cons] using h2)
        exact ⟨by rw [h1, h3], h4⟩
    | .dict _, _, hp, _, _, _ => simp [gdp] at hp
theorem rest_inj : ∀ (ps qs : List PyData), gdps ps = true → gdps qs = true → ∀ (e : Nat), (e = 41 ∨ e = 93) → ∀ (r s : List Nat), restL e ((PyData.shownAll ps).map tl) ++ r = restL e ((PyData.shownAll qs).map tl) ++ s → ps = qs ∧ r = s
  | [], [], _, _, e, he, r, s, h => by
    injection h with _ h
    exact ⟨rfl, h⟩
  | [], q :: qs, _, _, e, he, r, s, h => by
    simp only [PyData.shownAll, List.map_cons, List.map_nil, restL] at h
    injection h with h _
    omega
  | p :: ps, [], _, _, e, he, r, s, h => by
    simp only [PyData.shownAll, List.map_cons, List.map_nil, restL] at h
    injection h with h _
    omega
  | p :: ps, q :: qs, hp, hq, e, he, r, s, h => by
    simp only [gdps, Bool.and_eq_true] at hp hq
    simp only [PyData.shownAll, List.map_cons, restL] at h
    injection h with _ h
    injection h with _ h
    simp only [List.append_eq, List.append_assoc] at h
    obtain ⟨h1, h2⟩ := shown_inj p q hp.1 hq.1 _ _ (dlm_rest he _ _) (dlm_rest he _ _) h
    obtain ⟨h3, h4⟩ := rest_inj ps qs hp.2 hq.2 e he r s h2
    exact ⟨by rw [h1, h3], h4⟩
end
theorem shown_eq {p q : PyData} (hp : gdp p = true) (hq : gdp q = true) : p.shown = q.shown ↔ p = q := by
  constructor
  · intro h
    exact (shown_inj p q hp hq [] [] (.inl rfl) (.inl rfl) (by rw [h])).1
  · rintro rfl; rfl
end Pd

local macro_rules | `(tactic| simp? only [$xs,*]) => `(tactic| simp -implicitDefEqProofs only [Pd.nth_0, Pd.nth_s, Pd.put_0, Pd.put_s, Pd.op_some, Pd.op_none, Pd.op_guard, Pd.opr_some, Pd.opr_none, Pd.wm_pure, Pd.br_t, Pd.br_f, Pd.brs_t, Pd.brs_f, Pd.wm_c, Pd.var_d, Pd.var_m, Pd.wm_var, Pd.op2_some, Pd.wm_op, Pd.k_op, Pd.k_op2, Pd.k_bl, Pd.wm_cmpT, Pd.k_cmT, Pd.k_cmT2, Pd.wm_cmp, Pd.op2_neF, Pd.wm_chain, Pd.k_ch, Pd.k_ch2, Pd.k_ch3, Pd.wm_isT, Pd.k_isT, Pd.wm_tr, Pd.k_tr, Pd.wm_and, Pd.wm_or, Pd.k_bo, Pd.wm_not, Pd.k_notD, Pd.k_not2, Pd.wt_and', Pd.wt_or', Pd.kt_bot, Pd.kt_bof, Pd.wt_not', Pd.kt_not, Pd.wm_if, Pd.k_if, Pd.wm_nil, Pd.wm_cons, Pd.k_cons, Pd.k_cons2, Pd.wm_tup, Pd.k_tup, Pd.wm_lst, Pd.k_lst, Pd.fxs_nil, Pd.fxs_cons, Pd.short_nil, Pd.short_cons, Pd.fx_non, Pd.fx_bl, Pd.fx_int, Pd.fx_str, Pd.fx_tup, Pd.fx_lst, Pd.fx_dct, Pd.fx_ins, Pd.fx_exc, Pd.fx_own, Pd.fx_scr, Pd.fx_cls, Pd.rs_non, Pd.rs_bl, Pd.rs_int, Pd.rs_str, Pd.rs_tup, Pd.rs_lst, Pd.rs_dct, Pd.rs_ins, Pd.rs_exc, Pd.rs_scr, Pd.rs_cls, Pd.rs_own, Pd.rs_loc, Pd.mol_l, Pd.mol_d, Pd.mol_i, Pd.rsA_nil, Pd.rsA_cons, Pd.rsC_some, Pd.wm_neg, Pd.k_neg, Pd.wo_none', Pd.wo_some', Pd.k_oS, Pd.wm_slice, Pd.k_sl, Pd.k_sl2, Pd.k_sl3, Pd.wm_cb, Pd.k_cb, Pd.k_u, Pd.wm_isi, Pd.wm_isO, Pd.wm_sortAny, Pd.wm_rev, Pd.wm_fmt, Pd.wm_fld, Pd.wm_sm, Pd.k_sm, Pd.wm_sm0, Pd.k_sm0, Pd.wm_dget, Pd.k_dg, Pd.k_dg2, Pd.wm_pnil, Pd.wm_pcons, Pd.k_pc, Pd.wm_disp, Pd.k_di, Pd.wm_dispO, Pd.k_diO, Pd.wm_pub, Pd.k_pub, Pd.wm_mrev, Pd.k_rv, Pd.wm_opop, Pd.wm_call, Pd.k_call, Pd.wm_callK, Pd.k_callK, Pd.pkd_nil, Pd.pkd_cons, Pd.pkC, Pd.wm_fz, Pd.k_fz, Pd.wi_of', Pd.k_items, Pd.it_tup, Pd.it_lst, Pd.wi_range1', Pd.k_rg1, Pd.wi_range2', Pd.k_rg2, Pd.wi_enum', Pd.k_enum, Pd.en_tup, Pd.en_lst, Pd.wm_lc, Pd.k_lc, Pd.lc_nil, Pd.k_lg, Pd.k_ltt, Pd.k_ltf, Pd.k_le, Pd.wipe_nil, Pd.wipe_cons, Pd.wm_exc, Pd.k_exc, Pd.wm_isX, Pd.k_isX, Pd.wm_fldX, Pd.k_fldX, Pd.wm_xf, Pd.wm_eqO, Pd.k_eqO, Pd.k_eqO2, Pd.k_eqR, Pd.wm_lenO, Pd.k_lenO, Pd.k_lenR, Pd.wm_meth, Pd.k_me, Pd.k_me2, Pd.wm_js0, Pd.wm_js, Pd.k_js, Pd.k_er, Pd.ws_nx, Pd.ws_bk, Pd.ws_ct, Pd.ws_retN, Pd.ws_raise0, Pd.ws_seq, Pd.k_seq_nx, Pd.k_seq_bk, Pd.k_seq_ct, Pd.k_seq_rt, Pd.k_seq_er, Pd.ws_ex, Pd.k_ex, Pd.ws_ret, Pd.k_ret, Pd.ws_if, Pd.ks_if, Pd.k_nx, Pd.ws_asg, Pd.k_asg, Pd.g_nm, Pd.g_tp, Pd.g_nl, Pd.g_cn, Pd.gC_some, Pd.opr_guard, Pd.ws_par, Pd.k_par, Pd.ws_par3, Pd.k_par3, Pd.ws_aug, Pd.aug_d, Pd.k_aug, Pd.k_aug2, Pd.ws_frz, Pd.frz_l, Pd.frz_d, Pd.frz_o, Pd.wm_mlst', Pd.k_ml, Pd.ws_setL, Pd.k_setL, Pd.ws_for, Pd.k_for, Pd.ws_for0, Pd.ws_forC, Pd.k_body, Pd.k_lp_nx, Pd.k_lp_ct, Pd.k_lp_bk, Pd.k_lp_rt, Pd.k_lp_er, Pd.ws_wh, Pd.k_wht, Pd.k_whf, Pd.ws_raise, Pd.k_raise, Pd.ws_try, Pd.k_try_nx, Pd.k_try_bk, Pd.k_try_ct, Pd.k_try_rt, Pd.k_try_er, Pd.k_sui_nx, Pd.k_sui_bk, Pd.k_sui_ct, Pd.k_sui_rt, Pd.ws_oput, Pd.ws_app, Pd.app_l, Pd.k_app2, Pd.ws_attr, Pd.k_att, Pd.att_i, Pd.un_0, Pd.un_s, Pd.sl_nil, Pd.sl_s, Pd.wf_run, Pd.k_run_nx, Pd.k_run_rt, Pd.k_run_er, Pd.ini_m, Pd.wf_ini, Pd.k_ini_nx, Pd.k_ini_rtn, Pd.k_ini_er, Pd.k_bo2t, Pd.k_bo2f, Pd.k_t1t, Pd.k_t1f, Pd.k_t2, Pd.k_t0, Pd.turn_def, Pd.lq_nx, Pd.lq_ct, Pd.lq_bk, Pd.lq_rt, Pd.lq_er, Pd.wm_oapp, Pd.wm_cat, Pd.k_catA, Pd.k_catB, Pd.ct_lst, Pd.eg_int, Pd.eg_str, Pd.eg_tup0, Pd.eg_lst0, Pd.eg_bl, Pd.neg_def, Pd.tr_non, Pd.tr_bl, Pd.tr_int, Pd.tr_tup, Pd.tr_lst, Pd.lt_int, Pd.le_int, Pd.gt_int, Pd.ge_int, Pd.ad_int, Pd.sb_int, Pd.ad_tup, Pd.ad_lst, Pd.ix_tup, Pd.ix_lst, Pd.sl_tup, Pd.sl_lst, Pd.ln_tup, Pd.ln_lst, Pd.tp_tup, Pd.tp_lst, Pd.ls_tup, Pd.ls_lst, Pd.is_int_non, Pd.is_int_bl, Pd.is_int_int, Pd.is_int_str, Pd.is_int_tup, Pd.is_int_lst, Pd.is_int_dct, Pd.is_bool_non, Pd.is_bool_bl, Pd.is_bool_int, Pd.is_bool_str, Pd.is_bool_tup, Pd.is_bool_lst, Pd.is_bool_dct, Pd.is_str_non, Pd.is_str_bl, Pd.is_str_int, Pd.is_str_str, Pd.is_str_tup, Pd.is_str_lst, Pd.is_str_dct, Pd.is_tuple_non, Pd.is_tuple_bl, Pd.is_tuple_int, Pd.is_tuple_str, Pd.is_tuple_tup, Pd.is_tuple_lst, Pd.is_tuple_dct, Pd.is_list_non, Pd.is_list_bl, Pd.is_list_int, Pd.is_list_str, Pd.is_list_tup, Pd.is_list_lst, Pd.is_list_dct, Pd.is_dict_non, Pd.is_dict_bl, Pd.is_dict_int, Pd.is_dict_str, Pd.is_dict_tup, Pd.is_dict_lst, Pd.is_dict_dct, Lk56.fd_Guest_rooms, Lk56.fd_Guest_moves, Lk56.fd_ty_Guest, Lk56.fd_is_Guest_Guest, List.getElem?_cons_succ, List.getElem?_cons_zero, Option.bind_some, Option.map_some, and_true, true_and, and_self, Bool.not_true, Bool.not_false, if_true, if_false, decide_true, decide_false, Bool.false_eq_true, Bool.and_true, Bool.true_and, Bool.and_false, Bool.false_and, beq_self_eq_true, List.length_cons, List.length_nil, List.length_map, Nat.reduceAdd, Nat.reduceLeDiff, Nat.reduceLT, Nat.reduceEqDiff, Int.reduceEq, Int.reduceLT, Int.reduceLE, Int.reduceAdd, Int.reduceSub, Int.reduceNeg, Int.reduceToNat, Int.reduceBEq, Int.reduceBNe, Int.reducePow, Int.cast_ofNat_Int, $xs,*])
namespace Lk56
open PySem L2 Pd TL
section
variable {S : Sto} {Q : D → Sto → Prop} {E : EQ} {d : D} {M : Lim}
/-! equal just if shown alike -/
mutual
def ntp : PyData → Bool
  | .int _ => true
  | .str x => x.cps.toList.all fun c => decide (97 ≤ c) && decide (c ≤ 122)
  | .tuple ps => ntps ps
  | _ => false
def ntps : List PyData → Bool
  | [] => true
  | p :: ps => ntp p && ntps ps
end
mutual
theorem gd_nt : ∀ p, ntp p = true → gdp p = true
  | .int _, _ => rfl
  | .str x, h => by simp only [ntp] at h; simp only [gdp]; exact h
  | .tuple ps, h => by simp only [ntp] at h; simp only [gdp]; exact gds_nt ps h
  | .none, h => by simp [ntp] at h
  | .bool _, h => by simp [ntp] at h
  | .list _, h => by simp [ntp] at h
  | .dict _, h => by simp [ntp] at h
theorem gds_nt : ∀ ps, ntps ps = true → gdps ps = true
  | [], _ => rfl
  | p :: ps, h => by simp only [ntps, Bool.and_eq_true] at h; simp only [gdps, gd_nt p h.1, gds_nt ps h.2, Bool.and_self]
end
mutual
theorem eqv_nt : ∀ p q, ntp p = true → ntp q = true → (PyData.eqv p q = true ↔ p = q)
  | .int i, .int j, _, _ => by simp [PyData.eqv]
  | .int _, .str _, _, _ => by simp [PyData.eqv]
  | .int _, .tuple _, _, _ => by simp [PyData.eqv]
  | .str _, .int _, _, _ => by simp [PyData.eqv]
  | .str x, .str y, _, _ => by simp [PyData.eqv]
  | .str _, .tuple _, _, _ => by simp [PyData.eqv]
  | .tuple _, .int _, _, _ => by simp [PyData.eqv]
  | .tuple _, .str _, _, _ => by simp [PyData.eqv]
  | .tuple ps, .tuple qs, hp, hq => by
    simp only [ntp] at hp hq
    simp only [PyData.eqv, eqvs_nt ps qs hp hq, PyData.tuple.injEq]
  | .none, _, h, _ => by simp [ntp] at h
  | .bool _, _, h, _ => by simp [ntp] at h
  | .list _, _, h, _ => by simp [ntp] at h
  | .dict _, _, h, _ => by simp [ntp] at h
  | _, .none, _, h => by simp [ntp] at h
  | _, .bool _, _, h => by simp [ntp] at h
  | _, .list _, _, h => by simp [ntp] at h
  | _, .dict _, _, h => by simp [ntp] at h
theorem eqvs_nt : ∀ ps qs, ntps ps = true → ntps qs = true → (PyData.eqvAll ps qs = true ↔ ps = qs)
  | [], [], _, _ => by simp [PyData.eqvAll]
  | [], _ :: _, _, _ => by simp [PyData.eqvAll]
  | _ :: _, [], _, _ => by simp [PyData.eqvAll]
  | p :: ps, q :: qs, hp, hq => by
    simp only [ntps, Bool.and_eq_true] at hp hq
    simp only [PyData.eqvAll, Bool.and_eq_true, eqv_nt p q hp.1 hq.1, eqvs_nt ps qs hp.2 hq.2, List.cons.injEq]
end
mutual
def ntd : D → Bool
  | .int _ => true
  | .str x => x.cps.toList.all fun c => decide (97 ≤ c) && decide (c ≤ 122)
  | .tup ds => ntds ds
  | _ => false
def ntds : List D → Bool
  | [] => true
  | d :: ds => ntd d && ntds ds
end
theorem ntds_all {ds : List D} : ntds ds = true ↔ ∀ d ∈ ds, ntd d = true := by
  induction ds with
  | nil => simp [ntds]
  | cons d ds ih => simp [ntds, ih]
mutual
theorem nt_py : ∀ d, ntd d = true → ∃ p, d.py = some p ∧ ntp p = true
  | .int i, _ => ⟨.int i, rfl, rfl⟩
  | .str x, h => ⟨.str x, rfl, by simp only [ntd] at h; simp only [ntp]; exact h⟩
  | .tup ds, h => by
    simp only [ntd] at h
    obtain ⟨ps, e, hp⟩ := nts_py ds h
    exact ⟨.tuple ps, by simp only [D.py, e], by simp only [ntp]; exact hp⟩
  | .non, h => by simp [ntd] at h
  | .bl _, h => by simp [ntd] at h
  | .lst _, h => by simp [ntd] at h
  | .dct _, h => by simp [ntd] at h
  | .ins _ _, h => by simp [ntd] at h
  | .exc _ _, h => by simp [ntd] at h
  | .own _, h => by simp [ntd] at h
  | .loc _, h => by simp [ntd] at h
  | .cls _, h => by simp [ntd] at h
  | .scr _, h => by simp [ntd] at h
theorem nts_py : ∀ ds, ntds ds = true → ∃ ps, pyA ds = some ps ∧ ntps ps = true
  | [], _ => ⟨[], rfl, rfl⟩
  | d :: ds, h => by
    simp only [ntds, Bool.and_eq_true] at h
    obtain ⟨p, e, hp⟩ := nt_py d h.1
    obtain ⟨ps, e', hps⟩ := nts_py ds h.2
    exact ⟨p :: ps, by simp only [pyA, e, e'], by simp only [ntps, hp, hps, Bool.and_self]⟩
end
theorem btws_nt {lo hi : Int} {d : D} (h : btws lo hi d = true) : ntd d = true := by
  cases d <;> first | (simp [btws] at h; done) | skip
  rename_i ds
  simp only [btws, List.all_eq_true] at h
  simp only [ntd, ntds_all]
  intro x hx
  have := h x hx
  cases x <;> first | rfl | (simp [btw] at this; done)
theorem due_nt {r m : D} (h : gdue r m = none) : ntd r = true ∧ ntd m = true := by
  obtain ⟨rs, ms, rfl, rfl, hr, hm⟩ := due_none h
  constructor
  · unfold groomsD at hr
    split at hr
    · rename_i e
      cases e
      rw [Bool.and_eq_true] at hr
      exact btws_nt hr.1
    · cases hr
  · simp only [ntd, ntds_all]
    intro d hd
    have h := hm d hd
    unfold gmoveD at h
    split at h
    · rename_i a b t f
      simp only [Bool.and_eq_true] at h
      obtain ⟨ha, hb, ht, hf, _⟩ := h
      have na : ntd a = true := by cases a <;> first | rfl | (simp [btw] at ha; done)
      have nb : ntd b = true := by cases b <;> first | rfl | (simp [btw] at hb; done)
      have nt : ntd t = true := by
        cases t <;> first | (simp [lettersD] at ht; done) | skip
        simp only [lettersD, Bool.and_eq_true] at ht
        simp only [ntd]
        exact ht.1
      simp only [ntd, ntds, na, nb, nt, btws_nt hf, Bool.and_self]
    · cases h
theorem eqG_nt {a b : D} {p q : PyData} (hI : M.I < 10 ^ 60) (ha : okv M a = true) (hb : okv M b = true) (da : dep a ≤ 60) (db : dep b ≤ 60) (na : noD a = true) (nb : noD b = true) (ea : a.py = some p) (eb : b.py = some q) (hp : ntp p = true) (hq : ntp q = true) (ta : isT a = true) (tb : isT b = true) :
    ∃ k, eqG a b = some k ∧ (k = true ↔ p = q) := by
  have sh : ∀ {d : D} {p : PyData}, okv M d = true → dep d ≤ 60 → noD d = true → d.py = some p → SeqAt.shaped p = true := by
    intro d p h hd hn e
    obtain ⟨p', e', -, h2, -, -⟩ := okv_py hI d h
    rw [e] at e'
    cases e'
    unfold SeqAt.shaped
    rw [lay_noD d p e h hn, decide_eq_true (by omega)]
    rfl
  have key : ∃ k, eqP a b = some k ∧ (k = true ↔ p = q) := by
    unfold eqP
    rw [ea, eb]
    dsimp only
    rw [if_pos ⟨sh ha da na ea, sh hb db nb eb⟩]
    exact ⟨_, rfl, eqv_nt p q hp hq⟩
  cases a <;> first | (simp [isT] at ta; done) | skip
  cases b <;> first | (simp [isT] at tb; done) | skip
  rename_i as bs
  cases bs with
  | cons y ys => exact key
  | nil =>
    refine ⟨as.isEmpty, rfl, ?_⟩
    simp only [D.py, pyA] at eb
    cases eb
    cases as with
    | nil =>
      simp only [D.py, pyA] at ea
      cases ea
      exact ⟨fun _ => rfl, fun _ => rfl⟩
    | cons x xs =>
      refine ⟨fun z => by simp at z, fun z => ?_⟩
      subst z
      simp only [D.py] at ea
      cases q1 : pyA (x :: xs) with
      | none => rw [q1] at ea; cases ea
      | some ps =>
        rw [q1] at ea
        cases ea
        simp only [pyA] at q1
        split at q1 <;> cases q1
theorem like_ok (hI : M.I < 10 ^ 60) {r m r' m' : D} (hr : Fit M r) (hm : Fit M m) (hr' : Fit M r') (hm' : Fit M m') (h : gdue r m = none) (h' : gdue r' m' = none) :
    ∃ a b, eqG r r' = some a ∧ eqG m m' = some b ∧ (a && b) = decide (shw (.tup [r, m]) = shw (.tup [r', m'])) := by
  obtain ⟨n1, n2⟩ := due_nt h
  obtain ⟨n3, n4⟩ := due_nt h'
  obtain ⟨d1, d2⟩ := due_noD h
  obtain ⟨d3, d4⟩ := due_noD h'
  obtain ⟨p1, e1, t1⟩ := nt_py _ n1
  obtain ⟨p2, e2, t2⟩ := nt_py _ n2
  obtain ⟨p3, e3, t3⟩ := nt_py _ n3
  obtain ⟨p4, e4, t4⟩ := nt_py _ n4
  have tt : ∀ {r m : D}, gdue r m = none → isT r = true ∧ isT m = true := by
    intro r m h
    obtain ⟨rs, ms, rfl, rfl, _, _⟩ := due_none h
    exact ⟨rfl, rfl⟩
  have dd : ∀ {d : D}, Fit M d → dep d ≤ 60 := fun h => by have := h.dp; omega
  obtain ⟨a, ea, ia⟩ := eqG_nt hI hr.ok hr'.ok (dd hr) (dd hr') d1 d3 e1 e3 t1 t3 (tt h).1 (tt h').1
  obtain ⟨b, eb, ib⟩ := eqG_nt hI hm.ok hm'.ok (dd hm) (dd hm') d2 d4 e2 e4 t2 t4 (tt h).2 (tt h').2
  refine ⟨a, b, ea, eb, ?_⟩
  have s1 : shw (.tup [r, m]) = (PyData.tuple [p1, p2]).shown := by simp only [shw, D.py, pyA, e1, e2]
  have s2 : shw (.tup [r', m']) = (PyData.tuple [p3, p4]).shown := by simp only [shw, D.py, pyA, e3, e4]
  rw [s1, s2]
  have g := shown_eq (p := .tuple [p1, p2]) (q := .tuple [p3, p4]) (by simp only [gdp, gdps, gd_nt _ t1, gd_nt _ t2, Bool.and_self]) (by simp only [gdp, gdps, gd_nt _ t3, gd_nt _ t4, Bool.and_self])
  have iff : (a && b) = true ↔ (PyData.tuple [p1, p2]).shown = (PyData.tuple [p3, p4]).shown := by
    rw [g, Bool.and_eq_true, ia, ib]
    simp
  cases c : (a && b) with
  | true => exact (decide_eq_true (iff.mp c)).symm
  | false => exact (decide_eq_false fun z => by rw [iff.mpr z] at c; cases c).symm
/-! ### draws -/
def kk : Kn := ⟨"cells", "mixed", "draws"⟩
theorem ks : Keys3 kk.c kk.m kk.d := ⟨by decide +kernel, by decide +kernel, by decide +kernel⟩
theorem draw_Q : DrawQ kk F__law_draw := draw1_Q (N := ⟨2147483563, 2147483629, 61056, 56, 48271, 2147483647, 69621, 29, 2147483579, 39373, 2147483549, 64⟩) ⟨by decide, by decide, by decide, by decide, by decide, by decide, by decide, by decide, by decide⟩ ks
theorem pick_Q : PickQ kk F__law_pick := pick1_Q draw_Q
theorem deck_q {ns : List Int} (hq : ∀ S', Dk kk 0 [] S' → Q (.own 1) S') : WF F__law_deck [.scr ns] [] Q E :=
  deck1_q (k := kk) (a1 := 10867056) (a2 := 40692) (a3 := 2147483629) (a4 := 56) (a5 := 2147483587) (by decide) (by decide) (by decide) ks hq
end
end Lk56

/-! Values put otherwise: what stays within limits; a list behind the deck. -/
namespace Pd
open PySem L2 TL PyProof.Rows
section
variable {M : Lim} {d e : D} {ds es : List D} {k w : Nat} {x y : Str}
/-- a text within limits -/
structure Txo (n : Nat) (x : Str) : Prop where
  len : (tl x).length ≤ n
  low : ∀ c ∈ tl x, c < 128
theorem okv_str : okv M (.str x) = true ↔ Txo M.L x := by
  simp only [okv, Bool.and_eq_true, decide_eq_true_eq, List.all_eq_true]
  rw [len_tl]
  exact ⟨fun h => ⟨h.1, h.2⟩, fun h => ⟨h.len, h.low⟩⟩
theorem Txo.app {a b : Nat} (hx : Txo a x) (hy : Txo b y) : Txo (a + b) (x ++ y) := by
  refine ⟨?_, fun c hc => ?_⟩
  · rw [tl_append, List.length_append]; exact Nat.add_le_add hx.len hy.len
  · rw [tl_append] at hc
    exact (List.mem_append.mp hc).elim (hx.low c) (hy.low c)
theorem Txo.mono {a b : Nat} (h : Txo a x) (l : a ≤ b) : Txo b x := ⟨Nat.le_trans h.len l, h.low⟩
theorem Txo.rev {a : Nat} (h : Txo a x) : Txo a (revTxt x) := by
  refine ⟨?_, fun c hc => ?_⟩
  · have := revTxt_len x
    rw [len_tl, len_tl] at this
    exact Nat.le_trans this h.len
  · have hc : c ∈ ((Builtin.Str.strSliceIndices none none (-1) x.length).filterMap (x.cps[·]?)).toArray.toList := hc
    rw [List.toList_toArray] at hc
    obtain ⟨i, _, hi⟩ := List.mem_filterMap.mp hc
    exact h.low c (by rw [tl, Array.mem_toList_iff]; exact Array.mem_of_getElem? hi)
theorem up1_low : ∀ c, c < 128 → up1 c < 128 := by
  have h : (List.range 128).all (fun c => decide (up1 c < 128)) = true := by decide +kernel
  exact fun c hc => of_decide_eq_true (List.all_eq_true.mp h c (List.mem_range.mpr hc))
theorem Txo.upper {a : Nat} (h : Txo a x) : Txo a (Txt.upper x) := by
  rw [upper_ascii h.low]
  refine ⟨?_, fun c hc => ?_⟩
  · have : tl (⟨x.cps.map up1⟩ : Str) = (tl x).map up1 := by simp [tl]
    rw [this, List.length_map]
    exact h.len
  · have : tl (⟨x.cps.map up1⟩ : Str) = (tl x).map up1 := by simp [tl]
    rw [this] at hc
    obtain ⟨b, hb, rfl⟩ := List.mem_map.mp hc
    exact up1_low b (h.low b hb)
theorem Txo.cut {a : Nat} (h : Txo a x) (lo hi : Option Int) : Txo a (cutS x lo hi) := by
  refine ⟨?_, fun c hc => ?_⟩
  · show (((tl x).drop _).take _).toArray.toList.length ≤ a
    rw [List.toList_toArray]
    have := h.len
    simp only [List.length_take, List.length_drop]
    omega
  · have hc : c ∈ (((tl x).drop (HT.sIx x.length 0 lo)).take (HT.sIx x.length x.length hi - HT.sIx x.length 0 lo)).toArray.toList := hc
    rw [List.toList_toArray] at hc
    exact h.low c (List.mem_of_mem_drop (List.mem_of_mem_take hc))
theorem Txo.cut1 {a : Nat} (h : Txo a x) : Txo 1 (cutS x none (some 1)) := by
  refine ⟨?_, (h.cut none (some 1)).low⟩
  show (((tl x).drop (HT.sIx x.length 0 none)).take (HT.sIx x.length x.length (some 1) - HT.sIx x.length 0 none)).toArray.toList.length ≤ 1
  rw [List.toList_toArray, show HT.sIx x.length x.length (some 1) = min 1 x.length from HT.sIx_nat _ _ 1]
  simp only [List.length_take, List.length_drop]
  omega
theorem Txo.int {i : Int} {a : Nat} (ha : 0 < a) (h : i.natAbs < 10 ^ a) : Txo (a + 1) ((toString i : String) : Str) := by
  refine ⟨?_, fun c hc => ?_⟩
  · rw [← len_tl, PySem.ofString_length]
    exact int_text_length_le10 ha h
  · by_cases q : c < 128
    · exact q
    · exact absurd hc (int_text_free' c ⟨by omega, by omega⟩ i)
/-! parts of a row -/
theorem cut_to {α : Type} (xs : List α) (n : Nat) : cutD xs none (some (n : Int)) = xs.take n := by
  unfold cutD
  rw [HT.sIx_nat]
  show (xs.drop 0).take (min n xs.length - 0) = _
  rw [List.drop_zero, Nat.sub_zero]
  by_cases h : n ≤ xs.length
  · rw [Nat.min_eq_left h]
  · rw [Nat.min_eq_right (by omega), List.take_length, List.take_of_length_le (by omega)]
theorem cut_from {α : Type} (xs : List α) (n : Nat) : cutD xs (some (n : Int)) none = xs.drop n := by
  unfold cutD
  rw [HT.sIx_nat]
  show (xs.drop (min n xs.length)).take (xs.length - min n xs.length) = _
  by_cases h : n ≤ xs.length
  · rw [Nat.min_eq_left h, List.take_of_length_le (by simp)]
  · rw [Nat.min_eq_right (by omega), List.drop_length, List.drop_of_length_le (by omega)]
    simp
theorem cut_mid {α : Type} (xs : List α) (m n : Nat) (h : m ≤ xs.length) : cutD xs (some (m : Int)) (some (n : Int)) = (xs.drop m).take (n - m) := by
  unfold cutD
  rw [HT.sIx_nat, HT.sIx_nat, Nat.min_eq_left h]
  by_cases h2 : n ≤ xs.length
  · rw [Nat.min_eq_left h2]
  · rw [Nat.min_eq_right (by omega), List.take_of_length_le (by simp), List.take_of_length_le (by simp; omega)]
/-- a row within limits -/
structure Row (M : Lim) (k w : Nat) (ds : List D) : Prop where
  ok : okvs M ds = true
  dp : deps ds ≤ k
  wt : wts ds ≤ w
theorem row_of (h : Any M (k + 1) w (.tup ds)) : Row M k w ds := by
  obtain ⟨h1, h2, h3⟩ := h
  simp only [okv, Bool.and_eq_true] at h1
  simp only [dep] at h2
  exact ⟨h1.2, by omega, h3⟩
theorem Row.tup (h : Row M k w ds) (l : ds.length ≤ M.T) : Any M (k + 1) w (.tup ds) := ⟨by simp only [okv, h.ok, Bool.and_true]; exact decide_eq_true l, by simp only [dep]; have := h.dp; omega, h.wt⟩
theorem Row.lst (h : Row M k w ds) (l : ds.length ≤ M.T) : Any M (k + 1) w (.lst ds) := ⟨by simp only [okv, h.ok, Bool.and_true]; exact decide_eq_true l, by simp only [dep]; have := h.dp; omega, h.wt⟩
theorem Row.app {v : Nat} (h : Row M k w ds) (h' : Row M k v es) : Row M k (w + v) (ds ++ es) := ⟨by rw [okvs_app, h.ok, h'.ok]; rfl, by rw [deps_app]; have := h.dp; have := h'.dp; omega, by rw [wts_app]; have := h.wt; have := h'.wt; omega⟩
theorem wts_take (n : Nat) : wts (ds.take n) + wts (ds.drop n) = wts ds := by rw [← wts_app, List.take_append_drop]
theorem Row.take (h : Row M k w ds) (n : Nat) : Row M k w (ds.take n) := by
  have e := List.take_append_drop n ds
  have h1 := h.ok
  have h2 := h.dp
  have h3 := h.wt
  rw [← e] at h1 h2 h3
  rw [okvs_app, Bool.and_eq_true] at h1
  rw [deps_app] at h2
  rw [wts_app] at h3
  exact ⟨h1.1, by omega, by omega⟩
theorem Row.drop (h : Row M k w ds) (n : Nat) : Row M k w (ds.drop n) := by
  have e := List.take_append_drop n ds
  have h1 := h.ok
  have h2 := h.dp
  have h3 := h.wt
  rw [← e] at h1 h2 h3
  rw [okvs_app, Bool.and_eq_true] at h1
  rw [deps_app] at h2
  rw [wts_app] at h3
  exact ⟨h1.2, by omega, by omega⟩
theorem wts_rev : wts ds.reverse = wts ds := by
  induction ds with
  | nil => rfl
  | cons d ds ih => rw [List.reverse_cons, wts_app, ih]; simp only [wts]; omega
theorem Row.rev (h : Row M k w ds) : Row M k w ds.reverse := ⟨okvs_all.mpr fun d hd => okvs_all.mp h.ok d (by simpa using hd), deps_le.mpr fun d hd => deps_le.mp h.dp d (by simpa using hd), by rw [wts_rev]; exact h.wt⟩
theorem Row.mem (h : Row M k w ds) (hd : d ∈ ds) : Any M k w d := ⟨okvs_all.mp h.ok d hd, deps_le.mp h.dp d hd, by have := wt_mem hd; have := h.wt; omega⟩
theorem Row.one (h : Any M k w d) : Row M k (w + 1) [d] := ⟨by simp only [okvs, h.ok, Bool.and_true], by simp only [deps]; have := h.dp; omega, by simp only [wts]; have := h.wt; omega⟩
theorem Row.mono {N : Lim} {k' w' : Nat} (h : Row M k w ds) (hi : M.I ≤ N.I) (hl : M.L ≤ N.L) (ht : M.T ≤ N.T) (hk : k ≤ k') (hw : w ≤ w') : Row N k' w' ds := ⟨okvs_mono hi hl ht ds h.ok, Nat.le_trans h.dp hk, Nat.le_trans h.wt hw⟩
/-! a list behind the deck -/
variable {kn : Kn} {hi : Int} {rest S : Sto} {a b : Mo} {es : List D}
theorem Dk.len (h : Dk kn hi rest S) : S.length = rest.length + 2 := by
  obtain ⟨cs, m, n, rfl, _⟩ := h
  rfl
theorem Dk.push (h : Dk kn hi rest S) : Dk kn hi (rest ++ [a]) (S ++ [a]) := by
  obtain ⟨cs, m, n, rfl, h⟩ := h
  exact ⟨cs, m, n, rfl, h⟩
theorem Dk.get (h : Dk kn hi (rest ++ [a]) S) : S[rest.length + 2]? = some a := by
  obtain ⟨cs, m, n, rfl, _⟩ := h
  show (rest ++ [a])[rest.length]? = some a
  simp
theorem Dk.set (h : Dk kn hi (rest ++ [a]) S) : Dk kn hi (rest ++ [b]) (S.set (rest.length + 2) b) := by
  obtain ⟨cs, m, n, rfl, h⟩ := h
  refine ⟨cs, m, n, ?_, h⟩
  show _ :: _ :: (rest ++ [a]).set rest.length b = _
  simp
theorem Dk.rs {ρ : Rho} (h : Dk kn hi (rest ++ [a]) S) : rsv ρ S (.own (rest.length + 2)) = some a.d := by
  rw [rs_own, h.get]
  rfl
end
end Pd

namespace Lk56
open PySem L2 Pd TL
section
variable {S : Sto} {Q : D → Sto → Prop} {E : EQ} {d : D} {M : Lim}
/-- a drawn move -/
structure RowOk (n : Int) (d : D) : Prop where
  ok : gmoveD n d = true
  any : Any ⟨10, 4, 6⟩ 2 10 d
theorem said_ok {d : D} (h : d ∈ [D.str "", .str "a", .str "b", .str "c", .str "c"]) : lettersD d = true ∧ okv ⟨10, 4, 6⟩ d = true ∧ wt d ≤ 1 ∧ dep d = 0 := by
  simp only [List.mem_cons, List.not_mem_nil, or_false] at h
  rcases h with rfl | rfl | rfl | rfl | rfl <;> decide +kernel
theorem faces_ok {d : D} (h : d ∈ [D.tup [.int 0, .int 1, .int 2], .tup [.int 0, .int 1, .int 2], .tup [.int 0, .int 1], .tup [.int 2], .tup [.int 1], .tup []]) : btws 0 99 d = true ∧ ascD d = true ∧ okv ⟨10, 4, 6⟩ d = true ∧ wt d ≤ 3 ∧ dep d = 1 := by
  simp only [List.mem_cons, List.not_mem_nil, or_false] at h
  rcases h with rfl | rfl | rfl | rfl | rfl | rfl <;> decide +kernel
theorem row_ok {n a b : Int} {s f : D} (h0 : 0 ≤ a ∧ a < n) (h1 : 0 ≤ b ∧ b < n) (hn : n ≤ 3) (hs : lettersD s = true ∧ okv ⟨10, 4, 6⟩ s = true ∧ wt s ≤ 1 ∧ dep s = 0) (hf : btws 0 99 f = true ∧ ascD f = true ∧ okv ⟨10, 4, 6⟩ f = true ∧ wt f ≤ 3 ∧ dep f = 1) : RowOk n (.tup [.int a, .int b, s, f]) := by
  refine ⟨?_, ?_, ?_, ?_⟩
  · have e1 : btw 0 (n - 1) (.int a) = true := by simp only [btw, Bool.and_eq_true, decide_eq_true_eq]; omega
    have e2 : btw 0 (n - 1) (.int b) = true := by simp only [btw, Bool.and_eq_true, decide_eq_true_eq]; omega
    simp only [gmoveD, e1, e2, hs.1, hf.1, hf.2.1, Bool.and_self]
  · have e1 : decide (a.natAbs ≤ 10) = true := decide_eq_true (by omega)
    have e2 : decide (b.natAbs ≤ 10) = true := decide_eq_true (by omega)
    simp only [okv, okvs, e1, e2, hs.2.1, hf.2.2.1, Bool.and_true]
    exact decide_eq_true (by simp)
  · simp only [dep, deps, hs.2.2.2, hf.2.2.2.2]; omega
  · have := hs.2.2.1
    have := hf.2.2.2.1
    simp only [Pd.wt, wts]; omega
/-- a drawn guest -/
structure Caller (r m : D) : Prop where
  due : gdue r m = none
  r : Any ⟨10, 4, 6⟩ 1 3 r
  m : Any ⟨10, 4, 6⟩ 3 60 m
theorem firstBad_none {n : Int} : ∀ {ds : List D} {k : Nat}, (∀ d ∈ ds, gmoveD n d = true) → firstBad n k ds = none
  | [], _, _ => rfl
  | d :: ds, k, h => by rw [firstBad, if_pos (h d List.mem_cons_self), firstBad_none fun x hx => h x (List.mem_cons_of_mem _ hx)]
theorem caller_ok {ns : List Int} {rows : List D} {i : Int} (hns : ∀ j ∈ ns, -1 ≤ j ∧ j ≤ 3) (hl : (ns.length : Int) = i) (i0 : 0 ≤ i) (i2 : i ≤ 2) (hrows : ∀ r ∈ rows, RowOk (1 + i) r) (hr : rows.length ≤ 5) : Caller (.tup ([D.int (-1)] ++ ns.map D.int)) (.tup rows) := by
  have e1 : btws (-1) 9 (.tup (D.int (-1) :: ns.map D.int)) = true := by
    simp only [btws, List.all_cons, Bool.and_eq_true, List.all_eq_true]
    refine ⟨rfl, fun x hx => ?_⟩
    obtain ⟨j, hj, rfl⟩ := List.mem_map.mp hx
    have := hns j hj
    simp only [btw, Bool.and_eq_true, decide_eq_true_eq]
    omega
  have eg : groomsD (.tup (D.int (-1) :: ns.map D.int)) = true := by simp only [groomsD, e1, Bool.true_and]; decide
  have el : ((D.int (-1) :: ns.map D.int).length : Int) = 1 + i := by simp; omega
  refine ⟨?_, ⟨?_, ?_, ?_⟩, ⟨?_, ?_, ?_⟩⟩
  · show gdue (.tup (D.int (-1) :: ns.map D.int)) (.tup rows) = none
    rw [gdue, if_pos eg, mdue, el]
    exact firstBad_none fun d hd => (hrows d hd).ok
  · have e2 : okvs ⟨10, 4, 6⟩ (D.int (-1) :: ns.map D.int) = true := okvs_all.mpr fun x hx => by
      rcases List.mem_cons.mp hx with rfl | hx
      · rfl
      · obtain ⟨j, hj, rfl⟩ := List.mem_map.mp hx
        have := hns j hj
        exact decide_eq_true (by show j.natAbs ≤ 10; omega)
    show (decide ((D.int (-1) :: ns.map D.int).length ≤ 6) && okvs ⟨10, 4, 6⟩ (D.int (-1) :: ns.map D.int)) = true
    rw [e2, Bool.and_true]
    exact decide_eq_true (by simp; omega)
  · show deps (D.int (-1) :: ns.map D.int) + 1 ≤ 1
    have : deps (D.int (-1) :: ns.map D.int) ≤ 0 := deps_le.mpr fun x hx => by
      rcases List.mem_cons.mp hx with rfl | hx
      · exact Nat.le_refl _
      · obtain ⟨j, hj, rfl⟩ := List.mem_map.mp hx
        exact Nat.le_refl _
    omega
  · show wts (D.int (-1) :: ns.map D.int) ≤ 3
    have : ∀ ns : List Int, wts (ns.map D.int) = ns.length := fun ns => by
      induction ns with
      | nil => rfl
      | cons a ns ih => simp only [List.map_cons, wts, Pd.wt, ih, List.length_cons]; omega
    simp only [wts, Pd.wt, this]
    omega
  · have e2 : okvs ⟨10, 4, 6⟩ rows = true := okvs_all.mpr fun x hx => (hrows x hx).any.ok
    show (decide (rows.length ≤ 6) && okvs ⟨10, 4, 6⟩ rows) = true
    rw [e2, Bool.and_true]
    exact decide_eq_true (by omega)
  · show deps rows + 1 ≤ 3
    have : deps rows ≤ 2 := deps_le.mpr fun x hx => (hrows x hx).any.dp
    omega
  · show wts rows ≤ 60
    have : ∀ rows : List D, (∀ r ∈ rows, Pd.wt r ≤ 10) → wts rows ≤ 11 * rows.length := fun rows h => by
      induction rows with
      | nil => simp [wts]
      | cons a rows ih =>
        have := h a List.mem_cons_self
        have := ih fun r hr => h r (List.mem_cons_of_mem _ hr)
        simp only [wts, List.length_cons]
        omega
    have := this rows fun r hr => (hrows r hr).any.wt
    omega
theorem caller_q {hi : Int} {rest : Sto} (hh : hi + 100 < 2 ^ 61) (hS : Dk kk hi rest S) (hq : ∀ r m rest' S', Caller r m → Dk kk (hi + 40) rest' S' → Q (.dct [(.inr "rooms", r), (.inr "moves", m)]) S') : WF F__law_caller [.own 1] S Q E := by
  unfold F__law_caller B__law_caller
  simp? only [and_self]
  refine pick_Q (by simp) (by simp) (by simp [Fx, fixed]) (by omega) hS fun c S1 hc hS1 => ?_
  have hc : ∃ i : Int, c = .int i ∧ 0 ≤ i ∧ i ≤ 2 := by
    simp only [List.mem_cons, List.not_mem_nil, or_false] at hc
    rcases hc with rfl | rfl | rfl | rfl | rfl
    · exact ⟨1, rfl, by decide, by decide⟩
    · exact ⟨1, rfl, by decide, by decide⟩
    · exact ⟨2, rfl, by decide, by decide⟩
    · exact ⟨2, rfl, by decide, by decide⟩
    · exact ⟨0, rfl, by decide, by decide⟩
  obtain ⟨i, rfl, i0, i2⟩ := hc
  have hS2 := hS1.push (a := .lst [])
  have r1 : (-4611686018427387904 ≤ (1 : Int) + i - 1) = True := by simp; omega
  have r2 : ((1 : Int) + i - 1 < 4611686018427387904) = True := by simp; omega
  simp? only [r1, r2, hS1.len]
  have hrl : (rangeD 0 (1 + i - 1).toNat).length ≤ 2 := by rw [rangeD_len]; omega
  refine lc_inv (P := fun xs acc S => (∃ ns : List Int, acc = ns.map D.int ∧ ∀ j ∈ ns, -1 ≤ j ∧ j ≤ 3) ∧ acc.length + xs.length = (1 + i - 1).toNat ∧ Dk kk (hi + 1 + acc.length) (rest ++ [.lst []]) S) (by rw [sizeLine_eq]; simp only [List.length_nil]; omega) ⟨⟨[], rfl, fun j hj => by cases hj⟩, by rw [rangeD_len]; simp, by simpa using hS2⟩ ?_ ?_
  · rintro x xs acc S' hx hl ⟨⟨ns, rfl, hns⟩, hc2, hS'⟩
    simp? only [and_self]
    simp only [List.length_map, List.length_nil] at hS' hl
    refine pick_Q (by simp) (by simp) (by simp [Fx, fixed]) (by omega) hS' fun c S3 hc hS3 => ?_
    have hc : ∃ j : Int, c = .int j ∧ -1 ≤ j ∧ j ≤ 3 := by
      simp only [List.mem_cons, List.not_mem_nil, or_false] at hc
      rcases hc with rfl | rfl | rfl | rfl
      · exact ⟨3, rfl, by decide, by decide⟩
      · exact ⟨0, rfl, by decide, by decide⟩
      · exact ⟨3, rfl, by decide, by decide⟩
      · exact ⟨-1, rfl, by decide, by decide⟩
    obtain ⟨j, rfl, j0, j1⟩ := hc
    simp? only [and_self]
    refine ⟨⟨ns ++ [j], by simp, fun z hz => ?_⟩, by simp at hc2 ⊢; omega, ?_⟩
    · rcases List.mem_append.mp hz with hz | hz
      · exact hns z hz
      · rw [List.mem_singleton.mp hz]; exact ⟨j0, j1⟩
    · simpa [Int.add_assoc] using hS3
  · rintro acc S' hl ⟨⟨ns, rfl, hns⟩, hc2, hS'⟩
    simp only [List.length_map, List.length_nil, Nat.add_zero] at hc2 hS' hl
    have l2 : (0 + 1 + ns.length ≤ sizeLine) = True := by rw [sizeLine_eq]; simp; omega
    simp? only [l2]
    refine draw_Q (by decide) (by decide) (by omega) hS' fun t S2 t0 t1 hS2 => ?_
    have r3 : (-4611686018427387904 ≤ t) = True := by simp; omega
    have r4 : (t < 4611686018427387904) = True := by simp; omega
    simp? only [r3, r4]
    have hn3 : (1 : Int) + i ≤ 3 := by omega
    refine for_inv (P := fun xs ρ S => ∃ (rows : List D) (x4 x5 x6 x7 : Sv), ρ = [.d (.own 1), .d (.int (1 + i)), .d (.own (rest.length + 2)), .d (.tup ([D.int (-1)] ++ ns.map D.int)), x4, x5, x6, x7] ∧ (∀ r ∈ rows, RowOk (1 + i) r) ∧ rows.length + xs.length = t.toNat ∧ Dk kk (hi + 4 + 4 * rows.length) (rest ++ [Mo.lst rows]) S) ⟨[], _, _, _, _, rfl, (fun r hr => by cases hr), by rw [rangeD_len]; simp, hS2.mono (by simp; omega)⟩ ?_ ?_
    · rintro x xs pre ρ' S' e ⟨rows, x4, x5, x6, x7, rfl, hrows, hlen, hD⟩
      have hx : x ∈ rangeD 0 t.toNat := by rw [e]; simp
      obtain ⟨g, hg, rfl⟩ := range_mem hx
      have hx : ∃ g : Int, D.int (0 + (g : Int)) = .int g := ⟨0, rfl⟩
      simp only [List.length_cons] at hlen
      have hrl : rows.length ≤ 5 := by omega
      simp? only [and_self]
      generalize hK : KAsg (g_name 6) _ _ = K
      have key : ∀ (a b : Int) (S3 : Sto), (0 ≤ a ∧ a < 1 + i) → (0 ≤ b ∧ b < 1 + i) → Dk kk (hi + 4 + 4 * rows.length + 2) (rest ++ [Mo.lst rows]) S3 → K (.tup [.int a, .int b]) S3 := by
        intro a b S3 ha hb hS3
        rw [← hK]
        simp? only [and_self]
        refine pick_Q (by simp) (by simp) (by simp [Fx, fixed]) (by omega) hS3 fun said S4 hsaid hS4 => ?_
        have hs := said_ok hsaid
        have hsf := okv_Fx hs.2.1
        simp? only [hsf]
        rw [k_oa hS4.get]
        simp? only [hsf]
        refine pick_Q (by simp) (by simp) (by simp [Fx, fixed]) (by omega) hS4 fun fs S5 hfs hS5 => ?_
        have hf := faces_ok hfs
        have hff := okv_Fx hf.2.2.1
        have l4 : (0 + 1 + 1 + (0 + 1 + 1) ≤ sizeLine) = True := by rw [sizeLine_eq]; simp
        simp? only [hsf, hff, l4]
        rw [k_oa2 hS5.get]
        have l5 : (rows.length < sizeLine) = True := by rw [sizeLine_eq]; simp; omega
        simp? only [l5]
        refine ⟨rows ++ [.tup [.int a, .int b, said, fs]], _, _, _, _, rfl, fun r hr => ?_, by simp; omega, ?_⟩
        · rcases List.mem_append.mp hr with hr | hr
          · exact hrows r hr
          · rw [List.mem_singleton.mp hr]
            exact row_ok ha hb hn3 hs hf
        · exact (hS5.set).mono (by simp; omega)
      by_cases g0 : g = 0
      · have d0 : decide ((0 : Int) + (g : Int) = 0) = true := decide_eq_true (by omega)
        simp? only [d0]
        exact key 0 (1 + i - 1) S' ⟨by omega, by omega⟩ ⟨by omega, by omega⟩ (hD.mono (by omega))
      · have d0 : decide ((0 : Int) + (g : Int) = 0) = false := decide_eq_false (by omega)
        simp? only [d0]
        refine draw_Q (by omega) (by omega) (by omega) hD fun a S3 a0 a1 hS3 => ?_
        simp? only [and_self]
        refine draw_Q (by omega) (by omega) (by omega) hS3 fun b S4 b0 b1 hS4 => ?_
        simp? only [and_self]
        exact key a b S4 ⟨a0, a1⟩ ⟨b0, b1⟩ (hS4.mono (by omega))
    · rintro ρ' S' ⟨rows, x4, x5, x6, x7, rfl, hrows, hlen, hD⟩
      simp only [List.length_nil, Nat.add_zero] at hlen
      have l15 : (0 + 1 + 1 ≤ 15) = True := by simp
      simp? only [hD.rs, l15]
      have dc : ∀ r m : D, dctOf [("rooms", m_var 3), ("moves", m_cb tupleD (ma_cons (m_var 2) ma_nil))] [r, m] = [(Sum.inr ("rooms" : Str), r), (Sum.inr ("moves" : Str), m)] := fun r m => by kernel_rfl
      have e0 : (Mo.lst rows).d = D.lst rows := rfl
      simp? only [e0, dc]
      refine hq _ _ _ S' (caller_ok hns (by omega) (by omega) (by omega) hrows (by omega)) (hD.mono (by omega))
end
end Lk56

namespace Lk56
open PySem L2 Pd TL
/-- limits when n changes have been made -/
def LM (n : Nat) : Lim := ⟨10 ^ 39 + n, 41 + n, 6 + n⟩
section
variable {S : Sto} {Q : D → Sto → Prop} {E : EQ} {d : D}
theorem any_int {n k w : Nat} {i : Int} (h : i.natAbs ≤ 10 ^ 39 + n) : Any (LM n) k w (.int i) := ⟨decide_eq_true h, Nat.zero_le _, Nat.zero_le _⟩
theorem any_str {n k w : Nat} {x : Str} (h : Txo (41 + n) x) (hw : 41 + n ≤ w) : Any (LM n) k w (.str x) := ⟨okv_str.mpr h, Nat.zero_le _, by show x.length ≤ w; rw [len_tl]; exact Nat.le_trans h.len hw⟩
theorem any_bl {n k w : Nat} {b : Bool} : Any (LM n) k w (.bl b) := ⟨rfl, Nat.zero_le _, Nat.zero_le _⟩
def odds : List D := [.non, .bl true, .bl false, .int 0, .int 1, .int (-1), .int (10 ^ 39), .str "", .str "a", .str "ba", .str "catches", .tup [], .lst [], .dct [], .tup [.int 0], .tup [.tup []]]
theorem odds_ok {d : D} (h : d ∈ odds) (n : Nat) : Any (LM n) 2 10 d := by
  have h2 : (odds.all fun d => okv (LM 0) d && (decide (dep d ≤ 2) && decide (wt d ≤ 10))) = true := by decide +kernel
  have := List.all_eq_true.mp h2 d h
  simp only [Bool.and_eq_true, decide_eq_true_eq] at this
  exact Any.mono ⟨this.1, this.2.1, this.2.2⟩ (by show 10 ^ 39 + 0 ≤ 10 ^ 39 + n; omega) (by show 41 + 0 ≤ 41 + n; omega) (by show 6 + 0 ≤ 6 + n; omega) (Nat.le_refl _) (Nat.le_refl _)
-- MODELS k56_Q1
def B_odd : SM := (s_ret (m_call 2 F__law_pick (ma_cons (m_var 0) (ma_cons (m_lst (ma_cons (m_c .non) (ma_cons (m_c (.bl true)) (ma_cons (m_c (.bl false)) (ma_cons (m_c (.int 0)) (ma_cons (m_c (.int 1)) (ma_cons (m_neg (m_c (.int 1))) (ma_cons (m_op powD (m_c (.int 10)) (m_c (.int 39))) (ma_cons (m_c (.str "")) (ma_cons (m_c (.str "a")) (ma_cons (m_c (.str "ba")) (ma_cons (m_c (.str "catches")) (ma_cons (m_tup ma_nil) (ma_cons (m_lst ma_nil) (ma_cons (m_c (.dct [])) (ma_cons (m_tup (ma_cons (m_c (.int 0)) ma_nil)) (ma_cons (m_tup (ma_cons (m_tup ma_nil) ma_nil)) ma_nil))))))))))))))))) ma_nil))))
def B_tail : SM := s_seq (s_if (mt_and (m_tr (m_isi "int" (m_var 1))) (mt_and (mt_not (m_tr (m_isi "bool" (m_var 1)))) (m_cmpT gtD (m_call 2 F__law_draw (ma_cons (m_var 0) (ma_cons (m_c (.int 4)) ma_nil))) (m_c (.int 0))))) (s_ret (m_call 2 F__law_pick (ma_cons (m_var 0) (ma_cons (m_lst (ma_cons (m_op addD (m_var 1) (m_c (.int 1))) (ma_cons (m_op subD (m_var 1) (m_c (.int 1))) (ma_cons (m_cmp eqG (m_var 1) (m_c (.int 1))) (ma_cons (m_cb strOf (ma_cons (m_var 1) ma_nil)) (ma_cons (m_c (.int 0)) ma_nil)))))) ma_nil)))) s_nx) (s_seq (s_if (mt_and (m_tr (m_isi "str" (m_var 1))) (m_cmpT gtD (m_call 2 F__law_draw (ma_cons (m_var 0) (ma_cons (m_c (.int 3)) ma_nil))) (m_c (.int 0)))) (s_ret (m_call 2 F__law_pick (ma_cons (m_var 0) (ma_cons (m_lst (ma_cons (m_op addD (m_var 1) (m_c (.str "c"))) (ma_cons (m_rev (m_var 1)) (ma_cons (m_op addD (m_var 1) (m_slice (m_var 1) mo_none (mo_some (m_c (.int 1))))) (ma_cons (m_sm0 upperF (m_var 1)) (ma_cons (m_slice (m_var 1) (mo_some (m_c (.int 1))) mo_none) (ma_cons (m_c (.str "")) ma_nil))))))) ma_nil)))) s_nx) B_odd)
theorem i39 : (10 : Int) ^ 39 = 1000000000000000000000000000000000000000 := by decide
theorem n39 : (10 : Nat) ^ 39 = 1000000000000000000000000000000000000000 := by decide
theorem tail_q {n k w : Nat} {d : D} {hi j : Int} {rest S : Sto} {x3 x4 : Sv} (hn : n ≤ 10) (hk : 2 ≤ k) (hd : Any (LM n) k w d) (hh : hi + 10 < 2 ^ 61) (hS : Dk kk hi rest S) (hq : ∀ d' S', Any (LM (n + 1)) k (2 * w + 60) d' → Dk kk (hi + 2) rest S' → Q d' S') :
    WS B_tail [.d (.own 1), .d d, .d (.int j), x3, x4] S (KRun Q E) := by
  have fd := okv_Fx hd.ok
  have rd := fun {ρ : Rho} {S : Sto} => okv_rsv (ρ := ρ) (S := S) hd.ok
  have odd : ∀ {S' : Sto} {hi' : Int}, hi' ≤ hi + 1 → Dk kk hi' rest S' → WS B_odd [.d (.own 1), .d d, .d (.int j), x3, x4] S' (KRun Q E) := by
    intro S' hi' hl hS'
    unfold B_odd
    have pw : powD (.int 10) (.int 39) = some (.int (10 ^ 39)) := by rfl
    simp? only [pw]
    refine pick_Q (ds := odds) (by decide) (by decide) (by intro d hd; exact okv_Fx (odds_ok hd 0).ok) (by omega) hS' fun c S1 hc hS1 => ?_
    have hc := (odds_ok hc (n + 1)).mono (Nat.le_refl _) (Nat.le_refl _) (Nat.le_refl _) hk (show 10 ≤ 2 * w + 60 by omega)
    simp? only [okv_Fx hc.ok]
    exact hq c S1 hc (hS1.mono (by omega))
  unfold B_tail
  cases d <;> first | (have := hd.ok; simp [okv] at this; done) | skip
  · simp? only [and_self]
    exact odd (by omega) hS
  · simp? only [and_self]
    exact odd (by omega) hS
  · next i =>
    have hi' : i.natAbs ≤ 10 ^ 39 + n := of_decide_eq_true hd.ok
    simp? only [and_self]
    refine draw_Q (by decide) (by decide) (by omega) hS fun t S1 t0 t1 hS1 => ?_
    simp? only [and_self]
    by_cases c : 0 < t
    · have st : strOf [.int i] = some (.str ((toString i : String) : Str)) := by
        show (if i.natAbs.log2 < 1920 then _ else none) = _
        rw [if_pos]
        by_cases z : i.natAbs = 0
        · rw [z]; decide
        · rw [Nat.log2_lt z]
          have : (10 : Nat) ^ 39 + 10 < 2 ^ 1920 := by decide +kernel
          omega
      simp? only [c, st]
      refine pick_Q (by simp) (by simp) (by simp [Fx, fixed]) (by omega) hS1 fun c S2 hc hS2 => ?_
      have hc : Any (LM (n + 1)) k (2 * w + 60) c := by
        simp only [List.mem_cons, List.not_mem_nil, or_false] at hc
        have n40 : (10 : Nat) ^ 40 = 10000000000000000000000000000000000000000 := by decide
        have tx := Txo.int (i := i) (a := 40) (by decide) (by rw [n39] at hi'; rw [n40]; omega)
        rcases hc with rfl | rfl | rfl | rfl | rfl
        · exact any_int (by rw [n39] at hi' ⊢; omega)
        · exact any_int (by rw [n39] at hi' ⊢; omega)
        · exact any_bl
        · exact any_str (tx.mono (by omega)) (by omega)
        · exact any_int (by show 0 ≤ _; exact Nat.zero_le _)
      simp? only [okv_Fx hc.ok]
      exact hq c S2 hc (hS2.mono (by omega))
    · simp? only [c]
      exact odd (by omega) hS1
  · next x =>
    have hx := okv_str.mp hd.ok
    have hxl := hx.len
    have hl : x.length ≤ 1000 := by rw [len_tl]; have : (LM n).L = 41 + n := rfl; omega
    have hwx : x.length ≤ w := hd.wt
    simp? only [and_self]
    refine draw_Q (by decide) (by decide) (by omega) hS fun t S1 t0 t1 hS1 => ?_
    simp? only [and_self]
    by_cases c : 0 < t
    · have c1 : ("c" : Str).length = 1 := by decide +kernel
      have a1 : addD (.str x) (.str "c") = some (.str (x ++ "c")) := if_pos (by rw [c1, sizeLine_eq]; omega)
      have a2 : revAnyD (.str x) = some (.str (revTxt x)) := if_pos (by rw [sizeLine_eq]; omega)
      have a3 : sliceD none (some 1) (.str x) = some (.str (cutS x none (some 1))) := if_pos (by rw [sizeLine_eq]; omega)
      have l3 : (cutS x none (some 1)).length ≤ 1 := by rw [len_tl]; exact (hx.cut1).len
      have a4 : addD (.str x) (.str (cutS x none (some 1))) = some (.str (x ++ cutS x none (some 1))) := if_pos (by rw [sizeLine_eq]; omega)
      have a5 : upperF x = some (.str (Txt.upper x)) := if_pos (by omega)
      have a6 : sliceD (some 1) none (.str x) = some (.str (cutS x (some 1) none)) := if_pos (by rw [sizeLine_eq]; omega)
      simp? only [c, a1, a2, a3, a4, a5, a6]
      refine pick_Q (by simp) (by simp) (by simp [Fx, fixed]) (by omega) hS1 fun c S2 hc hS2 => ?_
      have hc : Any (LM (n + 1)) k (2 * w + 60) c := by
        simp only [List.mem_cons, List.not_mem_nil, or_false] at hc
        have L1 : (LM n).L = 41 + n := rfl
        have tc : Txo 1 ("c" : Str) := ⟨by decide +kernel, by decide +kernel⟩
        rcases hc with rfl | rfl | rfl | rfl | rfl | rfl
        · exact any_str ((hx.app tc).mono (by omega)) (by omega)
        · exact any_str (hx.rev.mono (by omega)) (by omega)
        · exact any_str ((hx.app hx.cut1).mono (by omega)) (by omega)
        · exact any_str (hx.upper.mono (by omega)) (by omega)
        · exact any_str ((hx.cut _ _).mono (by omega)) (by omega)
        · exact any_str ⟨by show (tl ("" : Str)).length ≤ _; rw [show tl ("" : Str) = [] by decide +kernel]; exact Nat.zero_le _, by rw [show tl ("" : Str) = [] by decide +kernel]; intro c h; cases h⟩ (by omega)
      simp? only [okv_Fx hc.ok]
      exact hq c S2 hc (hS2.mono (by omega))
    · simp? only [c]
      exact odd (by omega) hS1
  all_goals (simp? only [and_self]; exact odd (by omega) hS)
/-- what a change makes of a value -/
structure BentQ (F : FFs) (j : Nat) : Prop where
  run : ∀ {n k w : Nat} {d : D} {hi : Int} {rest S : Sto} {Q : D → Sto → Prop} {E : EQ}, n ≤ 10 → j + 2 ≤ k → w ≤ 50000 → Any (LM n) k w d → hi + 20 * ((j : Int) + 1) < 2 ^ 61 → Dk kk hi rest S → (∀ d' S', Any (LM (n + 1)) k (2 * w + 60) d' → Dk kk (hi + 10 * (j + 1)) rest S' → Q d' S') → WF F [.own 1, d, .int j] S Q E
theorem isEmpty_ne {ds : List D} (h : ds.isEmpty = false) : 0 < ds.length := by cases ds <;> simp at h ⊢
theorem bent_q : ∀ j : Nat, j ≤ 3 → BentQ (F__law_bent (j + 1)) j := by
  have gen : ∀ (j : Nat) (Fr : FFs), j ≤ 3 → (∀ j', j = j' + 1 → BentQ Fr j') → BentQ (runD 5 (B__law_bent Fr)) j := by
    intro j Fr hj ih
    refine ⟨fun {n k w d hi rest S Q E} hn hk hw hd hh hS hq => ?_⟩
    have fd := okv_Fx hd.ok
    have eb : B__law_bent Fr = s_seq (s_if (mt_and (m_tr (m_isi "tuple" (m_var 1))) (mt_and (m_cmpT neG (m_var 1) (m_tup ma_nil)) (mt_and (m_cmpT gtD (m_var 2) (m_c (.int 0))) (m_cmpT gtD (m_call 2 F__law_draw (ma_cons (m_var 0) (ma_cons (m_c (.int 7)) ma_nil))) (m_c (.int 0)))))) (s_seq (s_par 3 4 (ma_cons (m_call 2 F__law_draw (ma_cons (m_var 0) (ma_cons (m_cb lenD (ma_cons (m_var 1) ma_nil)) ma_nil))) (ma_cons (m_call 2 F__law_draw (ma_cons (m_var 0) (ma_cons (m_c (.int 10)) ma_nil))) ma_nil))) (s_seq (s_if (m_cmpT eqG (m_var 4) (m_c (.int 0))) (s_ret (m_op addD (m_slice (m_var 1) mo_none (mo_some (m_var 3))) (m_slice (m_var 1) (mo_some (m_op addD (m_var 3) (m_c (.int 1)))) mo_none))) s_nx) (s_seq (s_if (m_cmpT eqG (m_var 4) (m_c (.int 1))) (s_ret (m_op addD (m_slice (m_var 1) mo_none (mo_some (m_op addD (m_var 3) (m_c (.int 1))))) (m_slice (m_var 1) (mo_some (m_var 3)) mo_none))) s_nx) (s_seq (s_if (m_cmpT eqG (m_var 4) (m_c (.int 2))) (s_ret (m_op addD (m_op addD (m_slice (m_var 1) mo_none (mo_some (m_var 3))) (m_rev (m_slice (m_var 1) (mo_some (m_var 3)) (mo_some (m_op addD (m_var 3) (m_c (.int 2))))))) (m_slice (m_var 1) (mo_some (m_op addD (m_var 3) (m_c (.int 2)))) mo_none))) s_nx) (s_seq (s_if (m_cmpT eqG (m_var 4) (m_c (.int 3))) (s_ret (m_cb listD (ma_cons (m_var 1) ma_nil))) s_nx) (s_ret (m_op addD (m_op addD (m_slice (m_var 1) mo_none (mo_some (m_var 3))) (m_tup (ma_cons (m_call 3 Fr (ma_cons (m_var 0) (ma_cons (m_op ixD (m_var 1) (m_var 3)) (ma_cons (m_op subD (m_var 2) (m_c (.int 1))) ma_nil)))) ma_nil))) (m_slice (m_var 1) (mo_some (m_op addD (m_var 3) (m_c (.int 1)))) mo_none)))))))) s_nx) B_tail := rfl
    have tl2 : ∀ {S' : Sto} {hi' : Int} {x3 x4 : Sv}, hi' ≤ hi + 1 → Dk kk hi' rest S' → WS B_tail [.d (.own 1), .d d, .d (.int j), x3, x4] S' (KRun Q E) := fun hl hS' => tail_q hn (by omega) hd (by omega) hS' fun d' S'' h1 h2 => hq d' S'' h1 (h2.mono (by omega))
    rw [eb]
    cases d <;> first | (have := hd.ok; simp [okv] at this; done) | skip
    case tup ds =>
      have hT : (LM n).T = 6 + n := rfl
      have hT' : (LM (n + 1)).T = 6 + (n + 1) := rfl
      have hlen := okv_len hd.ok
      simp? only [and_self]
      cases c0 : ds.isEmpty with
      | true =>
        simp? only [and_self]
        exact tl2 (by omega) hS
      | false =>
        have hpos := isEmpty_ne c0
        by_cases cj : (0 : Int) < (j : Int)
        · simp? only [cj]
          refine draw_Q (by decide) (by decide) (by omega) hS fun t S1 t0 t1 hS1 => ?_
          simp? only [and_self]
          by_cases ct : 0 < t
          · simp? only [ct]
            refine draw_Q (by omega) (by omega) (by omega) hS1 fun a S2 a0 a1 hS2 => ?_
            simp? only [and_self]
            refine draw_Q (by decide) (by decide) (by omega) hS2 fun u S3 u0 u1 hS3 => ?_
            obtain ⟨m, rfl⟩ : ∃ m : Nat, a = (m : Int) := ⟨a.toNat, by omega⟩
            have hm : m < ds.length := by omega
            have c1 : (m : Int) + 1 = ((m + 1 : Nat) : Int) := by omega
            have c2 : (m : Int) + 2 = ((m + 2 : Nat) : Int) := by omega
            have hk' : k = (k - 1) + 1 := by omega
            have row : Row (LM n) (k - 1) w ds := row_of (by rw [← hk']; exact hd)
            have row' : Row (LM (n + 1)) (k - 1) w ds := row.mono (by show 10 ^ 39 + n ≤ 10 ^ 39 + (n + 1); omega) (by show 41 + n ≤ 41 + (n + 1); omega) (by show 6 + n ≤ 6 + (n + 1); omega) (Nat.le_refl _) (Nat.le_refl _)
            have fin : ∀ es v S', Row (LM (n + 1)) (k - 1) v es → v ≤ 2 * w + 60 → es.length ≤ ds.length + 1 → Dk kk (hi + 10 * ((j : Int) + 1)) rest S' → Q (.tup es) S' := by
              intro es v S' hr hv hl hS'
              have := hr.tup (by rw [hT']; omega)
              rw [← hk'] at this
              exact hq _ _ (this.mono (Nat.le_refl _) (Nat.le_refl _) (Nat.le_refl _) (Nat.le_refl _) hv) hS'
            have sl : ∀ x : Nat, x ≤ 100 → (x ≤ sizeLine) = True := fun x h => by rw [sizeLine_eq]; simp; omega
            simp? only [and_self]
            by_cases u0' : u = 0
            · subst u0'
              simp? only [c1, cut_to, cut_from, sl _ (show (ds.take m).length + (ds.drop (m + 1)).length ≤ 100 by simp; omega)]
              exact fin _ _ _ ((row'.take m).app (row'.drop (m + 1))) (by omega) (by simp; omega) (hS3.mono (by omega))
            · by_cases u1' : u = 1
              · subst u1'
                simp? only [c1, cut_to, cut_from, sl _ (show (ds.take (m + 1)).length + (ds.drop m).length ≤ 100 by simp; omega)]
                exact fin _ _ _ ((row'.take (m + 1)).app (row'.drop m)) (by omega) (by simp; omega) (hS3.mono (by omega))
              · by_cases u2' : u = 2
                · subst u2'
                  have rv : ∀ es : List D, revAnyD (.tup es) = some (.tup es.reverse) := fun _ => rfl
                  have e2 : m + 2 - m = 2 := by omega
                  simp? only [c2, cut_to, cut_from, cut_mid ds m (m + 2) (by omega), rv, e2, sl _ (show (ds.take m).length + ((ds.drop m).take 2).reverse.length ≤ 100 by simp; omega), sl _ (show (ds.take m ++ ((ds.drop m).take 2).reverse).length + (ds.drop (m + 2)).length ≤ 100 by simp; omega)]
                  have w1 := wts_take (ds := ds) m
                  have w2 := wts_take (ds := ds.drop m) 2
                  rw [List.drop_drop] at w2
                  have r1 : Row (LM (n + 1)) (k - 1) (wts (ds.take m)) (ds.take m) := ⟨(row'.take m).ok, (row'.take m).dp, Nat.le_refl _⟩
                  have r2 : Row (LM (n + 1)) (k - 1) (wts ((ds.drop m).take 2)) ((ds.drop m).take 2).reverse := ⟨((row'.drop m).take 2).rev.ok, ((row'.drop m).take 2).rev.dp, by rw [wts_rev]; exact Nat.le_refl _⟩
                  have r3 : Row (LM (n + 1)) (k - 1) (wts (ds.drop (m + 2))) (ds.drop (m + 2)) := ⟨(row'.drop (m + 2)).ok, (row'.drop (m + 2)).dp, Nat.le_refl _⟩
                  have ww := row'.wt
                  exact fin _ _ _ ((r1.app r2).app r3) (by omega) (by simp; omega) (hS3.mono (by omega))
                · by_cases u3' : u = 3
                  · subst u3'
                    simp? only [and_self]
                    have := row'.lst (by rw [hT']; omega)
                    rw [← hk'] at this
                    exact hq _ _ (this.mono (Nat.le_refl _) (Nat.le_refl _) (Nat.le_refl _) (Nat.le_refl _) (by omega)) (hS3.mono (by omega))
                  · obtain ⟨j', rfl⟩ : ∃ j', j = j' + 1 := ⟨j - 1, by omega⟩
                    have x : ∃ y, ds[m]? = some y := ⟨ds[m], List.getElem?_eq_getElem hm⟩
                    obtain ⟨y, hy⟩ := x
                    have hy' := row.mem (List.mem_of_getElem? hy)
                    have c4 : ((j' + 1 : Nat) : Int) - 1 = (j' : Int) := by omega
                    simp? only [u0', u1', u2', u3', c1, cut_to, cut_from, Pd.atI_nat, hy, okv_Fx hy'.ok, c4]
                    have hyw := hy'.wt
                    refine (ih j' rfl).run (k := k - 1) (w := Pd.wt y) hn (by omega) (by omega) ⟨hy'.ok, hy'.dp, Nat.le_refl _⟩ (by omega) hS3 fun z S4 hz hS4 => ?_
                    simp? only [okv_Fx hz.ok, c1, cut_to, cut_from, sl _ (show (ds.take m).length + (0 + 1) ≤ 100 by simp; omega), sl _ (show (ds.take m ++ [z]).length + (ds.drop (m + 1)).length ≤ 100 by simp; omega)]
                    have w1 := wts_take (ds := ds) m
                    have w3 : ds.drop m = y :: ds.drop (m + 1) := by
                      have := (List.getElem?_eq_some_iff.mp hy)
                      obtain ⟨h1, h2⟩ := this
                      rw [List.drop_eq_getElem_cons h1, h2]
                    rw [w3] at w1
                    simp only [wts] at w1
                    have r1 : Row (LM (n + 1)) (k - 1) (wts (ds.take m)) (ds.take m) := ⟨(row'.take m).ok, (row'.take m).dp, Nat.le_refl _⟩
                    have r3 : Row (LM (n + 1)) (k - 1) (wts (ds.drop (m + 1))) (ds.drop (m + 1)) := ⟨(row'.drop (m + 1)).ok, (row'.drop (m + 1)).dp, Nat.le_refl _⟩
                    have ww := row'.wt
                    exact fin _ _ _ ((r1.app (Row.one hz)).app r3) (by omega) (by simp; omega) (hS4.mono (by omega))
          · simp? only [ct]
            exact tl2 (by omega) hS1
        · simp? only [cj]
          exact tl2 (by omega) hS
    all_goals (simp? only [and_self]; exact tl2 (by omega) hS)
  intro j
  induction j with
  | zero => exact fun hj => gen 0 (F__law_bent 0) hj fun j' h => by omega
  | succ j ih =>
    intro hj
    refine gen (j + 1) (F__law_bent (j + 1)) hj fun j' h => ?_
    have : j' = j := by omega
    subst this
    exact ih (by omega)
end
end Lk56

namespace Lk56
open PySem L2 Pd TL
-- MODELS k56_Q1
section
variable {S : Sto} {Q : D → Sto → Prop} {E : EQ} {d : D}
theorem sml (n : Nat) (h : n ≤ 10) : Sml (LM n) := ⟨by show 41 + n < 64; omega, by show 6 + n < 64; omega⟩
theorem lmI (n : Nat) (h : n ≤ 10) : (LM n).I < 10 ^ 60 := by
  show 10 ^ 39 + n < 10 ^ 60
  have : (10 : Nat) ^ 39 + 10 < 10 ^ 60 := by decide +kernel
  omega
theorem fit_of {n k w : Nat} (h : Any (LM n) k w d) (hk : k ≤ 20) (hw : w ≤ 100000) : Fit (LM n) d := ⟨h.ok, Nat.le_trans h.dp hk, Nat.le_trans h.wt hw⟩
def Wn : Nat → Nat
  | 0 => 60
  | n + 1 => 2 * Wn n + 60
theorem Wn_le : ∀ n, n ≤ 3 → Wn n ≤ 900 := by decide
theorem caller_any {r m : D} (h : Caller r m) : Any (LM 0) 5 60 r ∧ Any (LM 0) 5 60 m := by
  have : (10 : Nat) ≤ (LM 0).I := by decide +kernel
  exact ⟨h.r.mono this (by decide) (by decide) (by decide) (by decide), h.m.mono this (by decide) (by decide) (by decide) (by decide)⟩
theorem d_rooms {r m : D} : dgetD (.dct [(.inr "rooms", r), (.inr "moves", m)]) (.str "rooms") = some r := by kernel_rfl
theorem d_moves {r m : D} : dgetD (.dct [(.inr "rooms", r), (.inr "moves", m)]) (.str "moves") = some m := by kernel_rfl
theorem at0 {a b : D} : atI [a, b] 0 = some a := Pd.atI_nat (i := 0)
theorem at1 {a b : D} : atI [a, b] 1 = some b := Pd.atI_nat (i := 1)
theorem any_mono1 {n k w : Nat} (h : Any (LM n) k w d) : Any (LM (n + 1)) k (2 * w + 60) d := h.mono (by show 10 ^ 39 + n ≤ 10 ^ 39 + (n + 1); omega) (by show 41 + n ≤ 41 + (n + 1); omega) (by show 6 + n ≤ 6 + (n + 1); omega) (Nat.le_refl _) (by omega)
def B_turn : SM := (s_seq (s_asg (g_name 3) (m_call 1 F__law_caller (ma_cons (m_var 1) ma_nil))) (s_seq (s_asg (g_name 4) (m_tup (ma_cons (m_dget (m_var 3) (m_c (.str "rooms"))) (ma_cons (m_dget (m_var 3) (m_c (.str "moves"))) ma_nil)))) (s_seq (s_if (mt_not (m_tr (m_call 3 F__law_right (ma_cons (m_op ixD (m_var 4) (m_c (.int 0))) (ma_cons (m_op ixD (m_var 4) (m_c (.int 1))) (ma_cons (m_cmp eqG (m_op modD (m_var 2) (m_c (.int 2))) (m_c (.int 0))) ma_nil)))))) (s_ret (m_c (.bl false))) s_nx) (s_seq (s_asg (g_name 5) (m_var 4)) (s_seq (s_for (mi_range1 (ma_cons (m_op addD (m_c (.int 1)) (m_call 2 F__law_draw (ma_cons (m_var 1) (ma_cons (m_c (.int 3)) ma_nil)))) ma_nil)) (g_name 6) (s_seq (s_asg (g_name 7) (m_call 2 F__law_draw (ma_cons (m_var 1) (ma_cons (m_c (.int 2)) ma_nil)))) (s_asg (g_name 5) (m_op addD (m_op addD (m_slice (m_var 5) mo_none (mo_some (m_var 7))) (m_tup (ma_cons (m_call 3 (F__law_bent 4) (ma_cons (m_var 1) (ma_cons (m_op ixD (m_var 5) (m_var 7)) (ma_cons (m_c (.int 3)) ma_nil)))) ma_nil))) (m_slice (m_var 5) (mo_some (m_op addD (m_var 7) (m_c (.int 1)))) mo_none))))) (s_seq (s_if (mt_not (m_tr (m_call 3 F__law_right (ma_cons (m_op ixD (m_var 5) (m_c (.int 0))) (ma_cons (m_op ixD (m_var 5) (m_c (.int 1))) (ma_cons (m_cmp eqG (m_op modD (m_var 2) (m_c (.int 2))) (m_c (.int 1))) ma_nil)))))) (s_ret (m_c (.bl false))) s_nx) (s_if (m_cmpT eqG (m_call 2 F__law_due (ma_cons (m_op ixD (m_var 5) (m_c (.int 0))) (ma_cons (m_op ixD (m_var 5) (m_c (.int 1))) ma_nil))) (m_lst ma_nil)) (s_seq (s_asg (g_name 8) (m_cmp eqG (m_cb reprD (ma_cons (m_var 5) ma_nil)) (m_cb reprD (ma_cons (m_var 4) ma_nil)))) (s_if (m_cmpT neG (m_eqO "Guest" ["Guest"] F_Guest_eq (fun b => b) (m_call 3 F__law_heard (ma_cons (m_op ixD (m_var 5) (m_c (.int 0))) (ma_cons (m_op ixD (m_var 5) (m_c (.int 1))) (ma_cons (m_c (.bl true)) ma_nil)))) (m_call 3 F__law_heard (ma_cons (m_op ixD (m_var 4) (m_c (.int 0))) (ma_cons (m_op ixD (m_var 4) (m_c (.int 1))) (ma_cons (m_c (.bl false)) ma_nil))))) (m_var 8)) (s_ret (m_c (.bl false))) s_nx)) s_nx)))))))
def B_bend : SM := (s_for (mi_range1 (ma_cons (m_op addD (m_c (.int 1)) (m_call 2 F__law_draw (ma_cons (m_var 1) (ma_cons (m_c (.int 3)) ma_nil)))) ma_nil)) (g_name 6) (s_seq (s_asg (g_name 7) (m_call 2 F__law_draw (ma_cons (m_var 1) (ma_cons (m_c (.int 2)) ma_nil)))) (s_asg (g_name 5) (m_op addD (m_op addD (m_slice (m_var 5) mo_none (mo_some (m_var 7))) (m_tup (ma_cons (m_call 3 (F__law_bent 4) (ma_cons (m_var 1) (ma_cons (m_op ixD (m_var 5) (m_var 7)) (ma_cons (m_c (.int 3)) ma_nil)))) ma_nil))) (m_slice (m_var 5) (mo_some (m_op addD (m_var 7) (m_c (.int 1)))) mo_none)))))
/-- changes one behind the other -/
theorem bend_q {ns : List Int} {r m : D} {x2 x3 x4 x6 x7 x8 x9 : Sv} {hi : Int} {rest : Sto} {QS : Fl → Rho → Sto → Prop} (hr : Any (LM 0) 5 60 r) (hm : Any (LM 0) 5 60 m) (hh : hi + 500 < 2 ^ 61) (hS : Dk kk hi rest S)
    (hq : ∀ n r' m' x6 x7 S', n ≤ 3 → Any (LM n) 5 (Wn n) r' → Any (LM n) 5 (Wn n) m' → Dk kk (hi + 200) rest S' → QS .nx [.d (.scr ns), .d (.own 1), x2, x3, x4, .d (.tup [r', m']), x6, x7, x8, x9] S') :
    WS B_bend [.d (.scr ns), .d (.own 1), x2, x3, x4, .d (.tup [r, m]), x6, x7, x8, x9] S QS := by
  unfold B_bend
  simp? only [and_self]
  refine draw_Q (by decide) (by decide) (by omega) hS fun t S1 t0 t1 hS1 => ?_
  have r3 : (-4611686018427387904 ≤ 1 + t) = True := by simp; omega
  have r4 : (1 + t < 4611686018427387904) = True := by simp; omega
  simp? only [r3, r4]
  refine for_inv (P := fun xs ρ S => ∃ (n : Nat) (r m : D) (x6 x7 : Sv), n + xs.length = (1 + t).toNat ∧ ρ = [.d (.scr ns), .d (.own 1), x2, x3, x4, .d (.tup [r, m]), x6, x7, x8, x9] ∧ Any (LM n) 5 (Wn n) r ∧ Any (LM n) 5 (Wn n) m ∧ Dk kk (hi + 1 + 50 * n) rest S) ⟨0, r, m, _, _, by rw [rangeD_len]; simp, rfl, hr, hm, hS1.mono (by simp)⟩ ?_ ?_
  · rintro x xs pre ρ' S' e ⟨n, r, m, y6, y7, hn, rfl, hr, hm, hD⟩
    simp only [List.length_cons] at hn
    have n3 : n ≤ 2 := by omega
    have wn := Wn_le n (by omega)
    simp? only [and_self]
    refine draw_Q (by decide) (by decide) (by omega) hD fun a S2 a0 a1 hS2 => ?_
    simp? only [and_self]
    rcases (show a = 0 ∨ a = 1 by omega) with rfl | rfl
    · have c1 : cutD [r, m] none (some (0 : Int)) = [] := rfl
      have c2 : cutD [r, m] (some (0 + 1 : Int)) none = [m] := rfl
      have l1 : ([] : List D).length + (0 + 1) ≤ sizeLine := by rw [sizeLine_eq]; simp
      simp? only [at0, okv_Fx hr.ok]
      refine (bent_q 3 (by decide)).run (by omega) (by decide) (by omega) hr (by omega) hS2 fun z S3 hz hS3 => ?_
      have c2' : cutD [r, m] (some (1 : Int)) none = [m] := rfl
      have l2 : (0 + (0 + 1) ≤ sizeLine) = True := by rw [sizeLine_eq]; simp
      have l3 : (0 + 1 + (0 + 1) ≤ sizeLine) = True := by rw [sizeLine_eq]; simp
      have l4 : (1 ≤ sizeLine) = True := by rw [sizeLine_eq]; simp
      have l5 : (2 ≤ sizeLine) = True := by rw [sizeLine_eq]; simp
      simp? only [c1, c2', okv_Fx hz.ok, l2, l3, l4, l5, List.nil_append, List.cons_append]
      exact ⟨n + 1, z, m, _, _, by omega, rfl, hz, any_mono1 hm, hS3.mono (by push_cast; omega)⟩
    · have c1 : cutD [r, m] none (some (1 : Int)) = [r] := rfl
      have c2 : cutD [r, m] (some (2 : Int)) none = [] := rfl
      simp? only [at1, okv_Fx hm.ok]
      refine (bent_q 3 (by decide)).run (by omega) (by decide) (by omega) hm (by omega) hS2 fun z S3 hz hS3 => ?_
      have l3 : (0 + 1 + (0 + 1) ≤ sizeLine) = True := by rw [sizeLine_eq]; simp
      have l2 : (0 + 1 + 1 + 0 ≤ sizeLine) = True := by rw [sizeLine_eq]; simp
      have l5 : (2 ≤ sizeLine) = True := by rw [sizeLine_eq]; simp
      simp? only [c1, c2, okv_Fx hz.ok, l2, l3, l5, List.nil_append, List.cons_append]
      exact ⟨n + 1, r, z, _, _, by omega, rfl, any_mono1 hr, hz, hS3.mono (by push_cast; omega)⟩
  · rintro ρ' S' ⟨n, r, m, y6, y7, hn, rfl, hr, hm, hD⟩
    simp only [List.length_nil] at hn
    exact hq n r m y6 y7 S' (by omega) hr hm (hD.mono (by omega))
def B_turn2 : SM := s_seq (s_asg (g_name 3) (m_call 1 F__law_caller (ma_cons (m_var 1) ma_nil))) (s_seq (s_asg (g_name 4) (m_tup (ma_cons (m_dget (m_var 3) (m_c (.str "rooms"))) (ma_cons (m_dget (m_var 3) (m_c (.str "moves"))) ma_nil)))) (s_seq (s_if (mt_not (m_tr (m_call 3 F__law_right (ma_cons (m_op ixD (m_var 4) (m_c (.int 0))) (ma_cons (m_op ixD (m_var 4) (m_c (.int 1))) (ma_cons (m_cmp eqG (m_op modD (m_var 2) (m_c (.int 2))) (m_c (.int 0))) ma_nil)))))) (s_ret (m_c (.bl false))) s_nx) (s_seq (s_asg (g_name 5) (m_var 4)) (s_seq B_bend (s_seq (s_if (mt_not (m_tr (m_call 3 F__law_right (ma_cons (m_op ixD (m_var 5) (m_c (.int 0))) (ma_cons (m_op ixD (m_var 5) (m_c (.int 1))) (ma_cons (m_cmp eqG (m_op modD (m_var 2) (m_c (.int 2))) (m_c (.int 1))) ma_nil)))))) (s_ret (m_c (.bl false))) s_nx) (s_if (m_cmpT eqG (m_call 2 F__law_due (ma_cons (m_op ixD (m_var 5) (m_c (.int 0))) (ma_cons (m_op ixD (m_var 5) (m_c (.int 1))) ma_nil))) (m_lst ma_nil)) (s_seq (s_asg (g_name 8) (m_cmp eqG (m_cb reprD (ma_cons (m_var 5) ma_nil)) (m_cb reprD (ma_cons (m_var 4) ma_nil)))) (s_if (m_cmpT neG (m_eqO "Guest" ["Guest"] F_Guest_eq (fun b => b) (m_call 3 F__law_heard (ma_cons (m_op ixD (m_var 5) (m_c (.int 0))) (ma_cons (m_op ixD (m_var 5) (m_c (.int 1))) (ma_cons (m_c (.bl true)) ma_nil)))) (m_call 3 F__law_heard (ma_cons (m_op ixD (m_var 4) (m_c (.int 0))) (ma_cons (m_op ixD (m_var 4) (m_c (.int 1))) (ma_cons (m_c (.bl false)) ma_nil))))) (m_var 8)) (s_ret (m_c (.bl false))) s_nx)) s_nx))))))
theorem l_mod {i : Int} : modD (.int i) (.int 2) = some (.int (i % 2)) := mod_r (by decide)
theorem turn_q {ns : List Int} {g : Int} {x3 x4 x5 x6 x7 x8 x9 : Sv} {hi : Int} {rest : Sto} {QS : Fl → Rho → Sto → Prop} (hh : hi + 1000 < 2 ^ 61) (hS : Dk kk hi rest S)
    (hq : ∀ x3 x4 x5 x6 x7 x8 rest' S', Dk kk (hi + 300) rest' S' → QS .nx [.d (.scr ns), .d (.own 1), .d (.int g), x3, x4, x5, x6, x7, x8, x9] S') :
    WS B_turn2 [.d (.scr ns), .d (.own 1), .d (.int g), x3, x4, x5, x6, x7, x8, x9] S QS := by
  unfold B_turn2
  simp? only [and_self]
  refine caller_q (by omega) hS fun r m rest' S1 hc hS1 => ?_
  obtain ⟨hr, hm⟩ := caller_any hc
  have l5 : (2 ≤ sizeLine) = True := by rw [sizeLine_eq]; simp
  simp? only [d_rooms, d_moves, okv_Fx hr.ok, okv_Fx hm.ok, at0, at1, l_mod, l5]
  refine l_right (sml 0 (by decide)) (lmI 0 (by decide)) (by decide) (fit_of hr (by decide) (by decide)) (fit_of hm (by decide) (by decide)) _ ?_
  simp? only [and_self]
  refine bend_q hr hm (by omega) hS1 fun n r' m' x6 x7 S2 hn hr' hm' hS2 => ?_
  have wn := Wn_le n hn
  have f1 := fit_of hr' (by decide) (by omega)
  have f2 := fit_of hm' (by decide) (by omega)
  have hT : 2 ≤ (LM n).T := by show 2 ≤ 6 + n; omega
  simp? only [okv_Fx hr'.ok, okv_Fx hm'.ok, at0, at1, l_mod]
  refine l_right (sml n (by omega)) (lmI n (by omega)) hT f1 f2 _ ?_
  simp? only [okv_Fx hr'.ok, okv_Fx hm'.ok, at0, at1, l_due (S := S2) (sml n (by omega)) hr'.ok hm'.ok]
  cases e : gdue r' m' with
  | some p =>
    simp? only [Option.toList, List.isEmpty_cons]
    exact hq _ _ _ _ _ _ _ _ (hS2.mono (by omega))
  | none =>
    have c0 : Any (LM n) 5 60 r ∧ Any (LM n) 5 60 m := by
      have : 10 ^ 39 + 0 ≤ 10 ^ 39 + n := by omega
      have : (41 : Nat) + 0 ≤ 41 + n := by omega
      have : (6 : Nat) + 0 ≤ 6 + n := by omega
      exact ⟨hr.mono (by assumption) (by assumption) (by assumption) (Nat.le_refl _) (Nat.le_refl _), hm.mono (by assumption) (by assumption) (by assumption) (Nat.le_refl _) (Nat.le_refl _)⟩
    have g1 := fit_of c0.1 (by decide) (by decide)
    have g2 := fit_of c0.2 (by decide) (by decide)
    obtain ⟨a, b, ea, eb, eab⟩ := like_ok (lmI n (by omega)) f1 f2 g1 g2 e hc.due
    have rp : ∀ {r m : D}, Fit (LM n) r → Fit (LM n) m → reprD [.tup [r, m]] = some (.str (shw (.tup [r, m]))) := by
      intro r m hr hm
      refine okv_repr (M := LM n) (lmI n (by omega)) ?_ (by have := hr.dp; have := hm.dp; simp only [dep, deps]; omega) (by have := hr.wt; have := hm.wt; simp only [Pd.wt, wts]; omega)
      simp only [okv, okvs, hr.ok, hm.ok, Bool.and_self, Bool.and_true, List.length_cons, List.length_nil]
      exact decide_eq_true hT
    simp? only [Option.toList, List.isEmpty_nil, rp f1 f2, rp g1 g2, okv_Fx hr'.ok, okv_Fx hm'.ok, okv_Fx hr.ok, okv_Fx hm.ok, at0, at1]
    refine l_heard (sml n (by omega)) hr'.ok hm'.ok _ ?_
    unfold heardD
    rw [e]
    simp? only [okv_Fx hr.ok, okv_Fx hm.ok, at0, at1]
    refine l_heard (sml n (by omega)) c0.1.ok c0.2.ok _ ?_
    unfold heardD
    rw [hc.due]
    simp? only [q_eq (S := S2) ea eb (okv_pl hr'.ok) (okv_pl hr.ok) (okv_pl hm'.ok) (okv_pl hm.ok)]
    rw [eab]
    simp? only [Bool.not_true]
    exact hq _ _ _ _ _ _ _ _ (hS2.mono (by omega))
end
end Lk56

namespace Lk56
open PySem L2 Pd TL
-- MODELS k56_Q1
section
variable {S : Sto} {Q : D → Sto → Prop} {E : EQ} {d : D}
def pairOk : D → Bool
  | .tup [r, m] => (okv (LM 0) r && (decide (dep r ≤ 20) && decide (wt r ≤ 1000))) && (okv (LM 0) m && (decide (dep m ≤ 20) && decide (wt m ≤ 1000)))
  | _ => false
theorem pair_of {l : List D} (h : l.all pairOk = true) {x : D} (hx : x ∈ l) : ∃ r m, x = .tup [r, m] ∧ Fit (LM 0) r ∧ Fit (LM 0) m := by
  have := List.all_eq_true.mp h x hx
  unfold pairOk at this
  split at this
  · rename_i r m
    simp only [Bool.and_eq_true, decide_eq_true_eq] at this
    exact ⟨r, m, rfl, ⟨this.1.1, this.1.2.1, by omega⟩, ⟨this.2.1, this.2.2.1, by omega⟩⟩
  · cases this
theorem law_q (ns : List Int) : ∃ S', F_law [.scr ns] [] = some (.ok (.bl true), S') := by
  have q : WF F_law [.scr ns] [] (fun d _ => d = .bl true) NoE := by
    unfold F_law B_law
    simp? only [and_self]
    refine deck_q fun S1 hS1 => ?_
    simp? only [and_self]
    refine for_inv (P := fun xs ρ S => ∃ (x2 x3 x4 x5 x6 x7 x8 x9 : Sv) (rest : Sto), ρ = [.d (.scr ns), .d (.own 1), x2, x3, x4, x5, x6, x7, x8, x9] ∧ Dk kk (300 * (12 - xs.length)) rest S) ⟨_, _, _, _, _, _, _, _, _, rfl, by simpa [rangeD_len] using hS1⟩ ?_ ?_
    · rintro x xs pre ρ' S' e ⟨x2, x3, x4, x5, x6, x7, x8, x9, rest, rfl, hD⟩
      have hx : x ∈ rangeD 0 12 := by rw [show rangeD 0 12 = pre ++ x :: xs from e]; simp
      obtain ⟨g, hg, rfl⟩ := range_mem hx
      have hl : xs.length + 1 ≤ 12 := by
        have := congrArg List.length (show rangeD 0 12 = pre ++ _ :: xs from e)
        rw [rangeD_len] at this
        simp at this
        omega
      rw [g_nm, opr_some]
      refine turn_q (hi := 300 * (12 - (xs.length + 1))) (by omega) (by simpa using hD) fun x3 x4 x5 x6 x7 x8 rest' S2 hS2 => ?_
      exact ⟨_, _, _, _, _, _, _, _, _, rfl, hS2.mono (by omega)⟩
    · rintro ρ' S' ⟨x2, x3, x4, x5, x6, x7, x8, x9, rest, rfl, hD⟩
      simp? only [and_self]
      refine ⟨by rw [sizeLine_eq]; decide, by rw [sizeLine_eq]; decide, by rw [sizeLine_eq]; decide, ?_⟩
      refine lc_inv (P := fun xs acc S => acc = []) (by rw [sizeLine_eq]; decide) rfl ?_ ?_
      · rintro x xs acc S2 hx hl rfl
        obtain ⟨r, m, rfl, hr, hm⟩ := pair_of (by decide +kernel) hx
        simp? only [at0, at1, okv_Fx hr.ok, okv_Fx hm.ok]
        refine l_right (sml 0 (by decide)) (lmI 0 (by decide)) (by decide) hr hm _ ?_
        simp? only [and_self]
      · rintro acc S2 hl rfl
        simp? only [List.isEmpty_nil]
  obtain ⟨d, S', e, rfl⟩ := fwp_of q
  exact ⟨S', e⟩
end
end Lk56

/-! k56: the text's facts, gathered. -/
namespace Lk56
open PySem L2 Evl Hg Pd
open PySem.Spec PyProof.Rows
abbrev si_BadGuest : PySem.Stmt := inClass (top 2) 0
theorem sci_BadGuest : FnScope ["self", "part"] ["self", "part"] (defScope si_BadGuest) := ⟨rfl, rfl, rfl, by decide +kernel, rfl, by decide +kernel, by decide +kernel⟩
abbrev si_BadText : PySem.Stmt := inClass (top 3) 0
theorem sci_BadText : FnScope ["self", "line"] ["self", "line"] (defScope si_BadText) := ⟨rfl, rfl, rfl, by decide +kernel, rfl, by decide +kernel, by decide +kernel⟩
section
variable {P : Program} {wo : World} {K : PySem.W.Frag} {mg : Str → Option Value} {base h : Heap}
theorem ini_BadGuest {f : Addr} {fd : FuncData} (F : Fun K "__init__" "BadGuest.__init__" si_BadGuest f fd) : FnOk P wo K mg base CX0 1 f fd ["self", "part"] (Hx.spKeep K "part") := by
  refine F.ok sci_BadGuest (fun vs H Q E h => by obtain ⟨a, C, f, y, rfl, _⟩ := h; rfl) fun cdv A outer s H vs Q E hr h => ?_
  obtain ⟨a, C, f, y, rfl, T, no, ha, k⟩ := h
  exact ⟨_, pss_one (Hx.ps_put (pv 0) (pv 1)), y, rfl, .ref a, rfl, a, C, f, rfl, T, no, ha, k⟩
theorem ini_BadText {f : Addr} {fd : FuncData} (F : Fun K "__init__" "BadText.__init__" si_BadText f fd) : FnOk P wo K mg base CX0 1 f fd ["self", "line"] (Hx.spKeep K "line") := by
  refine F.ok sci_BadText (fun vs H Q E h => by obtain ⟨a, C, f, y, rfl, _⟩ := h; rfl) fun cdv A outer s H vs Q E hr h => ?_
  obtain ⟨a, C, f, y, rfl, T, no, ha, k⟩ := h
  exact ⟨_, pss_one (Hx.ps_put (pv 0) (pv 1)), y, rfl, .ref a, rfl, a, C, f, rfl, T, no, ha, k⟩
structure All (K : PySem.W.Frag) (C_WardError C_BadGuest C_BadText C_Guest : Addr) : Prop where
  w : EB K "WardError" C_WardError Hx.exLast
  e_BadGuest : EF K "BadGuest" "part" "BadGuest.__init__" si_BadGuest C_BadGuest (.ref C_WardError :: Hx.exLast)
  e_BadText : EF K "BadText" "line" "BadText.__init__" si_BadText C_BadText (.ref C_WardError :: Hx.exLast)
  c_Guest : CF K "Guest" C_Guest
  n_Guest_moves : PySem.W.findIn K (.ref C_Guest) "moves" = some none
  n_Guest_rooms : PySem.W.findIn K (.ref C_Guest) "rooms" = some none
  x_Guest : PySem.W.notFirst K C_Guest (.ref C_Guest) = true
  d__law_deck : DF K "_law_deck" s__law_deck
  d__law_draw : DF K "_law_draw" s__law_draw
  d__law_pick : DF K "_law_pick" s__law_pick
  d__law_caller : DF K "_law_caller" s__law_caller
  d__law_is_whole : DF K "_law_is_whole" s__law_is_whole
  d__law_is_told : DF K "_law_is_told" s__law_is_told
  d__law_is_row : DF K "_law_is_row" s__law_is_row
  d__law_due : DF K "_law_due" s__law_due
  d_is_integer : DF K "is_integer" s_is_integer
  d_is_between : DF K "is_between" s_is_between
  d_are_between : DF K "are_between" s_are_between
  d_are_rooms : DF K "are_rooms" s_are_rooms
  d_are_guest_rooms : DF K "are_guest_rooms" s_are_guest_rooms
  d_is_tuple_of : DF K "is_tuple_of" s_is_tuple_of
  d_do_ascend : DF K "do_ascend" s_do_ascend
  d_are_letters : DF K "are_letters" s_are_letters
  d_is_heard : DF K "is_heard" s_is_heard
  d_are_ascending : DF K "are_ascending" s_are_ascending
  d_is_guest_move : DF K "is_guest_move" s_is_guest_move
  m_Guest_init : MF K C_Guest "__init__" "Guest.__init__" s_Guest_init
  d__law_heard : DF K "_law_heard" s__law_heard
  m_Guest_len : MF K C_Guest "__len__" "Guest.__len__" s_Guest_len
  m_Guest_eq : MF K C_Guest "__eq__" "Guest.__eq__" s_Guest_eq
  d__law_right : DF K "_law_right" s__law_right
  d__law_bent : DF K "_law_bent" s__law_bent
  z_all : PySem.W.nsIn K mainGlobals "all" = some none
  z_bool : PySem.W.nsIn K mainGlobals "bool" = some none
  z_enumerate : PySem.W.nsIn K mainGlobals "enumerate" = some none
  z_int : PySem.W.nsIn K mainGlobals "int" = some none
  z_isinstance : PySem.W.nsIn K mainGlobals "isinstance" = some none
  z_len : PySem.W.nsIn K mainGlobals "len" = some none
  z_list : PySem.W.nsIn K mainGlobals "list" = some none
  z_range : PySem.W.nsIn K mainGlobals "range" = some none
  z_repr : PySem.W.nsIn K mainGlobals "repr" = some none
  z_set : PySem.W.nsIn K mainGlobals "set" = some none
  z_sorted : PySem.W.nsIn K mainGlobals "sorted" = some none
  z_str : PySem.W.nsIn K mainGlobals "str" = some none
  z_tuple : PySem.W.nsIn K mainGlobals "tuple" = some none
  k_AWAY : ∃ t, PySem.W.nsIn K mainGlobals "AWAY" = some (some (.int (-1) t))
  k_GREATEST_FACE : ∃ t, PySem.W.nsIn K mainGlobals "GREATEST_FACE" = some (some (.int (99) t))
  k_GREATEST_ROOM : ∃ t, PySem.W.nsIn K mainGlobals "GREATEST_ROOM" = some (some (.int (9) t))
  hn : PySem.W.specialIn K (.builtin "object.__class__") "__get__" = some (some (.builtin "getset_descriptor.__get__"))
  ht : PySem.W.takesIn K (.builtin "object.__class__") = some true
variable {C_WardError C_BadGuest C_BadText C_Guest : Addr}
theorem all_T (X : K.In h) (G : h.Ns mainGlobals mg) (al : All K C_WardError C_BadGuest C_BadText C_Guest) : T1 K mg (adOf mg) := by
  have m : ∀ {n : Str} {v : Value}, PySem.W.nsIn K mainGlobals n = some (some v) → mg n = some v := fun z => PySem.W.mg_of X G z
  have no : ∀ {n : Str}, PySem.W.nsIn K mainGlobals n = some none → mg n = none := fun z => PySem.W.mg_none_of X G z
  have eW : adOf mg "WardError" = C_WardError := adOf_eq (m al.w.ns)
  have key : ∀ x ∈ errL, ∃ C, mg x = some (.ref C) ∧ EC K x C (upOf (adOf mg) "WardError" x) := by
    intro x hx
    simp only [errL, List.mem_cons, List.not_mem_nil, or_false] at hx
    rcases hx with rfl | rfl | rfl
    · refine ⟨_, m al.w.ns, ?_⟩
      rw [show upOf (adOf mg) "WardError" "WardError" = Hx.exLast from if_pos rfl]
      exact al.w.ec
    · refine ⟨_, m al.e_BadGuest.ns, ?_⟩
      rw [show upOf (adOf mg) "WardError" "BadGuest" = .ref C_WardError :: Hx.exLast from (if_neg (by decide +kernel)).trans (by rw [eW])]
      exact al.e_BadGuest.ec
    · refine ⟨_, m al.e_BadText.ns, ?_⟩
      rw [show upOf (adOf mg) "WardError" "BadText" = .ref C_WardError :: Hx.exLast from (if_neg (by decide +kernel)).trans (by rw [eW])]
      exact al.e_BadText.ec
  have oe_Guest : ∀ {C}, mg "Guest" = some (.ref C) → C = C_Guest := fun z => by rw [m al.c_Guest.ns] at z; cases z; rfl
  refine ⟨⟨?e1, ?e2, List.mem_of_getElem? (i := 0) rfl, ?e3, al.hn, al.ht⟩, no al.z_all, no al.z_bool, no al.z_enumerate, no al.z_int, no al.z_isinstance, no al.z_len, no al.z_list, no al.z_range, no al.z_repr, no al.z_set, no al.z_sorted, no al.z_str, no al.z_tuple, (let ⟨t, z⟩ := al.k_AWAY; ⟨t, m z⟩), (let ⟨t, z⟩ := al.k_GREATEST_FACE; ⟨t, m z⟩), (let ⟨t, z⟩ := al.k_GREATEST_ROOM; ⟨t, m z⟩), ?cl, (by rw [adOf_eq (m al.c_Guest.ns)]; exact m al.c_Guest.ns), ?fl_moves, ?fl_rooms⟩
  case e1 =>
    intro x hx
    obtain ⟨C, e, _⟩ := key x hx
    rw [adOf_eq e]
    exact e
  case e2 =>
    intro x hx
    obtain ⟨C, e, h⟩ := key x hx
    rw [adOf_eq e]
    exact h
  case e3 =>
    intro p hp
    simp only [atL, List.mem_cons, List.not_mem_nil, or_false] at hp
    rcases hp with rfl | rfl
    · rw [adOf_eq (m al.e_BadGuest.ns)]
      exact al.e_BadGuest.no
    · rw [adOf_eq (m al.e_BadText.ns)]
      exact al.e_BadText.no
  case cl =>
    refine ⟨fun c hc C e => ?_, fun c hc C e => ?_, fun c hc C e c2 hc2 C2 e2 => ?_⟩
    · simp only [List.mem_cons, List.not_mem_nil, or_false] at hc
      rcases hc with rfl
      · cases oe_Guest e; exact al.c_Guest.ins
    · simp only [List.mem_cons, List.not_mem_nil, or_false] at hc
      rcases hc with rfl
      · cases oe_Guest e; exact al.c_Guest.ty
    · simp only [List.mem_cons, List.not_mem_nil, or_false] at hc hc2
      rcases hc with rfl
      · cases oe_Guest e
        rcases hc2 with rfl
        · cases oe_Guest e2; exact ⟨al.x_Guest, by rw [kit_self]; simp⟩
  case fl_moves =>
    intro c hc C e
    simp only [List.mem_cons, List.not_mem_nil, or_false] at hc
    rcases hc with rfl
    · cases oe_Guest e; exact ⟨al.c_Guest.ins.cl, al.n_Guest_moves⟩
  case fl_rooms =>
    intro c hc C e
    simp only [List.mem_cons, List.not_mem_nil, or_false] at hc
    rcases hc with rfl
    · cases oe_Guest e; exact ⟨al.c_Guest.ins.cl, al.n_Guest_rooms⟩
theorem all_go {fa : Addr} (X : K.In h) (G : h.Ns mainGlobals mg) (hfa : mg "law" = some (.ref fa)) (al : All K C_WardError C_BadGuest C_BadText C_Guest) (dl : DF K "law" s_law) :
    ∃ fd : FuncData, (∀ (s : Shared) (v : Value), BindsTo s fd ⟨[v], []⟩ [("_law_script", v)]) ∧ ∀ base : Heap, K.In base → base.Ns mainGlobals mg → Sys base → FnG P wo K mg base CX0 10 fa fd ["_law_script"] (spLaw K) := by
  obtain ⟨f, fd, a, F⟩ := dl.ex
  have e := hfa.symm.trans (PySem.W.mg_of X G a)
  cases e
  have T := all_T X G al
  refine ⟨fd, fun s v => ?_, fun base hb hg hs => ?_⟩
  · obtain ⟨oc, od, kV, doc, pm, an, cdv, ct, osl, rfl, _⟩ := F.ex
    exact .of_eq rfl
  have G_BadGuest : ErrG P wo K mg base 1 "BadGuest" "part" "part" := al.e_BadGuest.errG X G (fun _ _ _ _ _ _ us hl => match us, hl with | [_, _], _ => rfl) (fun _ _ _ _ _ _ _ _ => rfl) fun f fd F => ini_BadGuest F
  have G__law_deck := al.d__law_deck.cal (P := P) (wo := wo) (base := base) X G (fun _ _ _ _ _ _ us hl => match us, hl with | [_], _ => rfl) fun f fd F => ok__law_deck (P := P) (wo := wo) (base := base) F T 
  have G__law_draw := al.d__law_draw.cal (P := P) (wo := wo) (base := base) X G (fun _ _ _ _ _ _ us hl => match us, hl with | [_, _], _ => rfl) fun f fd F => ok__law_draw (P := P) (wo := wo) (base := base) F T 
  have G__law_pick := al.d__law_pick.cal (P := P) (wo := wo) (base := base) X G (fun _ _ _ _ _ _ us hl => match us, hl with | [_, _], _ => rfl) fun f fd F => ok__law_pick (P := P) (wo := wo) (base := base) F T G__law_draw
  have G__law_caller := al.d__law_caller.cal (P := P) (wo := wo) (base := base) X G (fun _ _ _ _ _ _ us hl => match us, hl with | [_], _ => rfl) fun f fd F => ok__law_caller (P := P) (wo := wo) (base := base) F T G__law_pick G__law_draw
  have G__law_is_whole := al.d__law_is_whole.cal (P := P) (wo := wo) (base := base) X G (fun _ _ _ _ _ _ us hl => match us, hl with | [_], _ => rfl) fun f fd F => ok__law_is_whole (P := P) (wo := wo) (base := base) F T 
  have G__law_is_told := al.d__law_is_told.cal (P := P) (wo := wo) (base := base) X G (fun _ _ _ _ _ _ us hl => match us, hl with | [_], _ => rfl) fun f fd F => ok__law_is_told (P := P) (wo := wo) (base := base) F T 
  have G__law_is_row := al.d__law_is_row.cal (P := P) (wo := wo) (base := base) X G (fun _ _ _ _ _ _ us hl => match us, hl with | [_, _], _ => rfl) fun f fd F => ok__law_is_row (P := P) (wo := wo) (base := base) F T G__law_is_told G__law_is_whole
  have G__law_due := al.d__law_due.cal (P := P) (wo := wo) (base := base) X G (fun _ _ _ _ _ _ us hl => match us, hl with | [_, _], _ => rfl) fun f fd F => ok__law_due (P := P) (wo := wo) (base := base) F T G__law_is_whole G__law_is_row
  have G_is_integer := al.d_is_integer.cal (P := P) (wo := wo) (base := base) X G (fun _ _ _ _ _ _ us hl => match us, hl with | [_], _ => rfl) fun f fd F => ok_is_integer (P := P) (wo := wo) (base := base) F T 
  have G_is_between := al.d_is_between.cal (P := P) (wo := wo) (base := base) X G (fun _ _ _ _ _ _ us hl => match us, hl with | [_, _, _], _ => rfl) fun f fd F => ok_is_between (P := P) (wo := wo) (base := base) F T G_is_integer
  have G_are_between := al.d_are_between.cal (P := P) (wo := wo) (base := base) X G (fun _ _ _ _ _ _ us hl => match us, hl with | [_, _, _], _ => rfl) fun f fd F => ok_are_between (P := P) (wo := wo) (base := base) F T G_is_between
  have G_are_rooms := al.d_are_rooms.cal (P := P) (wo := wo) (base := base) X G (fun _ _ _ _ _ _ us hl => match us, hl with | [_], _ => rfl) fun f fd F => ok_are_rooms (P := P) (wo := wo) (base := base) F T G_are_between
  have G_are_guest_rooms := al.d_are_guest_rooms.cal (P := P) (wo := wo) (base := base) X G (fun _ _ _ _ _ _ us hl => match us, hl with | [_], _ => rfl) fun f fd F => ok_are_guest_rooms (P := P) (wo := wo) (base := base) F T G_are_rooms
  have G_is_tuple_of := al.d_is_tuple_of.cal (P := P) (wo := wo) (base := base) X G (fun _ _ _ _ _ _ us hl => match us, hl with | [_, _], _ => rfl) fun f fd F => ok_is_tuple_of (P := P) (wo := wo) (base := base) F T 
  have G_do_ascend := al.d_do_ascend.cal (P := P) (wo := wo) (base := base) X G (fun _ _ _ _ _ _ us hl => match us, hl with | [_], _ => rfl) fun f fd F => ok_do_ascend (P := P) (wo := wo) (base := base) F T 
  have G_are_letters := al.d_are_letters.cal (P := P) (wo := wo) (base := base) X G (fun _ _ _ _ _ _ us hl => match us, hl with | [_], _ => rfl) fun f fd F => ok_are_letters (P := P) (wo := wo) (base := base) F T G_do_ascend
  have G_is_heard := al.d_is_heard.cal (P := P) (wo := wo) (base := base) X G (fun _ _ _ _ _ _ us hl => match us, hl with | [_], _ => rfl) fun f fd F => ok_is_heard (P := P) (wo := wo) (base := base) F T G_are_letters
  have G_are_ascending := al.d_are_ascending.cal (P := P) (wo := wo) (base := base) X G (fun _ _ _ _ _ _ us hl => match us, hl with | [_, _, _], _ => rfl) fun f fd F => ok_are_ascending (P := P) (wo := wo) (base := base) F T G_do_ascend G_are_between
  have G_is_guest_move := al.d_is_guest_move.cal (P := P) (wo := wo) (base := base) X G (fun _ _ _ _ _ _ us hl => match us, hl with | [_, _], _ => rfl) fun f fd F => ok_is_guest_move (P := P) (wo := wo) (base := base) F T G_is_tuple_of G_is_heard G_is_between G_are_ascending
  have M_Guest := al.c_Guest.mkG (P := P) (wo := wo) (base := base) al.m_Guest_init X G (fun _ _ _ _ _ _ us hl => match us, hl with | [_, _, _], _ => rfl) fun f fd F => ok_Guest_init (P := P) (wo := wo) (base := base) F T G_are_guest_rooms G_BadGuest G_is_guest_move
  have K_Guest : MkK P wo K mg base (L2.CX P wo) 6 "Guest" ["rooms", "moves"] ["moves", "rooms"] [1, 0] (spI K mg "Guest" 2 F_Guest_init) := al.c_Guest.mkK al.m_Guest_init X G (fun _ _ _ _ _ _ _ ws hl => match ws, hl with | [_, _], _ => rfl) fun f fd F => ok_Guest_init F T G_are_guest_rooms G_BadGuest G_is_guest_move
  have G__law_heard := al.d__law_heard.cal (P := P) (wo := wo) (base := base) X G (fun _ _ _ _ _ _ us hl => match us, hl with | [_, _, _], _ => rfl) fun f fd F => ok__law_heard (P := P) (wo := wo) (base := base) F T K_Guest M_Guest
  have N_Guest := al.c_Guest.ownM (P := P) (wo := wo) (base := base) al.m_Guest_len X G (fun _ _ _ _ _ _ us hl => match us, hl with | [_], _ => rfl) fun f fd F => ok_Guest_len (P := P) (wo := wo) (base := base) F T 
  have Q_Guest := al.c_Guest.ownQ (P := P) (wo := wo) (base := base) al.m_Guest_eq X G (fun _ _ _ _ _ _ us hl => match us, hl with | [_, _], _ => rfl) fun f fd F => ok_Guest_eq (P := P) (wo := wo) (base := base) F T 
  have G__law_right := al.d__law_right.cal (P := P) (wo := wo) (base := base) X G (fun _ _ _ _ _ _ us hl => match us, hl with | [_, _, _], _ => rfl) fun f fd F => ok__law_right (P := P) (wo := wo) (base := base) F T G__law_due G__law_heard N_Guest Q_Guest hs
  have V0 : Cal P wo K mg base (L2.CX P wo) 3 "_law_bent" (spD K mg 3 (F__law_bent 0)) := al.d__law_bent.cal (ps := ["_law_deck_here", "_law_it", "_law_deep"]) X G (fun _ _ _ _ _ _ us hl => match us, hl with | [_, _, _], _ => rfl) fun f fd F => fn_none
  have V1 : Cal P wo K mg base (L2.CX P wo) 4 "_law_bent" (spD K mg 3 (F__law_bent 1)) := al.d__law_bent.cal X G (fun _ _ _ _ _ _ us hl => match us, hl with | [_, _, _], _ => rfl) fun f fd F => ok__law_bent F T G__law_draw G__law_pick (by decide) V0
  have V2 : Cal P wo K mg base (L2.CX P wo) 5 "_law_bent" (spD K mg 3 (F__law_bent 2)) := al.d__law_bent.cal X G (fun _ _ _ _ _ _ us hl => match us, hl with | [_, _, _], _ => rfl) fun f fd F => ok__law_bent F T G__law_draw G__law_pick (by decide) V1
  have V3 : Cal P wo K mg base (L2.CX P wo) 6 "_law_bent" (spD K mg 3 (F__law_bent 3)) := al.d__law_bent.cal X G (fun _ _ _ _ _ _ us hl => match us, hl with | [_, _, _], _ => rfl) fun f fd F => ok__law_bent F T G__law_draw G__law_pick (by decide) V2
  have V4 : Cal P wo K mg base (L2.CX P wo) 7 "_law_bent" (spD K mg 3 (F__law_bent 4)) := al.d__law_bent.cal X G (fun _ _ _ _ _ _ us hl => match us, hl with | [_, _, _], _ => rfl) fun f fd F => ok__law_bent F T G__law_draw G__law_pick (by decide) V3
  have G__law_bent := V4
  exact fnG_law (ok_law F T G__law_deck G__law_caller G__law_right G__law_draw G__law_bent G__law_due G__law_heard Q_Guest hs) (fun ns _ => law_q ns)
end
end Lk56

open PySem PySem.W PyProof.Rows
set_option maxHeartbeats 0 in
theorem PySem.Challenge.cw_housewardens_k56_guests_of_any_value_holds : PySem.Challenge.rw_housewardens_k56_guests_of_any_value.Holds := by
  w_on; o_law; k_head; (case hw => w_witness2)
  k_fill
  refine Pd.walkD (l := PySem.Challenge.rw_housewardens_k56_guests_of_any_value) (k := 10) rfl rfl ?hi ⟨rfl, by decide, by decide⟩ (fun w h Y => PySem.W.kIn_of Y) ?F
  case hi => first | decide +kernel | rfl
  case F =>
    intro w mg fa h KX G hmg
    refine' Lk56.all_go KX G hmg ⟨?h_w, ?h_e_BadGuest, ?h_e_BadText, ?h_c_Guest, ?h_n_Guest_moves, ?h_n_Guest_rooms, ?h_x_Guest, ?h_d__law_deck, ?h_d__law_draw, ?h_d__law_pick, ?h_d__law_caller, ?h_d__law_is_whole, ?h_d__law_is_told, ?h_d__law_is_row, ?h_d__law_due, ?h_d_is_integer, ?h_d_is_between, ?h_d_are_between, ?h_d_are_rooms, ?h_d_are_guest_rooms, ?h_d_is_tuple_of, ?h_d_do_ascend, ?h_d_are_letters, ?h_d_is_heard, ?h_d_are_ascending, ?h_d_is_guest_move, ?h_m_Guest_init, ?h_d__law_heard, ?h_m_Guest_len, ?h_m_Guest_eq, ?h_d__law_right, ?h_d__law_bent, ?h_z_all, ?h_z_bool, ?h_z_enumerate, ?h_z_int, ?h_z_isinstance, ?h_z_len, ?h_z_list, ?h_z_range, ?h_z_repr, ?h_z_set, ?h_z_sorted, ?h_z_str, ?h_z_tuple, ?h_k_AWAY, ?h_k_GREATEST_FACE, ?h_k_GREATEST_ROOM, ?h_hn, ?h_ht⟩ ?dl
    (case h_w => refine' Pd.EB.mk1 ?xa ?xl ?xga ?xgg ?xha ?xl2 ?xh ?xni ?xtl ?xk; (case xa => k_is); (case xl => k_is); (case xga => k_is); (case xgg => k_is); (case xha => k_is); (case xl2 => k_is); (case xh => rfl); (case xni => k_is); (case xtl => exact Pd.tail_last); (case xk => k_is))
    (case h_e_BadGuest => refine' Pd.EF.mk1 ?xa ?xl ?xga ?xgg ?xha ?xp ?xk ?xi ?xl2 ?xcc ?xkf ?xno; (case xa => k_is); (case xl => k_is); (case xga => k_is); (case xgg => k_is); (case xha => k_is); (case xp => k_is); (case xk => k_is); (case xi => k_is); (case xl2 => k_is); (case xcc => k_is); (case xkf => k_is); (case xno => k_is))
    (case h_e_BadText => refine' Pd.EF.mk1 ?xa ?xl ?xga ?xgg ?xha ?xp ?xk ?xi ?xl2 ?xcc ?xkf ?xno; (case xa => k_is); (case xl => k_is); (case xga => k_is); (case xgg => k_is); (case xha => k_is); (case xp => k_is); (case xk => k_is); (case xi => k_is); (case xl2 => k_is); (case xcc => k_is); (case xkf => k_is); (case xno => k_is))
    (case h_c_Guest => refine' ⟨?xa, ⟨⟨?pg, ?hd, ?po, ?sa⟩, ?ha, ?hn, ?htk, ?hm, Pd.kit_self⟩, ?mks, ?kc, ?ne, ?so, ?tt, ?nf⟩; (case xa => k_is); (case pg => k_is); (case hd => k_is); (case po => k_is); (case sa => k_is); (case ha => k_is); (case hn => k_is); (case htk => k_is); (case hm => k_is); (case mks => k_is); (case kc => k_is); (case ne => k_is); (case so => k_is); (case tt => k_is); (case nf => (intro n hn; simp only [Pd.tyNs, List.mem_cons, List.not_mem_nil, or_false] at hn; rcases hn with rfl | rfl | rfl | rfl | rfl | rfl | rfl <;> k_is)))
    (case h_n_Guest_moves => k_is)
    (case h_n_Guest_rooms => k_is)
    (case h_x_Guest => k_is)
    (case h_d__law_deck => refine' Pd.DF.mk1 ?xa ?xl ?xc ?xk; (case xa => k_is); (case xl => k_is); (case xc => k_is); (case xk => k_is))
    (case h_d__law_draw => refine' Pd.DF.mk1 ?xa ?xl ?xc ?xk; (case xa => k_is); (case xl => k_is); (case xc => k_is); (case xk => k_is))
    (case h_d__law_pick => refine' Pd.DF.mk1 ?xa ?xl ?xc ?xk; (case xa => k_is); (case xl => k_is); (case xc => k_is); (case xk => k_is))
    (case h_d__law_caller => refine' Pd.DF.mk1 ?xa ?xl ?xc ?xk; (case xa => k_is); (case xl => k_is); (case xc => k_is); (case xk => k_is))
    (case h_d__law_is_whole => refine' Pd.DF.mk1 ?xa ?xl ?xc ?xk; (case xa => k_is); (case xl => k_is); (case xc => k_is); (case xk => k_is))
    (case h_d__law_is_told => refine' Pd.DF.mk1 ?xa ?xl ?xc ?xk; (case xa => k_is); (case xl => k_is); (case xc => k_is); (case xk => k_is))
    (case h_d__law_is_row => refine' Pd.DF.mk1 ?xa ?xl ?xc ?xk; (case xa => k_is); (case xl => k_is); (case xc => k_is); (case xk => k_is))
    (case h_d__law_due => refine' Pd.DF.mk1 ?xa ?xl ?xc ?xk; (case xa => k_is); (case xl => k_is); (case xc => k_is); (case xk => k_is))
    (case h_d_is_integer => refine' Pd.DF.mk1 ?xa ?xl ?xc ?xk; (case xa => k_is); (case xl => k_is); (case xc => k_is); (case xk => k_is))
    (case h_d_is_between => refine' Pd.DF.mk1 ?xa ?xl ?xc ?xk; (case xa => k_is); (case xl => k_is); (case xc => k_is); (case xk => k_is))
    (case h_d_are_between => refine' Pd.DF.mk1 ?xa ?xl ?xc ?xk; (case xa => k_is); (case xl => k_is); (case xc => k_is); (case xk => k_is))
    (case h_d_are_rooms => refine' Pd.DF.mk1 ?xa ?xl ?xc ?xk; (case xa => k_is); (case xl => k_is); (case xc => k_is); (case xk => k_is))
    (case h_d_are_guest_rooms => refine' Pd.DF.mk1 ?xa ?xl ?xc ?xk; (case xa => k_is); (case xl => k_is); (case xc => k_is); (case xk => k_is))
    (case h_d_is_tuple_of => refine' Pd.DF.mk1 ?xa ?xl ?xc ?xk; (case xa => k_is); (case xl => k_is); (case xc => k_is); (case xk => k_is))
    (case h_d_do_ascend => refine' Pd.DF.mk1 ?xa ?xl ?xc ?xk; (case xa => k_is); (case xl => k_is); (case xc => k_is); (case xk => k_is))
    (case h_d_are_letters => refine' Pd.DF.mk1 ?xa ?xl ?xc ?xk; (case xa => k_is); (case xl => k_is); (case xc => k_is); (case xk => k_is))
    (case h_d_is_heard => refine' Pd.DF.mk1 ?xa ?xl ?xc ?xk; (case xa => k_is); (case xl => k_is); (case xc => k_is); (case xk => k_is))
    (case h_d_are_ascending => refine' Pd.DF.mk1 ?xa ?xl ?xc ?xk; (case xa => k_is); (case xl => k_is); (case xc => k_is); (case xk => k_is))
    (case h_d_is_guest_move => refine' Pd.DF.mk1 ?xa ?xl ?xc ?xk; (case xa => k_is); (case xl => k_is); (case xc => k_is); (case xk => k_is))
    (case h_m_Guest_init => refine' Pd.MF.mk1 ?xa ?xi ?xl ?xc ?xk; (case xa => k_is); (case xi => k_is); (case xl => k_is); (case xc => k_is); (case xk => k_is))
    (case h_d__law_heard => refine' Pd.DF.mk1 ?xa ?xl ?xc ?xk; (case xa => k_is); (case xl => k_is); (case xc => k_is); (case xk => k_is))
    (case h_m_Guest_len => refine' Pd.MF.mk1 ?xa ?xi ?xl ?xc ?xk; (case xa => k_is); (case xi => k_is); (case xl => k_is); (case xc => k_is); (case xk => k_is))
    (case h_m_Guest_eq => refine' Pd.MF.mk1 ?xa ?xi ?xl ?xc ?xk; (case xa => k_is); (case xi => k_is); (case xl => k_is); (case xc => k_is); (case xk => k_is))
    (case h_d__law_right => refine' Pd.DF.mk1 ?xa ?xl ?xc ?xk; (case xa => k_is); (case xl => k_is); (case xc => k_is); (case xk => k_is))
    (case h_d__law_bent => refine' Pd.DF.mk1 ?xa ?xl ?xc ?xk; (case xa => k_is); (case xl => k_is); (case xc => k_is); (case xk => k_is))
    (case h_z_all => k_is)
    (case h_z_bool => k_is)
    (case h_z_enumerate => k_is)
    (case h_z_int => k_is)
    (case h_z_isinstance => k_is)
    (case h_z_len => k_is)
    (case h_z_list => k_is)
    (case h_z_range => k_is)
    (case h_z_repr => k_is)
    (case h_z_set => k_is)
    (case h_z_sorted => k_is)
    (case h_z_str => k_is)
    (case h_z_tuple => k_is)
    (case h_k_AWAY => (refine' Pd.kc_int ?e; (case e => k_is)))
    (case h_k_GREATEST_FACE => (refine' Pd.kc_int ?e; (case e => k_is)))
    (case h_k_GREATEST_ROOM => (refine' Pd.kc_int ?e; (case e => k_is)))
    (case h_hn => k_is)
    (case h_ht => k_is)
    (case dl => refine' Pd.DF.mk1 ?xa ?xl ?xc ?xk; (case xa => k_is); (case xl => k_is); (case xc => k_is); (case xk => k_is))

