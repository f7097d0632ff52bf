import PyProof.Rows.All
import Wide.All
import OpenK.AllK
import Wide.FinOn
import HandS.ForMost
import HandS.ForExc
import HandS.Iter
import HandS.Walk
import KE.GoesMore
import KE.GoesEnum
import HandS.Evl
import HandS.IsInst
import HandS.Codes
import HandS.ExcInit
import KE.KExcInit
import HandS.ExcValue
import HandS.MakeKw
import HandS.ExcField
import HandS.ExcIs
import KE.KExcIs
import HandS.ExcOwn
import HandS.Flow
import HandS.Sort
import HandS.Style
import HandS.Zip
import HandS.TupAny
import HandS.Conv
import KE.KRevSl
import HandS.Text
import HandS.StrMore
import HandS.TryOnly
import PyProof.InstNe
import HandS.OwnEq
import OpenK.KOps
import PyProof.StrOps2
import PySem.Challenge.RW_housewardens_k01_errors
set_option Elab.async false
set_option linter.all false
set_option maxRecDepth 100000
set_option maxHeartbeats 4000000
/-! A layer over the hand layer: calls that know that nothing is being shown around them (no repr under way). -/
namespace Hg
open PySem L2
open PySem.Spec PyProof.Rows

/-- around: no repr under way -/
def Quiet (A : Around) : Prop := A.guards = some []
theorem Quiet.deeper {A : Around} {env : Env} (q : Quiet A) : Quiet (A.deeper env) := q

/-- a def keeps its promise wherever no repr is under way -/
structure FnG (P : Program) (w : World) (K : PySem.W.Frag) (mg : Str → Option Value) (base : Heap)
    (CX : CXT) (k : Nat) (f : Addr) (fd : FuncData) (ps : List Str) (sp : Sp) : Prop where
  len : ∀ vs H Q E, sp vs H Q E → vs.length = ps.length
  go : ∀ (A : Around) (out : List Env) (s : Shared) (H : Hp) (args : Args) (us : List Value) (vs : List V) (Q : VK) (E : XK),
    Quiet A → Room k A → Env0 P w K mg base A out s H → BindsTo s fd args (ps.zip us) → Vals vs us → sp vs H Q E →
    codeAny (model P w) A (.call (.ref f) args) (CR CX out P w H s Q E) s

theorem FnG.mono {P : Program} {w : World} {K : PySem.W.Frag} {mg : Str → Option Value} {base : Heap} {CX : CXT}
    {j k : Nat} {f : Addr} {fd : FuncData} {ps : List Str} {sp : Sp}
    (F : FnG P w K mg base CX j f fd ps sp) (h : j ≤ k) : FnG P w K mg base CX k f fd ps sp :=
  ⟨F.len, fun A o s H a us vs Q E g r => F.go A o s H a us vs Q E g (r.mono h)⟩

section
variable {P : Program} {w : World} {K : PySem.W.Frag} {mg : Str → Option Value} {base : Heap} {CX : CXT}
/-- a def by its body, where no repr is under way -/
theorem fnG {k : Nat} {f : Addr} {x q : Str} {st : Stmt} {fd : FuncData} {N ps : List Str} {sp : Sp}
    (F : Fun K x q st f fd) (S : FnScope N ps (defScope st)) (len : ∀ vs H Q E, sp vs H Q E → vs.length = ps.length)
    (hb : ∀ (cdv : Value) (A : Around) (out : List Env) (s : Shared) (H : Hp) (vs : List V) (Q : VK) (E : XK), Quiet A →
      Room k (A.deeper (envOfC q (defScope st) s.heap.objs.size f cdv)) → sp vs H Q E →
      ∃ t, PSs (cxOf CX P w K mg base N q (defScope st) f cdv A out s H E) (defBody st) t ∧
        t { nx := fun _ H' => Q .non H', rt := Q } (start N vs) H) :
    FnG P w K mg base CX (k + 1) f fd ps sp := by
  obtain ⟨oc, od, kV, doc, pm, an, cdv, ct, osl, rfl, lk, hcd⟩ := F.ex
  refine ⟨len, ?_⟩
  intro A out s H args us vs Q E g hr e0 hbd r hsp
  have hl := len vs H Q E hsp
  have keep : ∀ b o, base.get? b = some o → s.heap.get? b = some o := fun b o e => (e0.bs b o e).1
  have KX : K.In s.heap := e0.mod.kin.keeps keep
  have lim := e0.mod.nolimit.keeps keep
  refine codeAny_call_function hr.depth (KX _ _ lk) rfl S.co S.gen rfl (PySem.W.codeRec_of KX hcd) (hbd _ _ _ _ ?_)
  refine wpAny_newFunctionEnv_cells S.kind ?hk ?hw
  case hk =>
    rintro ⟨n, v⟩ hy
    have hn := (List.of_mem_zip hy).1
    rcases S.par n hn with z | z
    · exact Or.inl z
    · exact Or.inr ⟨z, PySem.W.cellsFrom_some _ _ _ (Or.inl z)⟩
  case hw =>
    intro env he s1 xx
    subst he
    refine ⟨lim.keeps xx.toInCall.keep, codeAny_func ?_⟩
    obtain ⟨t, ht, hq⟩ := hb cdv A out s H vs Q E g (hr.deeper _) hsp
    have I := inv_start (CX := CX) (P := P) (w := w) (E := E) S hr.hd e0 hl r xx
    refine wpAny_mono (ht.run [] s1 (start N vs) H _ I hq) ?_ (fun _ _ z => z)
    intro fl s' hs
    have fin : ∀ {σ' : L2.St} {H' : Hp} {v : V} {u : Value},
        Inv (cxOf CX P w K mg base N q (defScope st) f cdv A out s H E) [] σ' H' s' → RelV v u → Q v H' →
        CE out P w H s Q u s' := by
      intro σ' H' v u J rv qq
      exact ⟨v, H', J.os, J.bare, J.base, J.hok, rv, qq⟩
    cases fl with
    | ret u => obtain ⟨v, σ', H', J, rv, qq⟩ := hs; exact fin J rv qq
    | next => obtain ⟨σ', H', J, qq⟩ := hs; exact fin (v := .non) (u := .none) J rfl qq
    | brk => obtain ⟨_, _, _, z⟩ := hs; exact z.elim
    | cont => obtain ⟨_, _, _, z⟩ := hs; exact z.elim
end

/-- a def of the module that may be called by its name -/
structure Cal (P : Program) (w : World) (K : PySem.W.Frag) (mg : Str → Option Value) (base : Heap) (CX : CXT)
    (k : Nat) (x : Str) (sp : Sp) : Prop where
  ex : ∃ (f : Addr) (fd : FuncData) (ps : List Str), FnG P w K mg base CX k f fd ps sp ∧ mg x = some (.ref f) ∧
    PySem.W.keepIn K (.ref f) = true ∧ Binds K fd ps []

section
variable {X : Cx} {CX : CXT} {k j : Nat} {f : Addr} {fd : FuncData} {ps : List Str} {sp : Sp} {E : XK} {x : Str} {p pos : Pos}
  {e : Expr} {es : List Expr} {t : TA}
/-- the callee runs -/
theorem runG {pins : List (Addr × Obj)} {σ : L2.St} {H : Hp} {s : Shared} {Q : VK} {us : List Value} {vs : List V}
    (F : FnG X.prog X.w X.K X.mg X.base CX k f fd ps sp) (g : Quiet X.A) (hr : Room k X.A) (hb : Binds X.K fd ps []) (hx : Passes CX X E)
    (I : Inv X pins σ H s) (r : Vals vs us) (h : sp vs H Q E) :
    wpAny (model X.prog X.w) X.A (call (.ref f) us) (EP X pins σ Q) X.xe s := by
  have hl : (us ++ []).length = ps.length := by rw [List.append_nil, ← r.length]; exact F.len vs H Q E h
  have b := hb s us I.kIn hl
  rw [List.append_nil] at b
  refine wpAny_call (codeAny_mono (F.go X.A X.stack s H ⟨us, []⟩ us vs Q E g hr I.env0 b r h) ?_)
  intro res s' hq
  match res, hq with
  | .error er, hq => exact hx pins σ H s er s' I hq
  | .ok (.ret u), hq => exact I.after hq
  | .ok .next, hq => exact hq.elim
  | .ok .brk, hq => exact hq.elim
  | .ok .cont, hq => exact hq.elim
/-- f(e, ..) -/
theorem pe_g (c : Cal X.prog X.w X.K X.mg X.base CX k x sp) (g : Quiet X.A) (hr : Room j X.A) (hk : k ≤ j) (hg : Gl X x) (hx : Passes CX X E)
    (ha : PA X (e :: es) t) (hdb : (x == ("__debug__" : Str)) = false := by decide)
    (he : starEach (e :: es) X.env = (false, eval e X.env) :: starEach es X.env := by rfl)
    (hpl : (backTo pos (starEach es X.env)).any (·.1) = false := by rfl) :
    PE X (.Call (.Name x p) (e :: es) [] pos) (fun σ H Q => t σ H fun vs H1 => sp vs H1 Q E) := by
  obtain ⟨f, fd, ps, F, hm, kp, b⟩ := c.ex
  refine ⟨fun pins s σ H Q I h => wpAny_Call_Name_kw (ld_glob I hg hm ?_ hdb)⟩
  refine PySem.W.callWith_K (h₀ := X.base) I.ok.mod.kin kp (thn (ha.run pos pins s σ H _ I h) ?_) he hpl
  rintro us s1 ⟨vs, H1, I1, r, q⟩
  exact ⟨I1.kIn, runG F g (hr.mono hk) b hx I1 r q⟩
end
end Hg

/-! The end of a law's row over the layer Hg: the law's own call, from its promise. -/
namespace Hg
open PySem L2
open PySem.Spec PyProof.Rows

/-- sys.modules stands in the base -/
def Sys (base : Heap) : Prop := ∃ mm, base.Ns sysModules mm

section
variable {P : Program} {w : World} {K : PySem.W.Frag} {mg mb : Str → Option Value} {k : Nat} {fa a : Addr} {fd : FuncData} {x : Str} {sp : Sp}
  {s1 : Shared} {vs : List Value} {ns : List Int}
/-- what the law's call leaves -/
abbrev Good (s1 : Shared) (r : Result) (s' : Shared) : Prop :=
  r = .ok (.ret (.bool true)) ∧ OldK s1.heap s'.heap ∧ s'.os = s1.os ∧ AllBare s'.gens

/-- from an abstract heap in which nothing but the script is tracked, locked -/
theorem law_from {H : Hp} (KX : K.In s1.heap) (hns : s1.heap.Ns mainGlobals mg) (hb : s1.heap.Ns builtinsNs mb)
    (hbb : ∀ y : Str, y ≠ "__name__" → mb y = bootBuiltins y) (hlim : s1.heap.NoLimit) (hsy : Sys s1.heap) (hg : s1.gens = #[])
    (ha : s1.heap.get? a = some { cls := .type "list", data := .seq vs.toArray }) (hr : Room k callerA)
    (F : ∀ base : Heap, K.In base → base.Ns mainGlobals mg → Sys base → FnG P w K mg base CX0 k fa fd [x] sp)
    (hbind : ∀ (s : Shared) (u : Value), BindsTo s fd ⟨[u], []⟩ [(x, u)])
    (hO : Only H) (hok : HOk P w H s1.heap) (hA : ∀ b, H b ≠ none → b = a) (hK : H a ≠ none → K.lookup a = none)
    (hsp : sp [.ref a] H (fun v _ => v = .bl true) (fun _ _ _ => False)) :
    codeAny (model P w) callerA (.call (.ref fa) ⟨[.ref a], []⟩) (Good s1) s1 := by
  have notA : ∀ {b : Addr} {o : Obj}, s1.heap.get? b = some o → (∀ n, o.data ≠ .seq vs.toArray n) → H b = none := by
    intro b o e d
    cases q : H b with
    | none => rfl
    | some u =>
      have eb := hA b (by rw [q]; exact fun z => nomatch z)
      rw [eb, ha] at e
      cases e
      exact absurd rfl (d _)
  have nsK : ∀ {b : Addr} {m : Str → Option Value}, s1.heap.Ns b m → (hidT s1.heap H).Ns b m := by
    rintro b m ⟨o, es, ep, e, d, r⟩
    exact ⟨o, es, ep, hidT_get e (notA e fun n z => by rw [d] at z; cases z), d, r⟩
  have hKb : K.In (hidT s1.heap H) := by
    intro b o e
    refine hidT_get (KX b o e) ?_
    cases q : H b with
    | none => rfl
    | some u =>
      have ne : H b ≠ none := by rw [q]; exact fun z => nomatch z
      have eb := hA b ne
      rw [eb] at ne e
      rw [hK ne] at e
      cases e
  have M : Mod K mg (hidT s1.heap H) := by
    obtain ⟨mc, h1, h2⟩ := hlim
    exact ⟨hKb, nsK hns, ⟨mb, nsK hb, hbb⟩, mc, nsK h1, h2⟩
  have e0 : Env0 P w K mg (hidT s1.heap H) callerA [] s1 H := by
    refine ⟨rfl, M, fun b o e => of_hidT e, Nat.le_of_eq (hidT_size _ _), trivial, ?_, hok, .of_eq hg⟩
    intro b z
    cases z
  have G := F _ hKb (nsK hns) (let ⟨mm, hmm⟩ := hsy; ⟨mm, nsK hmm⟩)
  refine codeAny_mono (G.go callerA [] s1 H ⟨[.ref a], []⟩ [.ref a] [.ref a] _ _ rfl hr e0 (hbind s1 (.ref a)) (.cons rfl .nil) hsp) ?_
  intro r s' h
  match r, h with
  | .error e, h => exact h.elim
  | .ok .next, h => exact h.elim
  | .ok .brk, h => exact h.elim
  | .ok .cont, h => exact h.elim
  | .ok (.ret u), h =>
    obtain ⟨v, H', os, bare, un, hok', r', q⟩ := h
    have q2 : v = .bl true := q
    subst q2
    have r2 : u = Value.bool true := r'
    subst r2
    refine ⟨rfl, OldK.of_keep ?_, os, bare⟩
    intro b o e
    cases q : H b with
    | none => exact un.keep b o e q (fun z => nomatch z) (fun z => nomatch z)
    | some u =>
      rcases hO b with z | ⟨ob, xs, z⟩
      · rw [q] at z; cases z
      · obtain ⟨e1, _⟩ := hok b _ z
        obtain ⟨e2, _⟩ := hok' b _ (un.frzs b ob _ z)
        rw [e1] at e
        cases e
        exact e2

/-- the law's call -/
theorem law_go (KX : K.In s1.heap) (hns : s1.heap.Ns mainGlobals mg) (hb : s1.heap.Ns builtinsNs mb)
    (hbb : ∀ y : Str, y ≠ "__name__" → mb y = bootBuiltins y) (hlim : s1.heap.NoLimit) (hsy : Sys s1.heap) (hg : s1.gens = #[])
    (ha : s1.heap.get? a = some { cls := .type "list", data := .seq vs.toArray }) (hi : IntsAre vs ns) (hl : ns.length ≤ sizeLine) (hr : Room k callerA)
    (F : ∀ base : Heap, K.In base → base.Ns mainGlobals mg → Sys base → FnG P w K mg base CX0 k fa fd [x] sp)
    (hbind : ∀ (s : Shared) (u : Value), BindsTo s fd ⟨[u], []⟩ [(x, u)])
    (hsp : ∀ H : Hp, Only H → SqL K H a (ns.map V.int) → sp [.ref a] H (fun v _ => v = .bl true) (fun _ _ _ => False)) :
    codeAny (model P w) callerA (.call (.ref fa) ⟨[.ref a], []⟩) (Good s1) s1 := by
  have rv := vals_ints hi
  have lv := hi.length
  have nn : ∀ {b : Addr} {u : HO}, (fun _ => none : Hp) b = some u → False := fun z => nomatch z
  cases hk : K.lookup a with
  | some o =>
    have e := KX a o hk
    rw [ha] at e
    cases e
    have hS : SqL K (fun _ => none) a (ns.map V.int) := by
      refine Or.inr ⟨_, vs.toArray, _, hk, rfl, rfl, rfl, ?_, by simpa using rv⟩
      rw [List.size_toArray, lv]
      exact hl
    have hO : Only (fun _ => none) := fun _ => Or.inl rfl
    exact law_from (H := fun _ => none) KX hns hb hbb hlim hsy hg ha hr F hbind hO (fun b u z => (nn (b := b) z).elim) (fun b z => absurd rfl z) (fun z => absurd rfl z) (hsp _ hO hS)
  | none =>
    let o : Obj := { cls := .type "list", data := .seq vs.toArray }
    let u : HO := .frz o (.lst (ns.map V.int))
    let H : Hp := fun b => if b = a then some u else none
    have Ha : H a = some u := if_pos rfl
    have Hn : ∀ {b}, b ≠ a → H b = none := fun h => if_neg h
    have hO : Only H := by
      intro b
      by_cases h : b = a
      · exact Or.inr ⟨_, _, by rw [h]; exact Ha⟩
      · exact Or.inl (Hn h)
    refine law_from (H := H) KX hns hb hbb hlim hsy hg ha hr F hbind hO ?_ ?_ (fun _ => hk) (hsp H hO (Or.inl (Or.inr ⟨o, Ha⟩)))
    · intro b v z
      by_cases h : b = a
      · subst h
        rw [Ha] at z
        cases z
        refine ⟨ha, ?_, vs, _, rv, ha⟩
        rw [List.length_map]
        exact hl
      · rw [Hn h] at z
        cases z
    · intro b z
      by_cases h : b = a
      · exact h
      · exact absurd (Hn h) z
end

/-- the goal that the head leaves, from the law's promise -/
theorem walkG {l : PySem.W.OpenLaw} {n k : Nat} {q : Program} {loose : List Str} {XP : (Str → Option Value) → Heap → Prop} {YP : World → Heap → Prop}
    {d : DefRec} {K : Params → PySem.W.Frag} {sp : PySem.W.Frag → Sp} {x : Str}
    (hn : l.most = some n) (hn2 : n ≤ sizeLine) (hdf : d.params.defaults = []) (hr : Room k callerA)
    (hi : importsNone q = true) (hY : ∀ (w : World) (h : Heap), YP w h → (K w.params).In h)
    (F : ∀ (w : World) (mg : Str → Option Value) (fa : Addr) (h : Heap), (K w.params).In h → h.Ns mainGlobals mg → mg d.name = some (.ref fa) →
      ∃ fd : FuncData, (∀ (s : Shared) (u : Value), BindsTo s fd ⟨[u], []⟩ [(x, u)]) ∧
        ∀ base : Heap, (K w.params).In base → base.Ns mainGlobals mg → Sys base → FnG l.prog w (K w.params) mg base CX0 k fa fd [x] (sp (K w.params)))
    (hsp : ∀ (K : PySem.W.Frag) (H : Hp) (a : Addr) (ns : List Int), ns.length ≤ n → Only H → SqL K H a (ns.map V.int) →
      sp K [.ref a] H (fun v _ => v = .bl true) (fun _ _ _ => False)) :
    PySem.W.WalkO q loose XP YP l.row.toRowW d [] (fun f vs => PySem.call f vs) := by
  refine Att.attach_call hn hdf ?_
  intro w s0 s1 mg mb fa o pm cd doc a vs ns G Y ho hd hcd hmg hobj hints hlen hg
  have KX := hY w _ Y
  obtain ⟨fd, hb, hF⟩ := F w mg fa _ KX G.T.g hmg
  exact law_go KX G.T.g G.T.b G.T.builtins G.T.nolimit (let ⟨mm, h1, _⟩ := (G.T.seer hi).mods; ⟨mm, h1⟩) hg hobj hints (Nat.le_trans hlen hn2) hr hF hb fun H hO hS => hsp _ H a ns hlen hO hS
end Hg

/-! repr of data of any depth: None, bools, ints, texts, lists, tuples, dicts by ints and texts. -/
namespace Hg
open PySem L2
open PySem.Spec PyProof.Rows

def keyD : Key → PyData
  | .inl i => .int i
  | .inr x => .str x
mutual
/-- v is this datum in the heap H -/
inductive Dd (K : PySem.W.Frag) (H : Hp) : V → PyData → Prop
  | non : Dd K H .non .none
  | bl (b : Bool) : Dd K H (.bl b) (.bool b)
  | int (i : Int) : Dd K H (.int i) (.int i)
  | str (x : Str) : Dd K H (.str x) (.str x)
  | lst {a : Addr} {xs : List V} {ds : List PyData} : SqL K H a xs → DdAll K H xs ds → Dd K H (.ref a) (.list ds)
  | tup {a : Addr} {xs : List V} {ds : List PyData} : SqT K H a xs → DdAll K H xs ds → Dd K H (.ref a) (.tuple ds)
  | dct {a : Addr} {kvs : List (Key × V)} {ds : List PyData} : Rd H a (.dK kvs) → DdAll K H (kvs.map (·.2)) ds →
      Dd K H (.ref a) (.dict ((kvs.map fun p => keyD p.1).zip ds))
inductive DdAll (K : PySem.W.Frag) (H : Hp) : List V → List PyData → Prop
  | nil : DdAll K H [] []
  | cons {v : V} {vs : List V} {d : PyData} {ds : List PyData} : Dd K H v d → DdAll K H vs ds → DdAll K H (v :: vs) (d :: ds)
end

theorem DdAll.length {K : PySem.W.Frag} {H : Hp} : ∀ {vs : List V} {ds : List PyData}, DdAll K H vs ds → vs.length = ds.length
  | _, _, .nil => rfl
  | _, _, .cons _ h => congrArg (· + 1) h.length


section
variable {X : Cx} {pins : List (Addr × Obj)} {σ : L2.St} {H : Hp} {s : Shared}
theorem Sys.at (y : Sys X.base) (I : Inv X pins σ H s) : ∃ o es ep, s.heap.get? sysModules = some o ∧ o.data = .dict es ep ∧ H sysModules = none := by
  obtain ⟨mm, o, es, ep, e, d, _⟩ := y
  exact ⟨o, es, ep, (I.bs _ _ e).1, d, (I.bs _ _ e).2⟩
theorem keys_read {P : Program} {w : World} {h : Heap} : ∀ {kvs : List (Key × V)} {vs : List (Key × Value)} {es : List DictEntry}, KV kvs vs →
    Pairs (mixKind P w) es vs → ReadsAll h (es.map (·.key)) (kvs.map fun p => keyD p.1) []
  | [], _, _, r, p => by
    cases r
    cases p
    exact .nil
  | (k, v) :: kvs, _, _, r, p => by
    cases r with
    | cons r1 r2 =>
      rename_i q vs'
      obtain ⟨kq, vq⟩ := q
      obtain ⟨e1, e2⟩ := r1
      have e1' : k = kq := e1
      subst e1'
      cases p with
      | cons p1 p2 p3 =>
        rename_i e es'
        have hs : keyIs k e.key = true := p1
        have rest := keys_read (h := h) r2 p3
        show ReadsAll h (e.key :: es'.map (·.key)) (keyD k :: kvs.map fun p => keyD p.1) ([] ++ [])
        rcases keyIs_shape hs with ⟨i, t, rfl, eq⟩ | ⟨x, t, rfl, eq⟩
        · exact .cons (by rw [eq]; exact .int i t) rest
        · exact .cons (by rw [eq]; exact .str x t) rest
theorem vals_of {P : Program} {w : World} : ∀ {kvs : List (Key × V)} {vs : List (Key × Value)} {es : List DictEntry}, KV kvs vs →
    Pairs (mixKind P w) es vs → Vals (kvs.map (·.2)) (es.map (·.val))
  | [], _, _, r, p => by
    cases r
    cases p
    exact .nil
  | (k, v) :: kvs, _, _, r, p => by
    cases r with
    | cons r1 r2 =>
      cases p with
      | cons p1 p2 p3 =>
        refine .cons ?_ (vals_of r2 p3)
        have z := r1.2
        rw [← p2] at z
        exact z
theorem zip_fst {α β : Type} : ∀ {as : List α} {bs : List β}, as.length = bs.length → (as.zip bs).map (·.1) = as
  | [], _, _ => rfl
  | a :: as, b :: bs, h => by
    show a :: (as.zip bs).map (·.1) = a :: as
    rw [zip_fst (Nat.succ.inj h)]
theorem zip_snd {α β : Type} : ∀ {as : List α} {bs : List β}, as.length = bs.length → (as.zip bs).map (·.2) = bs
  | [], [], _ => rfl
  | a :: as, b :: bs, h => by
    show b :: (as.zip bs).map (·.2) = b :: bs
    rw [zip_snd (Nat.succ.inj h)]
mutual
theorem Dd.reads (y : Sys X.base) (I : Inv X pins σ H s) : ∀ {v : V} {d : PyData} {u : Value}, Dd X.K H v d → RelV v u → ∃ as, Reads s.heap u d as ∧ sysModules ∉ as
  | _, _, _, .non, r => by
    cases r
    exact ⟨[], .none, fun z => nomatch z⟩
  | _, _, _, .bl b, r => by
    cases r
    exact ⟨[], .bool b, fun z => nomatch z⟩
  | _, _, _, .int i, r => by
    obtain ⟨t, rfl⟩ := r
    exact ⟨[], .int i t, fun z => nomatch z⟩
  | _, _, _, .str x, r => by
    obtain ⟨t, rfl⟩ := r
    exact ⟨[], .str x t, fun z => nomatch z⟩
  | _, _, _, .lst (a := a) hs ha, r => by
    cases r
    obtain ⟨its, rv, ⟨o, n, ho, hc, _, hd⟩, _⟩ := I.list hs
    obtain ⟨as, hr, hn⟩ := DdAll.reads y I ha rv
    refine ⟨_, .list ho hc hd hr, ?_⟩
    intro z
    rcases List.mem_cons.mp z with z | z
    · obtain ⟨o2, es, ep, e2, d2, _⟩ := y.at I
      rw [z, ho] at e2
      cases e2
      rw [hd] at d2
      cases d2
    · exact hn z
  | _, _, _, .tup hs ha, r => by
    cases r
    obtain ⟨its, rv, ⟨o, ho, hc, n, hd⟩, _⟩ := I.tuple hs
    obtain ⟨as, hr, hn⟩ := DdAll.reads y I ha rv
    exact ⟨_, .tuple ho hc hd hr, hn⟩
  | _, _, _, .dct (a := a) (kvs := kvs) (ds := ds) hs ha, r => by
    cases r
    obtain ⟨_, hne, vs, kv, o, es, ep, ho, hx, hd, _, hp, _⟩ := hs.ok I.hok
    have hl : (kvs.map fun p => keyD p.1).length = ds.length := by
      rw [List.length_map, ← ha.length, List.length_map]
    obtain ⟨as, hr, hn⟩ := DdAll.reads y I ha (vals_of kv hp)
    refine ⟨_, .dict ho hx.1 hd (as := []) (bs := as) ?_ ?_, ?_⟩
    · rw [zip_fst hl]
      exact keys_read kv hp
    · rw [zip_snd hl]
      exact hr
    · intro z
      rcases List.mem_cons.mp z with z | z
      · rw [← z] at hne
        exact absurd hne (by decide)
      · exact hn z
theorem DdAll.reads (y : Sys X.base) (I : Inv X pins σ H s) : ∀ {vs : List V} {ds : List PyData} {us : List Value}, DdAll X.K H vs ds → Vals vs us → ∃ as, ReadsAll s.heap us ds as ∧ sysModules ∉ as
  | _, _, _, .nil, r => by
    cases r
    exact ⟨[], .nil, fun z => nomatch z⟩
  | _, _, _, .cons h1 h2, r => by
    cases r with
    | cons r1 r2 =>
      obtain ⟨as, q1, n1⟩ := Dd.reads y I h1 r1
      obtain ⟨bs, q2, n2⟩ := DdAll.reads y I h2 r2
      refine ⟨as ++ bs, .cons q1 q2, fun z => ?_⟩
      rcases List.mem_append.mp z with z | z
      · exact n1 z
      · exact n2 z
end
end

/-- what repr can show -/
structure Shows (d : PyData) : Prop where
  ok : d.showable = true
  dp : d.depth ≤ 60
  sz : d.shown.length ≤ sizeLine

section
variable {X : Cx}
theorem call_repr (g : Quiet X.A) (hu : X.A.units + 64 < cLine) (y : Sys X.base) : CallR X (.builtin "repr") (fun xs H Q => ∃ v d, xs = [v] ∧ Dd X.K H v d ∧ Shows d ∧ Q (.str d.shown) H) := by
  intro pins s σ H xs us Q I r h
  obtain ⟨v, d, rfl, hd, S, q⟩ := h
  cases r with
  | cons rv rn =>
    cases rn
    rename_i u
    have fin : ∀ (x : Str) (t tk : Tok), x = d.shown → EP X pins σ Q (.str x t) { s with toks := tk } := by
      rintro x t tk rfl
      exact ⟨.str d.shown, H, I.tok tk, ⟨t, rfl⟩, q⟩
    have ref : ∀ a : Addr, u = .ref a → wpAny (model X.prog X.w) X.A (call (.builtin "repr") [.ref a]) (EP X pins σ Q) X.xe s := by
      intro a ea
      obtain ⟨as, hr, hn⟩ := Dd.reads y I hd rv
      rw [ea] at hr
      refine repr_of_reads' hr S.ok (fun _ => hn) g (by have := S.dp; omega) (fun _ _ e => e) ?_ S.sz
      intro h' t tk k
      exact ⟨.str d.shown, H, I.kept (t' := tk) k, ⟨t, rfl⟩, q⟩
    cases hd with
    | non =>
      cases rv
      exact PySem.P.repr_of_none (fin _ _ _ (by simp only [PyData.shown]))
    | bl b =>
      cases rv
      exact PySem.P.repr_of_bool (fin _ _ _ (by simp only [PyData.shown]))
    | int i =>
      obtain ⟨t, rfl⟩ := rv
      exact PySem.P.repr_of_int (by simpa [PyData.showable] using S.ok) (fin _ _ _ (by simp only [PyData.shown]))
    | str x =>
      obtain ⟨t, rfl⟩ := rv
      have z := S.sz
      simp only [PyData.shown] at z
      exact PySem.P.repr_of_str (fin _ _ _ (by simp only [PyData.shown])) z
    | lst hs ha =>
      cases rv
      exact ref _ rfl
    | tup hs ha =>
      cases rv
      exact ref _ rfl
    | dct hs ha =>
      cases rv
      exact ref _ rfl
end
end Hg

/-! enumerate(t), t a tuple. -/
namespace He1
open PySem
open Sem (wp)
set_option maxHeartbeats 1000000 in
theorem new1 {v : Value} {o : Obj} {G : Heap → Prop} (B : Begins v o G) :
    Meets (Builtin.«enumerate.__new__» ⟨[.type "enumerate", v], []⟩) (fun _ R s => G s.heap ∧
      R (.ok (.ret (.ref (s.heap.push o).objs.size)))
        { s with heap := (s.heap.push o).push { cls := .type "enumerate", data := .fields #[.none, .bool false, .ref s.heap.objs.size, rawInt 0, .none, .none] } }) :=
  .of_wp fun prog w A R s h => by
    obtain ⟨hp, g, d, tk, os⟩ := s
    obtain ⟨h1, h⟩ := h
    have hs := sub_enumerate
    have q : ∀ {A' : Around} {E : Value → Shared → Prop} {Q : Value → Shared → Prop}, Q (.ref hp.objs.size) ⟨hp.push o, g, d, tk, os⟩ →
        wpAny (model prog w) A' (pyIter v) Q E ⟨hp, g, d, tk, os⟩ := fun z => B.iter prog w _ _ ⟨hp, g, d, tk, os⟩ _ h1 z
    wp_walk using q
    refine wpAny_stack_any fun st => wpAny_pure ?_
    split
    · rename_i c _ _ _ _ _
      cases (c == Value.type "enumerate") <;> (wp_walk using q; exact ⟨_, rfl, h⟩)
    · wp_walk using q
      exact ⟨_, rfl, h⟩
section
variable {prog : Program} {w : World} {A : Around} {E : Value → Shared → Prop} {s : Shared}
theorem call1 {t : Addr} {items : Array Value} {Q : Value → Shared → Prop} (hT : s.heap.IsTuple t items)
    (h : ∀ h', IsEnum h' (s.heap.objs.size + 1) s.heap.objs.size 0 .none → h'.IsTupleIter s.heap.objs.size t 0 →
      (∀ b o, s.heap.get? b = some o → h'.get? b = some o) → Q (.ref (s.heap.objs.size + 1)) { s with heap := h' }) :
    wpAny (model prog w) A (call (.type "enumerate") [.ref t]) Q E s := by
  refine callType_new F.called_enumerate (by decide) (F.typeCall_enumerate_1 _) (F.newCall_enumerate_1 _) (fun obj => F.args_object_init_2 obj _) F.entry_enumerate_new
    (new1 (begins_tuple t items)) ⟨hT, ?_⟩
  generalize ho : ({ cls := .type "tuple_iterator", data := .fields #[.ref t, .int 0 0] } : Obj) = o
  have fr : o.isFreed = false := by rw [← ho]; rfl
  have hz : (s.heap.push o).objs.size = s.heap.objs.size + 1 := Heap.size_push ..
  show _ ∧ _
  rw [hz]
  generalize hoe : ({ cls := .type "enumerate", data := .fields #[.none, .bool false, .ref s.heap.objs.size, rawInt 0, .none, .none] } : Obj) = oe
  have he : ((s.heap.push o).push oe).get? (s.heap.objs.size + 1) = some oe := by
    have z := Heap.get?_push_size (s.heap.push o) (o := oe) (by rw [← hoe]; rfl)
    rw [hz] at z
    exact z
  have hi : ((s.heap.push o).push oe).get? s.heap.objs.size = some o := Heap.get?_push_of_some _ (Heap.get?_push_size _ fr)
  refine ⟨⟨oe, he, by rw [← hoe]⟩, h _ (by rw [← hoe] at he ⊢; exact he) ⟨o, hi, by rw [← ho], by rw [← ho]; rfl⟩ ?_⟩
  intro b ob x
  exact Heap.get?_push_of_some _ (Heap.get?_push_of_some _ x)
theorem end1 {e it t : Addr} {i j : Nat} {items : Array Value} {old : Value} {Q : Option Value → Shared → Prop} (hh : A.handled = none)
    (he : IsEnum s.heap e it i old) (hit : s.heap.IsTupleIter it t j) (ht : s.heap.IsTuple t items) (hx : items[j]? = none)
    (hQ : ∀ h', Heap.ExtBut it s.heap h' → Q none { s with heap := h' }) : wpAny (model prog w) A (pyNext (.ref e)) Q E s := by
  have hT : s.TypeIs (.ref e) "enumerate" := ⟨_, he, rfl⟩
  unfold pyNext
  refine wpAny_bind (wpAny_attempt (wpAny_callSpecial?_slot (name := Str.ofString "__next__") hT F.slot_enumerate_next ?_))
  refine wpAny_call_entry F.slot_enumerate_next hT F.entry_enumerate_next ?_ (F.args_enumerate_next_1 _)
  show wpAny _ _ (field (.ref e) 2 >>= _) _ _ _
  refine wpAny_bind (wpAny_field he rfl (x := .ref it) rfl (wpAny_bind (wpAny_nextOf_tuple_end hh hit ht hx ?_)))
  rintro h' x hx1 ⟨o, ho, hc⟩
  exact wpAny_bind (wpAny_isInstance (T := "StopIteration") (b := true) ⟨o, ho, hc⟩ isSubtype_stop (wpAny_pure (hQ _ hx1)))
end
end He1
namespace Hg
open PySem L2
open PySem.Spec PyProof.Rows
/-- the tuple at a, each item in a new pair -/
def Itet (K : PySem.W.Frag) (a : Addr) : It :=
  ⟨fun i H => ∃ (xs : List V) (x : V), SqT K H a xs ∧ xs[i]? = some x,
   fun i H v H' => ∃ T x, v = .ref T ∧ H T = none ∧ H' = upd H T (.tup [.int (i : Nat), x]) ∧ ∀ xs, SqT K H a xs → xs[i]? = some x,
   fun i H => ∃ xs : List V, SqT K H a xs ∧ xs.length ≤ i⟩
theorem two_of {b e it : Addr} (h : b ∈ [e, it]) : b = e ∨ b = it := by simpa using h
theorem turn_enumT {P : Program} {w : World} {K : PySem.W.Frag} {elts : List Expr} {kk : Nat} {tpos : Pos} (a e it : Addr) :
    Turn P w K (.Tuple elts kk tpos) (Itet K a) [e, it] e
      (fun i h => (∃ old, IsEnum h e it ((i : Nat) : Int) old) ∧ h.IsTupleIter it a i ∧ e ≠ it ∧ a ≠ it ∧ a ≠ e) where
  mem := by simp
  obj := by
    rintro i h ⟨⟨old, he⟩, ⟨o, ho, hc, hd⟩, _⟩ b hb
    rcases two_of hb with rfl | rfl
    · exact ⟨_, he, fun v z => nomatch z⟩
    · exact ⟨o, ho, fun v z => by rw [hd] at z; cases z⟩
  keep := by
    rintro i h h' ⟨⟨old, he⟩, hi, hne⟩ k
    exact ⟨⟨old, k e (by simp) _ he⟩, hi.at fun o z => k it (by simp) o z, hne⟩
  item := by
    intro X hP hw hK hc i pins s σ H E I hf st hg
    subst hP hw hK
    obtain ⟨⟨old, he⟩, hit, hne, hai, hae⟩ := st
    obtain ⟨xs, x, hq, hx⟩ := hg
    obtain ⟨its, rv, p, hz⟩ := I.tuple hq
    obtain ⟨u, hu, ru⟩ := rv.get hx
    have hel : e < s.heap.objs.size := Heap.lt_size he
    have hil : it < s.heap.objs.size := by
      obtain ⟨_, z, _⟩ := hit
      exact Heap.lt_size z
    have hT : s.heap.IsTuple a its.toArray := p
    have D := Draws.tuple (prog := X.prog) (w := X.w) (A := X.A.in1) (I.ok.hd hc) it a hai its.toArray
    have hlen : i < its.toArray.size := by
      obtain ⟨z, _⟩ := List.getElem?_eq_some_iff.mp hu
      simpa using z
    refine wpAny_pyNext_enum_itemC (c := ((i : Nat) : Int)) D he ⟨hit, hT⟩ hlen hne (by simp [hne, Ne.symm hae]) ?_
    intro x' h' tk hP' ho st' hT' hsz hk
    have ex : x' = u := by
      have z : its.toArray[i]? = some x' := hP'
      have z2 : its.toArray[i]? = some u := by simpa using hu
      rw [z2] at z
      exact (Option.some.inj z).symm
    subst ex
    refine ⟨_, rfl, wpAny_letOwnedTupleGo_enum (s := { s with heap := h', toks := tk + 1 }) ho ?_⟩
    intro h'' he' sb
    have hT2 : h''.get? s.heap.objs.size = some { cls := .type "tuple", data := .seq #[.int i tk, x'] } := (sb.2 _ (Nat.ne_of_gt hel)).trans hT'
    have new : ObjOk X.prog X.w (upd H s.heap.objs.size (.tup [.int (i : Nat), x])) h'' s.heap.objs.size (.tup [.int (i : Nat), x]) :=
      ⟨by show 2 ≤ sizeLine; decide, [.int i tk, x'], .cons ⟨_, rfl⟩ (.cons ru .nil), ⟨_, hT2, rfl, _, rfl⟩⟩
    have I1 : Inv X pins σ (upd H s.heap.objs.size (.tup [.int (i : Nat), x])) { s with heap := h'', toks := tk + 1 } := by
      refine I.turnedNew (ch := [e, it]) ?_ hf (Nat.le_refl _) new
      intro b ob hb z
      have n1 : b ≠ e := fun y => hb (by simp [y])
      have n2 : b ≠ it := fun y => hb (by simp [y])
      exact (sb.2 b n1).trans (hk b ob n1 n2 z)
    refine ⟨.ref s.heap.objs.size, _, I1, rfl, ⟨_, x, rfl, I.hok.fresh (Nat.le_refl _), rfl, ?_⟩, ⟨⟨x', ?_⟩, st'.1.at fun o z => (sb.2 it (Ne.symm hne)).trans z, hne, hai, hae⟩, ?_⟩
    · intro ys hy
      rw [I.tuple_inj hy hq]
      exact hx
    · have e1 : ((i + 1 : Nat) : Int) = (i : Int) + 1 := by omega
      rw [e1]
      exact he'
    · intro b hb
      have hb' : b < s.heap.objs.size := by
        rcases two_of hb with rfl | rfl
        · exact hel
        · exact hil
      rw [upd_ne (Nat.ne_of_lt hb')]
      exact (hf b hb).1
  done := by
    intro X hP hw hK hc i pins s σ H E I hf st hg
    subst hP hw hK
    obtain ⟨⟨old, he⟩, hit, hne, hai, hae⟩ := st
    obtain ⟨xs, hq, hx⟩ := hg
    obtain ⟨its, rv, p, hz⟩ := I.tuple hq
    have hT : s.heap.IsTuple a its.toArray := p
    obtain ⟨f0, f1, f2, f3, f4, f5⟩ := hf it (by simp)
    have hl := rv.length
    exact He1.end1 (I.ok.hd hc) he hit hT (by simp; omega) fun h' eb => ⟨rfl, I.turned (t' := s.toks) (fun b o hb z => eb b o hb z) f0 f1 f3 f4 f5⟩
  self := by
    rintro A i s Q E ⟨⟨_, he⟩, _⟩ h
    exact wpAny_pyIter_enum he h
def iEnumT (K : PySem.W.Frag) (ta : TA) : TI := fun σ H R => ta σ H fun vs H1 => ∃ a xs, vs = [.ref a] ∧ SqT K H1 a xs ∧ R (Itet K a) H1
theorem pi_enumT {X : Cx} {e : Expr} {ta : TA} {p pos tpos : Pos} {elts : List Expr} {kk : Nat} (hg : Gl X "enumerate") (hm : X.mg "enumerate" = none) (ha : PA X [e] ta)
    (hs : starEach [e] X.env = [(false, eval e X.env)] := by rfl) :
    PI X (.Tuple elts kk tpos) (.Call (.Name "enumerate" p) [e] [] pos) (iEnumT X.K ta) := by
  refine ⟨fun pins s σ H R I h => ?_⟩
  refine Call_ (ld_blt I hg hm boot_enumerate (PyProof.Rows.callWith_type1 (thn (ha.run pos pins s σ H _ I h) ?_) hs rfl))
  rintro us s1 ⟨vs, H1, I1, r1, a, xs, ex, hq, q⟩
  subst ex
  cases r1 with
  | cons r rr =>
    cases rr
    cases r
    obtain ⟨its, rv, p', hz⟩ := I1.tuple hq
    have la : a < s1.heap.objs.size := p'.lt
    refine He1.call1 p' fun h' he hit hk => wpAny_pyIter_enum he ?_
    have I2 : Inv X pins σ H1 { s1 with heap := h' } := I1.kept (t' := s1.toks) hk
    refine ⟨s1.heap.objs.size + 1, [s1.heap.objs.size + 1, s1.heap.objs.size], _, _, H1, rfl, I2, turn_enumT a (s1.heap.objs.size + 1) s1.heap.objs.size,
      ⟨⟨.none, he⟩, hit, Nat.succ_ne_self _, Nat.ne_of_lt la, Nat.ne_of_lt (Nat.lt_succ_of_lt la)⟩, ?_, q⟩
    intro b hb
    have hle : s1.heap.objs.size ≤ b := by
      rcases two_of hb with z | z
      · rw [z]; exact Nat.le_add_right _ _
      · rw [z]; exact Nat.le_refl _
    exact I1.fpOk hle (I1.hok.fresh hle)
theorem walk_enumT {K : PySem.W.Frag} {a : Addr} {xs : List V} : Walk (Itet K a) xs.length (fun H => SqT K H a xs) (YPair (fun i => some (.int (i : Nat))) (fun i => xs[i]?)) := by
  refine ⟨fun i _ hi q => ⟨xs, xs[i], q, by simp [hi]⟩, fun _ q => ⟨xs, q, Nat.le_refl _⟩, ?_⟩
  rintro i H v H' _ q ⟨T, x, h1, h2, h3, h4⟩
  exact ⟨T, .int (i : Nat), x, h1, h2, h3, rfl, h4 xs q⟩
end Hg

/-! Data in heaps that grow: what it is, how it is asked. -/
namespace Hg
open PySem L2 Evl
open PySem.Spec PyProof.Rows

section
variable {K : PySem.W.Frag} {H H' : Hp} {v : V} {d : PyData}
mutual
theorem Dd.ex (e : Ex H H') : ∀ {v : V} {d : PyData}, Dd K H v d → Dd K H' v d
  | _, _, .non => .non
  | _, _, .bl b => .bl b
  | _, _, .int i => .int i
  | _, _, .str x => .str x
  | _, _, .lst h ha => .lst (ex_l e h) (ha.ex e)
  | _, _, .tup h ha => .tup (ex_t e h) (ha.ex e)
  | _, _, .dct h ha => .dct (ex_rd e h) (ha.ex e)
theorem DdAll.ex (e : Ex H H') : ∀ {vs : List V} {ds : List PyData}, DdAll K H vs ds → DdAll K H' vs ds
  | _, _, .nil => .nil
  | _, _, .cons h ha => .cons (h.ex e) (ha.ex e)
end
theorem DdAll.get : ∀ {vs : List V} {ds : List PyData} {i : Nat} {v : V}, DdAll K H vs ds → vs[i]? = some v → ∃ d, ds[i]? = some d ∧ Dd K H v d
  | _, _, _, _, .nil, e => by simp at e
  | _, _, 0, _, .cons h _, e => by
    simp at e
    subst e
    exact ⟨_, rfl, h⟩
  | _, _, i + 1, _, .cons _ ha, e => ha.get (i := i) (by simpa using e)
theorem DdAll.append : ∀ {vs ws : List V} {ds es : List PyData}, DdAll K H vs ds → DdAll K H ws es → DdAll K H (vs ++ ws) (ds ++ es)
  | _, _, _, _, .nil, b => b
  | _, _, _, _, .cons h a, b => .cons h (a.append b)

/-- the name of a datum's type -/
def tyD : PyData → String
  | .none => "NoneType"
  | .bool _ => "bool"
  | .int _ => "int"
  | .str _ => "str"
  | .list _ => "list"
  | .tuple _ => "tuple"
  | .dict _ => "dict"
theorem tyX_of (h : Dd K H v d) : TyX K H v (.type (tyD d)) := by
  cases h with
  | non => exact .base .non
  | bl b => exact .base (.bl b)
  | int i => exact .base (.int i)
  | str x => exact .base (.str x)
  | lst hs _ =>
    rcases hs with (h | ⟨o, h⟩) | ⟨o, its, n, h, c, _⟩
    · exact .base (.lst h)
    · exact .base (.frz h)
    · exact .kList h c
  | tup hs _ =>
    rcases hs with (h | ⟨o, h⟩) | ⟨o, its, n, h, c, _⟩
    · exact .base (.tup h)
    · exact .fTuple h
    · exact .kTuple h c
  | dct hs _ =>
    rcases hs with h | ⟨o, h⟩
    · exact .base (.dK h)
    · exact .fDict h
/-- isinstance(d, T), T a built-in type -/
def isT (T : String) (d : PyData) : Bool := (kitB (tyD d) T).getD false
theorem kit_all : (["NoneType", "bool", "int", "str", "list", "tuple", "dict"].all fun n => ["int", "bool", "str", "tuple", "list", "dict"].all fun T => kitB n T == some ((kitB n T).getD false)) = true := by decide +kernel
theorem kit_at (d : PyData) (T : String) (hT : T ∈ ["int", "bool", "str", "tuple", "list", "dict"]) : kitB (tyD d) T = some (isT T d) := by
  have h : tyD d ∈ ["NoneType", "bool", "int", "str", "list", "tuple", "dict"] := by cases d <;> simp [tyD]
  exact beq_iff_eq.mp (List.all_eq_true.mp (List.all_eq_true.mp kit_all _ h) T hT)
theorem kit_int (d : PyData) : kitB (tyD d) "int" = some (isT "int" d) := kit_at d _ (by simp)
theorem kit_bool (d : PyData) : kitB (tyD d) "bool" = some (isT "bool" d) := kit_at d _ (by simp)
theorem kit_str (d : PyData) : kitB (tyD d) "str" = some (isT "str" d) := kit_at d _ (by simp)
theorem kit_tuple (d : PyData) : kitB (tyD d) "tuple" = some (isT "tuple" d) := kit_at d _ (by simp)
theorem rc_isi {T : String} (h : Dd K H v d) (k : kitB (tyD d) T = some (isT T d)) : RC (rIsi K) [v, .ty T] H (.bl (isT T d)) :=
  fun H1 e Q q => ⟨v, .ty T, _, _, _, rfl, .ty T, tyX_of (h.ex e), kit_ty k, q H1 (Ex.refl H1)⟩
/-- isinstance(e, T) -/
theorem ev_isi {te : TE} {σ : L2.St} {T : String} (he : Ev te σ H v) (h : Dd K H v d) (k : kitB (tyD d) T = some (isT T d)) :
    Ev (tCB (rIsi K) (tCons te (tCons (tC (.ty T)) tNil))) σ H (.bl (isT T d)) :=
  ev_cb (ea_cons he (ea_cons ev_c ea_nil)) (rc_isi h k)
def isWhole : PyData → Bool
  | .int _ => true
  | _ => false
def tab (T : String) : List Bool := ["NoneType", "bool", "int", "str", "list", "tuple", "dict"].map fun n => (kitB n T).getD false
theorem tab_int : tab "int" = [false, true, true, false, false, false, false] := by decide +kernel
theorem tab_bool : tab "bool" = [false, true, false, false, false, false, false] := by decide +kernel
theorem tab_str : tab "str" = [false, false, false, true, false, false, false] := by decide +kernel
theorem tab_tuple : tab "tuple" = [false, false, false, false, false, true, false] := by decide +kernel
def tyN : PyData → Nat
  | .none => 0
  | .bool _ => 1
  | .int _ => 2
  | .str _ => 3
  | .list _ => 4
  | .tuple _ => 5
  | .dict _ => 6
theorem isT_tab (T : String) (d : PyData) : some (isT T d) = (tab T)[tyN d]? := by cases d <;> rfl
theorem isT_int (d : PyData) : isT "int" d = (match d with | .int _ => true | .bool _ => true | _ => false) := by
  have h := isT_tab "int" d
  rw [tab_int] at h
  cases d <;> exact Option.some.inj h
theorem isT_bool (d : PyData) : isT "bool" d = (match d with | .bool _ => true | _ => false) := by
  have h := isT_tab "bool" d
  rw [tab_bool] at h
  cases d <;> exact Option.some.inj h
def isTup : PyData → Bool
  | .tuple _ => true
  | _ => false
def isStr : PyData → Bool
  | .str _ => true
  | _ => false
theorem isT_tuple (d : PyData) : isT "tuple" d = isTup d := by
  have h := isT_tab "tuple" d
  rw [tab_tuple] at h
  cases d <;> exact Option.some.inj h
theorem isT_str (d : PyData) : isT "str" d = isStr d := by
  have h := isT_tab "str" d
  rw [tab_str] at h
  cases d <;> exact Option.some.inj h
theorem isWhole_eq (d : PyData) : (isT "int" d && !isT "bool" d) = isWhole d := by
  rw [isT_int, isT_bool]
  cases d <;> rfl
end
/-- a call, to a value -/
theorem ev_d {H : Hp} {σ : L2.St} {sp : Sp} {vs : List V} {E : XK} {ta : TA} {z : V} (h : EvA ta σ H vs) (hs : SpV sp vs H z) : Ev (tCall sp [] E ta) σ H z :=
  ev_call h (by rw [List.append_nil]; exact hs)
/-- a promise: a truth value of the arguments' data -/
def spB (K : PySem.W.Frag) (n : Nat) (pre : List PyData → Prop) (f : List PyData → Bool) : Sp := fun vs H Q _ =>
  ∃ ds, DdAll K H vs ds ∧ ds.length = n ∧ pre ds ∧ ∀ H2, Ex H H2 → Q (.bl (f ds)) H2
theorem spB_go {K : PySem.W.Frag} {H : Hp} {n : Nat} {pre : List PyData → Prop} {f : List PyData → Bool} {vs : List V} {ds : List PyData} (h : DdAll K H vs ds) (hl : ds.length = n) (hp : pre ds) :
    SpV (spB K n pre f) vs H (.bl (f ds)) := fun H1 e Q q E => ⟨ds, h.ex e, hl, hp, q⟩
theorem spB_len {K : PySem.W.Frag} {H : Hp} {n : Nat} {pre : List PyData → Prop} {f : List PyData → Bool} {vs : List V} {Q : VK} {E : XK} (h : spB K n pre f vs H Q E) : vs.length = n := by
  obtain ⟨ds, a, b, _⟩ := h
  rw [a.length, b]
end Hg

/-! Comprehensions over tuples, texts, pairs; all(..); sizes. -/
namespace Hg
open PySem L2 Evl
open PySem.Spec PyProof.Rows

mutual
/-- no list, tuple, text of more than a thousand -/
def small : PyData → Bool
  | .list xs => decide (xs.length ≤ 1000) && smallAll xs
  | .tuple xs => decide (xs.length ≤ 1000) && smallAll xs
  | .str x => decide (x.length ≤ 1000)
  | _ => true
def smallAll : List PyData → Bool
  | [] => true
  | d :: ds => small d && smallAll ds
end
theorem smallAll_mem : ∀ {ds : List PyData} {d : PyData}, smallAll ds = true → d ∈ ds → small d = true
  | [], _, _, h => nomatch h
  | c :: ds, d, s, h => by
    have s' : (small c && smallAll ds) = true := by simpa only [smallAll] using s
    obtain ⟨s1, s2⟩ := Bool.and_eq_true_iff.mp s'
    rcases List.mem_cons.mp h with rfl | h
    · exact s1
    · exact smallAll_mem s2 h
theorem small_tuple {ds : List PyData} (s : small (.tuple ds) = true) : ds.length ≤ 1000 ∧ smallAll ds = true := by
  have s' : (decide (ds.length ≤ 1000) && smallAll ds) = true := by simpa only [small] using s
  obtain ⟨s1, s2⟩ := Bool.and_eq_true_iff.mp s'
  exact ⟨of_decide_eq_true s1, s2⟩
theorem small_str {x : Str} (s : small (.str x) = true) : x.length ≤ 1000 := by
  have s' : decide (x.length ≤ 1000) = true := by simpa only [small] using s
  exact of_decide_eq_true s'

section
variable {K : PySem.W.Frag} {σ : L2.St} {H H' : Hp} {te : TE} {t : TT} {x y z v : V}
theorem et_yes : EvT tYes σ H true := fun H1 e Q q => q H1 (Ex.refl H1)
theorem given_all {n : Nat} {v : Nat → V} : given n (fun _ => true) v = (List.range n).map v := by
  unfold given
  rw [List.filter_eq_self.mpr (fun _ _ => rfl)]
/-- over a tuple -/
theorem el_lcT {a : Addr} {xs : List V} {tl : TE} {j : Nat} {vs : List Nat} (f : Nat → Bool) (v : Nat → V) (h : Ev tl σ H (.ref a)) (hx : SqT K H a xs) (hz : xs.length ≤ 40000)
    (hw : ∀ x, wipe ((wipe σ vs).set j (some x)) vs = wipe σ vs)
    (ht : ∀ (i : Nat) (x : V) H1, Ex H H1 → xs[i]? = some x → EvT t ((wipe σ vs).set j (some x)) H1 (f i))
    (he : ∀ (i : Nat) (x : V) H1, Ex H H1 → xs[i]? = some x → f i = true → Ev te ((wipe σ vs).set j (some x)) H1 (v i)) :
    EvL (tLc (iTup K tl) (gName j) t te vs) σ H (given xs.length f v) := by
  intro H0 e Q q
  refine h H0 e _ fun H1 e1 => ⟨a, rfl, ⟨xs, ex_t (e.trans e1) hx⟩, fun Dl hD => ?_⟩
  refine lc_tup (xs := xs) (Cw H1 f v Dl) ⟨hD, Ex.new hD, upd_same⟩ (fun i H' _ p => ex_t ((e.trans e1).trans p.2.1) hx) ?_ fun H' p => q Dl H' (fresh_back e1 p.1) (e1.trans p.2.1) p.2.2
  intro i x H' hi p
  have hl := (List.getElem?_eq_some_iff.mp hi).1
  exact ⟨hw x, cw_turn p (by omega) (ht i x H1 (e.trans e1) hi) (he i x H1 (e.trans e1) hi)⟩
/-- over a text -/
theorem el_lcS {w : Str} {tl : TE} {j : Nat} {vs : List Nat} (f : Nat → Bool) (v : Nat → V) (h : Ev tl σ H (.str w)) (hz : w.cps.size ≤ 40000)
    (hw : ∀ x, wipe ((wipe σ vs).set j (some x)) vs = wipe σ vs)
    (ht : ∀ (i : Nat) (c : Nat) H1, Ex H H1 → w.cps[i]? = some c → EvT t ((wipe σ vs).set j (some (.str ⟨#[c]⟩))) H1 (f i))
    (he : ∀ (i : Nat) (c : Nat) H1, Ex H H1 → w.cps[i]? = some c → f i = true → Ev te ((wipe σ vs).set j (some (.str ⟨#[c]⟩))) H1 (v i)) :
    EvL (tLc (iStr tl) (gName j) t te vs) σ H (given w.cps.size f v) := by
  intro H0 e Q q
  refine h H0 e _ fun H1 e1 => ⟨w, rfl, fun Dl hD => ?_⟩
  refine lc_it walk_str (Cw H1 f v Dl) ⟨hD, Ex.new hD, upd_same⟩ (fun _ _ _ _ => trivial) ?_ fun H' p => q Dl H' (fresh_back e1 p.1) (e1.trans p.2.1) p.2.2
  rintro i x H' H'' hi p ⟨rfl, c, hc, rfl⟩
  exact ⟨hw _, cw_turn p (by omega) (ht i c H1 (e.trans e1) hc) (he i c H1 (e.trans e1) hc)⟩
/-- over range(n), n perhaps below nought -/
theorem el_lcR1' {ta : TA} {j : Nat} {vs : List Nat} {n : Int} (f : Nat → Bool) (v : Nat → V) (h : EvA ta σ H [.int n]) (hn : -40000 ≤ n ∧ n ≤ 40000) (hw : ∀ x, wipe ((wipe σ vs).set j (some x)) vs = wipe σ vs)
    (ht : ∀ (i : Nat) H1, Ex H H1 → (i : Int) < n → EvT t ((wipe σ vs).set j (some (.int (i : Int)))) H1 (f i))
    (he : ∀ (i : Nat) H1, Ex H H1 → (i : Int) < n → f i = true → Ev te ((wipe σ vs).set j (some (.int (i : Int)))) H1 (v i)) :
    EvL (tLc (iRng1 ta) (gName j) t te vs) σ H (given n.toNat f v) := by
  intro H0 e Q q
  refine h H0 e _ fun H1 e1 => ⟨n, rfl, by omega, by omega, fun Dl hD => ?_⟩
  refine lc_range (lo := 0) (n := n.toNat) (Cw H1 f v Dl) ⟨hD, Ex.new hD, upd_same⟩ ?_ fun H' p => q Dl H' (fresh_back e1 p.1) (e1.trans p.2.1) p.2.2
  intro i H' hi p
  have e0 : (0 : Int) + (i : Int) = (i : Int) := Int.zero_add _
  rw [e0]
  exact ⟨hw _, cw_turn p (by omega) (ht i H1 (e.trans e1) (by omega)) (he i H1 (e.trans e1) (by omega))⟩
theorem ev_all {bs : List Bool} (h : EvL te σ H (bs.map V.bl)) : Ev (tCB (rAll K) (tCons te tNil)) σ H (.bl (bs.all id)) := by
  intro H1 e Q q
  refine h H1 e _ fun p H2 _ e2 hp => ?_
  exact ⟨p, bs, rfl, sq_of hp, q H2 e2⟩
/-- a op1 b op2 c, values; b once -/
theorem ev_chain {r r' : R2} {ta tb tc : TE} {p q : Bool} (ha : Ev ta σ H x) (hb : Ev tb σ H y) (hc : p = true → Ev tc σ H z) (h1 : RV r x y H (.bl p)) (h2 : p = true → RV r' y z H (.bl q)) :
    Ev (tChain r r' ta tb tc) σ H (.bl (p && q)) := by
  intro H1 e Q k
  refine ha H1 e _ fun H2 e2 => hb H2 (e.trans e2) _ fun H3 e3 => h1 H3 ((e.trans e2).trans e3) _ fun H4 e4 => ⟨p, rfl, ?_⟩
  have e14 := (e2.trans e3).trans e4
  cases p with
  | true => exact iteT (hc rfl H4 (e.trans e14) _ fun H5 e5 => h2 rfl H5 ((e.trans e14).trans e5) Q fun H6 e6 => k H6 ((e14.trans e5).trans e6))
  | false => exact iteF (k H4 e14)
/-- len -/
theorem ev_lenT {a : Addr} {xs : List V} (h : Ev te σ H (.ref a)) (hx : SqT K H a xs) : Ev (tCB (fun vs H Q => ∃ x n, vs = [x] ∧ LenV K x H n ∧ Q (.int n) H) (tCons te tNil)) σ H (.int xs.length) := by
  intro H1 e Q q
  refine h H1 e _ fun H2 e2 => ⟨_, xs.length, rfl, Or.inr ⟨xs, ex_t (e.trans e2) hx, rfl⟩, q H2 e2⟩
theorem ev_lenS {w : Str} (h : Ev te σ H (.str w)) (hz : w.length ≤ 1000) : Ev (tCB (fun vs H Q => ∃ x n, vs = [x] ∧ LenV K x H n ∧ Q (.int n) H) (tCons te tNil)) σ H (.int w.length) := by
  intro H1 e Q q
  exact h H1 e _ fun H2 e2 => ⟨_, w.length, rfl, ⟨Nat.le_of_lt (small1000 hz), rfl⟩, q H2 e2⟩
end
section
variable {X : Cx}
/-! rules that read the written part, for a block (its K is the def's) -/
theorem ix_tupK (K : PySem.W.Frag) (h : X.K = K := by rfl) : IxR X (rIxT K) := h ▸ ix_tup
theorem ix_listK (K : PySem.W.Frag) (h : X.K = K := by rfl) : IxR X (rIxL K) := h ▸ ix_list
theorem call_isiAt (K : PySem.W.Frag) (h : X.K = K := by rfl) : CallR X (.builtin "isinstance") (rIsi K) := h ▸ call_isi
theorem pg_tupK (K : PySem.W.Frag) {es : List Expr} {k : Nat} {pos : Pos} {t : TGs} {n : Nat} (hc : X.calm = true) (hh : PGs X es t)
    (hn : (assignEach es X.env).length = n := by rfl) (hst : (assignEach es X.env).findIdx? (·.1) = none := by rfl) (h : X.K = K := by rfl) : PG X (.Tuple es k pos) (gTup K n t) := h ▸ pg_tup hc hh hn hst
theorem op_inK (K : PySem.W.Frag) (h : X.K = K := by rfl) : OpR X (compareOp .In) (rIn K false) := h ▸ op_in_seq
theorem op_ninK (K : PySem.W.Frag) (h : X.K = K := by rfl) : OpR X (compareOp .NotIn) (rIn K true) := h ▸ op_notIn_seq
end
end Hg

/-! error classes of the program that stand, over further ones of its own, upon Exception, and keep what they are given -/
namespace Hx
open PySem L2 PySem.W PySem.Builtin PySem.Builtin.ObjectAttr
/-- what comes last of such a class -/
abbrev exLast : List Value := [.type "Exception", .type "BaseException", .type "object"]
/-- an error class at C whose own `__init__` is the def at f -/
structure Err (K : PySem.W.Frag) (C f : Addr) : Prop where
  made : PySem.W.excInitIn K C exLast "Exception.__new__" = true
  over : PySem.W.excOver K C exLast = true
  dict : PySem.W.hasDictIn K C = true
  put : PySem.W.findIn K (.ref C) "__setattr__" = some (some (.builtin "object.__setattr__"))
  base : PySem.W.subIn K (.ref C) (.type "BaseException") = some true
  type : PySem.W.typeIn K (.ref C) = some (.type "type")
  keep : PySem.W.keepIn K (.ref C) = true
  init : PySem.W.findIn K (.ref C) "__init__" = some (some (.ref f))
  fn : PySem.W.typeIn K (.ref f) = some (.type "function")
section
variable {prog : Program} {w : World} {A : Around} {E : Value → Shared → Prop} {K : PySem.W.Frag} {hp : Heap} {g : Array GenState} {d : Drawn} {t : Nat} {os : OsState} {a C : Addr} {name : Str} {tk : Tok} {v : Value} {fv : Array Value} {b : Bool} {Q : Fin → Shared → Prop}
/-- the store into an object that has no dict as yet: it gets one -/
theorem store_first (X : K.In hp) (hd : PySem.W.hasDictIn K C = true) (ho : hp.get? a = some { cls := .ref C, data := .fields fv })
    (go : ∀ h' tk', (∀ c o, c ≠ a → hp.get? c = some o → h'.get? c = some o) → h'.get? a = some { cls := .ref C, dict := some hp.objs.size, data := .fields fv } → h'.Ns1 hp.objs.size (fun y => if y = name then some v else none) → Q (.done (.ret .none)) ⟨h', g, d, tk', os⟩) :
    wpAny (model prog w) A (storeInOwnDict (.ref a) (.ref C) (.str name tk) name v b) Q E ⟨hp, g, d, t, os⟩ := by
  have ne : hp.objs.size ≠ a := Nat.ne_of_gt (Heap.lt_size ho)
  obtain ⟨cd, hc, has⟩ := any_some hd
  have look : PySem.W.Looks (model prog w) hp (classData C) cd := looks_clsIn X hc
  obtain ⟨c1, c2, c3, c4, c5, c6, c7, c8, c9, c10, c11⟩ := cd
  have has : c6 = true := has
  subst has
  unfold storeInOwnDict ownDictForStores
  repeat (first | with_reducible refine HandSPX.store_in_new ?_ ?_ | with_reducible refine wpAny_loadPart_at ho ?_ | with_reducible refine look.at ?_ | wp_step)
  · refine ⟨_, #[], _, (Heap.get?_update_ne _ _ _ _ ne).trans (Heap.get?_push_at rfl rfl), rfl, ?_, fun _ => rfl⟩
    intro e he
    exact absurd he (by simp)
  · intro h' tk' ns same
    have old := Heap.get?_push_of_some { cls := .type "dict", data := .dict #[] } ho
    refine go h' tk' (fun c o hca hco => ?_) ((same.2 a ne.symm).trans (Heap.get?_update_self _ old rfl)) ns
    rw [same.2 c (Nat.ne_of_lt (Heap.lt_size hco)), Heap.get?_update_ne _ _ _ _ hca]
    exact Heap.get?_push_of_some _ hco
end
section
open PySem.Spec PyProof.Rows
variable {X : Cx} {pins : List (Addr × Obj)} {σ : L2.St} {H : Hp} {a C f₀ : Addr}
/-- an error gets its dict -/
theorem grown {hp h' : Heap} {g : Array GenState} {d : Drawn} {t t' : Nat} {os : OsState} {fs : List (Str × V)} {m : Str → Option Value} {u : Addr} (I : Inv X pins σ H ⟨hp, g, d, t, os⟩) (e : H a = some (exo a C none))
    (k : ∀ c o, c ≠ a → hp.get? c = some o → h'.get? c = some o) (ha : h'.get? a = some ({ cls := .ref C, dict := some hp.objs.size, data := .fields #[.ref u, .none, .none, .none, .bool false, .none] } : Obj)) (ns : h'.Ns1 hp.objs.size m)
    (r : ∀ z, RelO (fs.lookup z) (m z)) : Inv X pins σ (upd (upd H hp.objs.size (exd hp.objs.size fs)) a (exo a C (some hp.objs.size))) ⟨h', g, d, t', os⟩ := by
  have nD : H hp.objs.size = none := I.hok.fresh (Nat.le_refl _)
  have off : ∀ {c : Addr} {o : HO}, H c = some o → o ≠ exo a C none → c ≠ a ∧ c ≠ hp.objs.size := by
    intro c o hc ne
    constructor <;> intro z <;> subst z
    · rw [e] at hc; exact ne (Option.some.inj hc).symm
    · rw [nD] at hc; cases hc
  have un0 : ∀ {c : Addr}, H c = none → c ≠ a := by
    intro c hc z
    rw [z, e] at hc; cases hc
  have old : ∀ {c : Addr} {o : HO}, H c = some o → o ≠ exo a C none → (upd (upd H hp.objs.size (exd hp.objs.size fs)) a (exo a C (some hp.objs.size))) c = some o := by
    intro c o hc ne
    obtain ⟨z1, z2⟩ := off hc ne
    rw [upd_ne z1, upd_ne z2, hc]
  have older : ∀ {c : Addr} {o : Obj}, hp.get? c = some o → c ≠ hp.objs.size := fun hc => Nat.ne_of_lt (Heap.lt_size hc)
  refine I.un (t' := t') ⟨fun c o hc n _ _ => k c o (un0 n) hc, fun c o hc n _ _ => ⟨o.slots, k c o (un0 n) hc⟩, fun c o hc n _ => ?_, fun c o hc _ => ?_, fun c xs hc => old hc exo_tup.symm, fun c o v hc => old hc exo_frz.symm, fun c ps hc => ⟨#[], ?_⟩⟩ ?_
  · rw [upd_ne (un0 n), upd_ne (older hc)]; exact n
  · by_cases z : c = a
    · subst z; exact ⟨_, ha⟩
    · exact ⟨o, k c o z hc⟩
  · rw [old hc exo_tbl.symm, Array.append_empty]
  · intro c o hc
    by_cases z1 : c = a
    · subst z1
      rw [upd_same] at hc; cases hc
      exact exo_ok ha
    rw [upd_ne z1] at hc
    by_cases z2 : c = hp.objs.size
    · subst z2
      rw [upd_same] at hc; cases hc
      exact exd_ok ns r
    rw [upd_ne z2] at hc
    refine (I.hok c o hc).stay (fun y v hy hv => k y v ?_ hv) (fun y hy => old hy exo_own.symm) (fun y xs hy => old hy exo_tup.symm)
    rcases hy with hy | hy
    · rw [hy]; exact z1
    · exact (off hy exo_own.symm).1
/-- `self.part = part` -/
theorem put_ok {s : Shared} {A : Around} {E : Value → Shared → Prop} {name : Str} {y : V} {u : Value} {Q : Unit → Shared → Prop} (T : Err X.K C f₀) (no : PySem.W.takerIn X.K C name = some none) (I : Inv X pins σ H s) (e : H a = some (exo a C none)) (ry : RelV y u)
    (go : ∀ D s', H D = none → D ≠ a → Inv X pins σ (upd (upd H D (exd D [(name, y)])) a (exo a C (some D))) s' → Q () s') : wpAny (model X.prog X.w) A (setAttr (.ref a) name u) Q E s := by
  obtain ⟨hp, g, d, t, os⟩ := s
  obtain ⟨t0, ho⟩ := exo_at I.hok e
  have ho : hp.get? a = some ({ cls := .ref C, dict := none, data := .fields #[.ref t0, .none, .none, .none, .bool false, .none] } : Obj) := ho
  have at_ : PySem.W.InstAt hp a { cls := .ref C, dict := none, data := .fields #[.ref t0, .none, .none, .none, .bool false, .none] } C none := ⟨ho, rfl, rfl, trivial⟩
  refine set_plain I.kIn at_ T.put (osa_openX PySem.F.store_Exception I.kIn at_ T.over no fun b => ?_)
  refine store_first I.kIn T.dict ho fun h' tk' k ha ns => ?_
  exact go hp.objs.size _ (I.hok.fresh (Nat.le_refl _)) (Nat.ne_of_gt (Heap.lt_size ho)) (grown I e k ha ns fun z => relO_put (fs := []) (mA := fun _ => none) ry (fun _ => True.intro) z)
end
section
open PySem.Spec PyProof.Rows
variable {X : Cx} {C f₀ : Addr} {name x : Str} {o e : Expr} {es : List Expr} {to te : TE} {ta : TA} {p p' pos pos' : Pos}
/-- what is read of `o.name = e`, `o` an error that has nothing as yet -/
def tPut (K : PySem.W.Frag) (name : Str) (to te : TE) : TS := fun D σ H => te σ H fun y H1 => to σ H1 fun z H2 => ∃ a C f : Addr, z = .ref a ∧ Err K C f ∧ PySem.W.takerIn K C name = some none ∧ H2 a = some (exo a C none) ∧
  ∀ d, H2 d = none → d ≠ a → D.nx σ (upd (upd H2 d (exd d [(name, y)])) a (exo a C (some d)))
theorem ps_put (ho : PE X o to) (he : PE X e te) (hs : swapsWith e (some (.Attribute o name p')) pos.line X.env = pure false := by rfl) : PS X (.Assign [.Attribute o name p'] e pos) (tPut X.K name to te) := by
  refine ⟨fun pins s σ H D I h => plainObj_wpAny_Assign_Attribute (thn (he.run pins s σ H _ I h) ?_) hs⟩
  intro u s1 hy
  obtain ⟨y, H1, I1, ry, hy⟩ := hy
  refine thn (ho.run pins s1 σ H1 _ I1 hy) ?_
  intro v s2 hz
  obtain ⟨z, H2, I2, rz, a, C, f, ez, T, no, ea, k⟩ := hz
  subst ez
  cases rz
  exact put_ok T no I2 ea ry fun d s' n1 n2 J => ⟨σ, _, J, k d n1 n2⟩
/-- what an `__init__` that keeps its one argument promises -/
def spKeep (K : PySem.W.Frag) (name : Str) : Sp := fun vs H Q _ => ∃ (a C f : Addr) (y : V), vs = [.ref a, y] ∧ Err K C f ∧ PySem.W.takerIn K C name = some none ∧ H a = some (exo a C none) ∧
  ∀ d, H d = none → d ≠ a → Q .non (upd (upd H d (exd d [(name, y)])) a (exo a C (some d)))
/-- an error made: its own `__init__` keeps the promise sp -/
theorem run_err {CX : CXT} {k : Nat} {fd : FuncData} {ps : List Str} {sp : Sp} {pins : List (Addr × Obj)} {σ : L2.St} {H1 : Hp} {s1 : Shared} {vs : List V} {us : List Value} {Q : XK} (T : Err X.K C f₀)
    (F : FnOk X.prog X.w X.K X.mg X.base CX k f₀ fd ps sp) (hr : Room (k + 1) X.A) (hb : Binds X.K fd ps []) (hx : Passes CX X (fun _ _ _ => False)) (I1 : Inv X pins σ H1 s1) (rv : Vals vs us) (few : vs.length ≤ 1000)
    (ask : ∀ a, H1 a = none → sp (.ref a :: vs) (upd H1 a (exo a C none)) (fun v H2 => v = .non ∧ ∃ (d : Addr) (fs : List (Str × V)), H2 a = some (exo a C (some d)) ∧ H2 d = some (exd d fs) ∧ H1 d = none ∧ Q (.ref C) (some d) (upd (del H2 a) d (.xd fs))) (fun _ _ _ => False)) :
    wpAny (model X.prog X.w) X.A (call (.ref C) us) (MkP X pins σ Q) X.xe s1 := by
  obtain ⟨nm, N, qn, bs, bm, c1, c2, c3, c4, c5, c6, k0, k1, k2, k3, k5, oC, tl⟩ := excInit_of I1.kIn T.made
  obtain ⟨hp, g, dr, tk, os⟩ := s1
  have hsz : hp.objs.size ≤ hp.objs.size + 1 := Nat.le_succ _
  have free : H1 (hp.objs.size + 1) = none := I1.hok.fresh hsz
  have keep2 : ∀ b o, hp.get? b = some o → ((hp.push (PySem.W.kdv_tup us)).push (HandSPX.excO C hp.objs.size)).get? b = some o :=
    fun b o z => Heap.get?_push_of_some _ (Heap.get?_push_of_some _ z)
  have here : ((hp.push (PySem.W.kdv_tup us)).push (HandSPX.excO C hp.objs.size)).get? (hp.objs.size + 1) = some (HandSPX.excO C hp.objs.size) := by heap_get
  have I2 : Inv X pins σ (upd H1 (hp.objs.size + 1) (exo (hp.objs.size + 1) C none)) ⟨(hp.push (PySem.W.kdv_tup us)).push (HandSPX.excO C hp.objs.size), g, dr, tk, os⟩ := I1.laid (t' := tk) keep2 hsz (exo_ok here)
  have fits : us.length ≤ sizeLine := by
    have := Paired.length rv
    rw [sizeLine_eq]; omega
  have q0 := ask (hp.objs.size + 1) free
  have r2 : Vals (V.ref (hp.objs.size + 1) :: vs) (Value.ref (hp.objs.size + 1) :: us) := .cons rfl rv
  have len : (Value.ref (hp.objs.size + 1) :: us).length = ps.length := r2.length.symm.trans (F.len _ _ _ _ q0)
  have bound := hb ⟨(hp.push (PySem.W.kdv_tup us)).push (HandSPX.excO C hp.objs.size), g, dr, tk, os⟩ (Value.ref (hp.objs.size + 1) :: us) I2.kIn (by rw [List.append_nil]; exact len)
  rw [List.append_nil] at bound
  refine wpAny_call (HandSPX.call_own PySem.F.excBase_Exception tl oC (looks_findIn I1.kIn T.init) (fun self => bind_fn I1.kIn self T.fn) fits ?_)
  refine codeAny_mono (F.run _ X.stack _ _ ⟨Value.ref (hp.objs.size + 1) :: us, []⟩ (Value.ref (hp.objs.size + 1) :: us) _ _ (fun _ _ _ => False) (hr.make C us []) (I2.env0.make C us []) bound r2 q0) ?_
  intro r s' out
  cases r with
  | error er => exact hx pins σ _ _ er s' I2 out
  | ok fl =>
    cases fl with
    | ret u =>
      obtain ⟨v, H2, oseq, bare, un, ok2, rr, ev, d, fs, e1, e2, e3, q3⟩ := out
      subst ev
      obtain ⟨h2, g2, d2, t2, o2⟩ := s'
      exact ⟨rr, mk_end (raises_own T.base T.type) I1 hsz keep2 un ok2 oseq bare e1 e2 e3 q3⟩
    | next => exact False.elim out
    | brk => exact False.elim out
    | cont => exact False.elim out
theorem del_back {H : Hp} {a d : Addr} {u v w z : HO} (n : H a = none) (ne : d ≠ a) : upd (del (upd (upd (upd H a u) d v) a w) a) d z = upd H d z := by
  funext c
  by_cases e1 : c = d
  · rw [e1, upd_same, upd_same]
  · rw [upd_ne e1, upd_ne e1]
    by_cases e2 : c = a
    · rw [e2, del_same, n]
    · rw [del_ne e2, upd_ne e2, upd_ne e1, upd_ne e2]
/-- C(e), to be raised: it keeps e under a name -/
theorem mk_keep {CX : CXT} {k : Nat} {fd : FuncData} {ps : List Str} (T : Err X.K C f₀) (no : PySem.W.takerIn X.K C name = some none) (F : FnOk X.prog X.w X.K X.mg X.base CX k f₀ fd ps (spKeep X.K name)) (hr : Room (k + 1) X.A) (hb : Binds X.K fd ps [])
    (hx : Passes CX X (fun _ _ _ => False)) (hg : Gl X x) (hm : X.mg x = some (.ref C)) (he : PE X e te) (hdb : (x == ("__debug__" : Str)) = false := by decide) (hst : starEach [e] X.env = (false, eval e X.env) :: starEach [] X.env := by rfl)
    (hpl : (backTo pos (starEach [] X.env)).any (·.1) = false := by rfl) :
    PMk X (.Call (.Name x p) [e] [] pos) (fun σ H Q => te σ H fun y H1 => ∀ d, H1 d = none → Q (.ref C) (some d) (upd H1 d (.xd [(name, y)]))) := by
  intro pins s σ H Q I h
  refine wpAny_Call_Name_kw (ld_glob I hg hm ?_ hdb)
  refine PySem.W.callWith_K (h₀ := X.base) I.ok.mod.kin T.keep (thn ((pa_cons (hs := hst) he pa_nil).run pos pins s σ H (fun vs H1 => match vs with | [y] => ∀ d, H1 d = none → Q (.ref C) (some d) (upd H1 d (.xd [(name, y)])) | _ => False) I h) ?_) hst hpl
  intro us s1 got
  obtain ⟨vs, H1, I1, rv, ask⟩ := got
  refine ⟨I1.kIn, ?_⟩
  match vs, ask with
  | [y], ask =>
    refine run_err T F hr hb hx I1 rv (by show 1 ≤ 1000; omega) fun a free => ⟨a, C, f₀, y, rfl, T, no, upd_same, fun d hd ne => ⟨rfl, d, [(name, y)], upd_same, ?_, ?_, ?_⟩⟩
    · rw [upd_ne ne, upd_same]
    · rwa [upd_ne ne] at hd
    · rw [del_back free ne]
      rw [upd_ne ne] at hd
      exact ask d hd
/-- `raise C(e)` -/
theorem ps_err {CX : CXT} {k : Nat} {fd : FuncData} {W : WX} {ps : List Str} (hc : X.calm = true) (tk : Takes X W) (T : Err X.K C f₀) (no : PySem.W.takerIn X.K C name = some none) (F : FnOk X.prog X.w X.K X.mg X.base CX k f₀ fd ps (spKeep X.K name)) (hr : Room (k + 1) X.A)
    (hb : Binds X.K fd ps []) (hx : Passes CX X (fun _ _ _ => False)) (hg : Gl X x) (hm : X.mg x = some (.ref C)) (he : PE X e te) (hdb : (x == ("__debug__" : Str)) = false := by decide) (hst : starEach [e] X.env = (false, eval e X.env) :: starEach [] X.env := by rfl)
    (hpl : (backTo pos (starEach [] X.env)).any (·.1) = false := by rfl) :
    PS X (.Raise (some (.Call (.Name x p) [e] [] pos)) none pos') (fun _ σ H => te σ H fun y H1 => ∀ d, H1 d = none → W (.ref C) (some d) σ (upd H1 d (.xd [(name, y)]))) :=
  ps_raise (pos := pos') hc tk (mk_keep T no F hr hb hx hg hm he hdb hst hpl)
end
end Hx

/-! own error classes made by keywords: BaseException.__new__ leaves the keywords alone, the own `__init__` takes them -/
namespace Hx
open PySem PySem.HandSPX
open PySem.W (Looks InitBack)
section
variable {M : Model} {prog : Program} {w : World} {A : Around} {E : Value → Shared → Prop} {R : Result → Shared → Prop} {h : Heap} {g : Array GenState} {d : Drawn} {t : Nat} {os : OsState}
variable {nm q : Str} {C N : Addr} {bs bm bmB : List Value} {hdct : Bool} {sn : List Str} {sub : List Value} {ab : Bool} {col : Option Bool} {dd : Option Addr} {k0 k1 k2 k3 k5 : Option Value} {B newId initId : String}
theorem kw_check (F : ExcBaseFacts B newId initId bmB) (hT : ∀ X : String, bm.contains (.type X) = bmB.contains (.type X)) {rest : List Value} {kw : List (Str × Value)} {Q : Unit → Shared → Prop}
    (hC : h.get? C = some (excClassObj nm q C N bs bm hdct sn sub ab col dd k0 k1 k2 k3 k5 newId)) (hq : Q () ⟨h, g, d, t, os⟩) : wpAny M A (checkBuiltinCall newId ⟨.ref C :: rest, kw⟩) Q E ⟨h, g, d, t, os⟩ := by
  have c1 : (Value.ref C :: bm).contains (.type B) = true := by rw [List.contains_cons, hT, F.hasB, Bool.or_true]
  have c2 := F.noStar
  simp only [checkBuiltinCall, F.newKind, F.newSplit, F.newRow]
  repeat (first | refine wpAny_loadPart_at hC ?_ | (refine wpAny_isSubtype_exc hC ?_; rw [c1]) | refine wpAny_staticBase_exc hC ?_ | refine wpAny_madeBy_exc hC ?_ | simp only [bne_self_eq_false, Bool.false_eq_true, if_false] | wp_step)
  exact hq
theorem kw_new (F : ExcBaseFacts B newId initId bmB) (hT : ∀ X : String, bm.contains (.type X) = bmB.contains (.type X)) {rest : List Value} {kw : List (Str × Value)}
    (hC : h.get? C = some (excClassObj nm q C N bs bm hdct sn sub ab col dd k0 k1 k2 k3 k5 newId)) (hr : rest.length ≤ sizeLine)
    (hq : R (.ok (.ret (.ref (h.objs.size + 1)))) ⟨(h.push (PySem.W.kdv_tup rest)).push (excO C h.objs.size), g, d, t, os⟩) :
    codeAny (model prog w) A (.builtin newId ⟨.ref C :: rest, kw⟩) R ⟨h, g, d, t, os⟩ := by
  have e0 := F.ends
  have e1 : (Value.ref C :: bm).contains (.type B) = true := by rw [List.contains_cons, hT, F.hasB, Bool.or_true]
  have e2 : (Value.ref C :: bm).contains (.type "AttributeError") = false := by rw [List.contains_cons, hT, F.noAttr]; rfl
  have e3 : (Value.ref C :: bm).contains (.type "NameError") = false := by rw [List.contains_cons, hT, F.noName]; rfl
  refine codeAny_builtinAt F.entry ?_
  unfold Builtin.«BaseException.__new__»
  refine wpAt_bind ?_
  show wpAt _ _ _ (stack >>= _) _ _ _
  refine wpAt_bind (wpAt_stack fun p below => wpAt_of_wpAny ?_)
  wp_walk
  refine wpAt_of_wpAny ?_
  rw [F.owner]
  repeat (first | with_reducible refine wpAny_madeHere_exc F.canon hC ?_ | with_reducible refine wpAny_loadPart_at hC ?_ | (with_reducible refine wpAny_isSubtype_exc hC ?_; first | rw [e1] | rw [e2] | rw [e3]) | wp_step)
  show R _ _
  rw [Heap.size_push]
  exact hq
theorem kw_type (F : ExcBaseFacts B newId initId bmB) (hT : ∀ X : String, bm.contains (.type X) = bmB.contains (.type X)) {rest : List Value} {kw : List (Str × Value)} {fI : Addr} {Q : PySem.Fin → Shared → Prop}
    (hC : h.get? C = some (excClassObj nm q C N bs bm hdct sn sub ab col dd k0 k1 k2 k3 k5 newId)) (hi : Looks (model prog w) h (typeLookup (.ref C) "__init__") (some (.ref fI))) (hb : ∀ self, Looks (model prog w) h (bindSpecial (.ref fI) self) (.ref fI, [self]))
    (hr : rest.length ≤ sizeLine)
    (hq : codeAny (model prog w) A (.call (.ref fI) ⟨.ref (h.objs.size + 1) :: rest, kw⟩) (fun r s' => match r with | .ok (.ret v) => v = .none ∧ Q (.done (.ret (.ref (h.objs.size + 1)))) s' | .ok _ => False | .error e => E e s')
      ⟨(h.push (PySem.W.kdv_tup rest)).push (excO C h.objs.size), g, d, t, os⟩) :
    wpAny (model prog w) A (Builtin.«type.__call__» ⟨.ref C :: rest, kw⟩) Q E ⟨h, g, d, t, os⟩ := by
  repeat (first | with_reducible refine wpAny_loadPart_at hC ?_ | with_reducible refine wpAny_madeBy_exc hC ?_ | wp_step)
  refine codeAny_call_builtin_code (Code.quiet_builtin _ F.quiet) (kw_check F hT hC ?_)
  refine kw_new F hT hC hr ?_
  show wpAny _ _ _ _ _ _
  have k : ∀ b o, h.get? b = some o → ((h.push (PySem.W.kdv_tup rest)).push (excO C h.objs.size)).get? b = some o := fun b o e => Heap.get?_push_of_some _ (Heap.get?_push_of_some _ e)
  have hC1 := k _ _ hC
  have hge : ((h.push (PySem.W.kdv_tup rest)).push (excO C h.objs.size)).get? (h.objs.size + 1) = some (excO C h.objs.size) := by heap_get
  have hcC : (Value.ref C :: bm).contains (.ref C) = true := by simp
  have i1 := hi.keeps k
  have b1 := (hb (.ref (h.objs.size + 1))).keeps k
  unfold isInstance
  repeat (first | with_reducible refine wpAny_loadPart_at hge ?_ | (with_reducible refine wpAny_isSubtype_exc hC1 ?_; rw [hcC]) | wp_step)
  show wpAny _ _ (typeLookup (.ref C) _) _ _ _
  refine i1.at ?_
  refine wpAny_holding (wpAny_bind (b1.at ?_))
  refine wpAny_bind (wpAny_call (codeAny_mono hq fun r s' z => ?_))
  rcases r with e | (v | _ | _ | _) <;> first | exact z | exact z.elim | skip
  obtain ⟨rfl, z⟩ := z
  first
    | exact wpAny_pure (wpAny_pure z)
    | (wp_walk; exact z)
theorem kw_check_type {rest : List Value} {kw : List (Str × Value)} {Q : Unit → Shared → Prop} (hC : h.get? C = some (excClassObj nm q C N bs bm hdct sn sub ab col dd k0 k1 k2 k3 k5 newId)) (hq : Q () ⟨h, g, d, t, os⟩) :
    wpAny M A (checkBuiltinCall "type.__call__" ⟨.ref C :: rest, kw⟩) Q E ⟨h, g, d, t, os⟩ := by
  exact wpAny_check_type_call_sub hC hq
/-- C(.., k = v, ..) -/
theorem kw_call (F : ExcBaseFacts B newId initId bmB) (hT : ∀ X : String, bm.contains (.type X) = bmB.contains (.type X)) {rest : List Value} {kw : List (Str × Value)} {fI : Addr}
    (hC : h.get? C = some (excClassObj nm q C N bs bm hdct sn sub ab col dd k0 k1 k2 k3 k5 newId)) (hi : Looks (model prog w) h (typeLookup (.ref C) "__init__") (some (.ref fI))) (hb : ∀ self, Looks (model prog w) h (bindSpecial (.ref fI) self) (.ref fI, [self]))
    (hr : rest.length ≤ sizeLine)
    (hq : codeAny (model prog w) (A.under (.builtin "type.__call__" ⟨.ref C :: rest, kw⟩)) (.call (.ref fI) ⟨.ref (h.objs.size + 1) :: rest, kw⟩) (InitBack (h.objs.size + 1) R) ⟨(h.push (PySem.W.kdv_tup rest)).push (excO C h.objs.size), g, d, t, os⟩) :
    codeAny (model prog w) A (.call (.ref C) ⟨rest, kw⟩) R ⟨h, g, d, t, os⟩ := by
  have f1 := tc_lookup
  have f2 := tc_bind (.ref C)
  have hTy : (⟨h, g, d, t, os⟩ : Shared).TypeIs (.ref C) "type" := ⟨_, hC, rfl⟩
  refine codeAny_of_tree ?_
  show wpAny _ _ (callAny (.ref C) _) _ _ _
  repeat (any_goals (first | assumption | with_reducible refine wpAny_loadPart_at hC ?_ | wp_step))
  refine ⟨rfl, ?_⟩
  refine codeAny_call_builtin_at (Code.quiet_builtin _ (by decide +kernel)) entry_typeCall (kw_check_type hC (kw_type F hT hC hi hb hr ?_))
  refine codeAny_mono hq fun r s' z => ?_
  rcases r with e | (v | _ | _ | _) <;> exact z
end
end Hx

/-! errors of own classes as values: C(e), C(k = e), C() -/
namespace Hx
open PySem L2 PySem.W PySem.Builtin PySem.Builtin.ObjectAttr
section
open PySem.Spec PyProof.Rows
variable {X : Cx} {C f₀ : Addr} {name x : Str} {o e : Expr} {es : List Expr} {to te : TE} {ta : TA} {p p' pos pos' kpos : Pos} {kws : List Keyword}
/-- an error made, and held -/
theorem run_val {CX : CXT} {k : Nat} {fd : FuncData} {ps : List Str} {sp : Sp} {pins : List (Addr × Obj)} {σ : L2.St} {H1 : Hp} {s1 : Shared} {vs : List V} {us zs : List Value} {kw : List (Str × Value)} {Q : VK} (T : Err X.K C f₀)
    (F : FnOk X.prog X.w X.K X.mg X.base CX k f₀ fd ps sp) (hr : Room (k + 1) X.A) (hb : ∀ (s : Shared) (y : Value), X.K.In s.heap → BindsTo s fd ⟨y :: us, kw⟩ (ps.zip (y :: zs))) (hx : Passes CX X (fun _ _ _ => False)) (I1 : Inv X pins σ H1 s1) (rv : Vals vs zs) (few : us.length ≤ 1000)
    (ask : ∀ a, H1 a = none → sp (.ref a :: vs) (upd H1 a (exo a C none)) (fun v H2 => v = .non ∧ Q (.ref a) H2) (fun _ _ _ => False)) :
    wpAny (model X.prog X.w) X.A (call (.ref C) us kw) (EP X pins σ Q) X.xe s1 := by
  obtain ⟨nm, N, qn, bs, bm, c1, c2, c3, c4, c5, c6, k0, k1, k2, k3, k5, oC, tl⟩ := excInit_of I1.kIn T.made
  obtain ⟨hp, g, dr, tk, os⟩ := s1
  have hsz : hp.objs.size ≤ hp.objs.size + 1 := Nat.le_succ _
  have free : H1 (hp.objs.size + 1) = none := I1.hok.fresh hsz
  have keep2 : ∀ b o, hp.get? b = some o → ((hp.push (PySem.W.kdv_tup us)).push (HandSPX.excO C hp.objs.size)).get? b = some o :=
    fun b o z => Heap.get?_push_of_some _ (Heap.get?_push_of_some _ z)
  have here : ((hp.push (PySem.W.kdv_tup us)).push (HandSPX.excO C hp.objs.size)).get? (hp.objs.size + 1) = some (HandSPX.excO C hp.objs.size) := by heap_get
  have I2 : Inv X pins σ (upd H1 (hp.objs.size + 1) (exo (hp.objs.size + 1) C none)) ⟨(hp.push (PySem.W.kdv_tup us)).push (HandSPX.excO C hp.objs.size), g, dr, tk, os⟩ := I1.laid (t' := tk) keep2 hsz (exo_ok here)
  have fits : us.length ≤ sizeLine := by
    rw [sizeLine_eq]; omega
  have q0 := ask (hp.objs.size + 1) free
  have r2 : Vals (V.ref (hp.objs.size + 1) :: vs) (Value.ref (hp.objs.size + 1) :: zs) := .cons rfl rv
  refine wpAny_call (kw_call PySem.F.excBase_Exception tl oC (looks_findIn I1.kIn T.init) (fun self => bind_fn I1.kIn self T.fn) fits ?_)
  refine codeAny_mono (F.run _ X.stack _ _ ⟨Value.ref (hp.objs.size + 1) :: us, kw⟩ (Value.ref (hp.objs.size + 1) :: zs) _ _ (fun _ _ _ => False) (hr.make C us kw) (I2.env0.make C us kw) (hb _ _ I2.kIn) r2 q0) ?_
  intro r s' out
  cases r with
  | error er => exact hx pins σ _ _ er s' I2 out
  | ok fl =>
    cases fl with
    | ret u =>
      obtain ⟨v, H', I3, rv, ev, q3⟩ := I2.after out
      subst ev
      exact ⟨rv, ⟨V.ref (hp.objs.size + 1), H', I3, rfl, q3⟩⟩
    | next => exact False.elim out
    | brk => exact False.elim out
    | cont => exact False.elim out
/-- what an error that keeps y asks -/
def AskE (C : Addr) (name : Str) (y : V) (Q : VK) (H : Hp) : Prop := ∀ a d, H a = none → H d = none → d ≠ a → Q (.ref a) (upd (upd H d (exd d [(name, y)])) a (exo a C (some d)))
theorem askE_sp {H : Hp} {y : V} {Q : VK} (T : Err X.K C f₀) (no : PySem.W.takerIn X.K C name = some none) (q : AskE C name y Q H) (a : Addr) (free : H a = none) :
    spKeep X.K name [.ref a, y] (upd H a (exo a C none)) (fun v H2 => v = .non ∧ Q (.ref a) H2) (fun _ _ _ => False) := by
  refine ⟨a, C, f₀, y, rfl, T, no, upd_same, fun d hd ne => ⟨rfl, ?_⟩⟩
  rw [upd_ne ne] at hd
  have e : upd (upd (upd H a (exo a C none)) d (exd d [(name, y)])) a (exo a C (some d)) = upd (upd H d (exd d [(name, y)])) a (exo a C (some d)) := by
    funext b
    by_cases e1 : b = a
    · rw [e1, upd_same, upd_same]
    · rw [upd_ne e1, upd_ne e1]
      by_cases e2 : b = d
      · rw [e2, upd_same, upd_same]
      · rw [upd_ne e2, upd_ne e2, upd_ne e1]
  rw [e]
  exact q a d free hd ne
/-- C(e) -/
theorem pe_val {CX : CXT} {k : Nat} {fd : FuncData} {ps : List Str} (T : Err X.K C f₀) (no : PySem.W.takerIn X.K C name = some none) (F : FnOk X.prog X.w X.K X.mg X.base CX k f₀ fd ps (spKeep X.K name)) (hr : Room (k + 1) X.A) (hl : ps.length = 2) (hb : Binds X.K fd ps [])
    (hx : Passes CX X (fun _ _ _ => False)) (hg : Gl X x) (hm : X.mg x = some (.ref C)) (he : PE X e te) (hdb : (x == ("__debug__" : Str)) = false := by decide) (hst : starEach [e] X.env = (false, eval e X.env) :: starEach [] X.env := by rfl)
    (hpl : (backTo pos (starEach [] X.env)).any (·.1) = false := by rfl) : PE X (.Call (.Name x p) [e] [] pos) (fun σ H Q => te σ H fun y H1 => AskE C name y Q H1) := by
  refine ⟨fun pins s σ H Q I h => ?_⟩
  refine wpAny_Call_Name_kw (ld_glob I hg hm ?_ hdb)
  refine PySem.W.callWith_K (h₀ := X.base) I.ok.mod.kin T.keep (thn ((pa_cons (hs := hst) he pa_nil).run pos pins s σ H (fun vs H1 => match vs with | [y] => AskE C name y Q H1 | _ => False) I h) ?_) hst hpl
  intro us s1 got
  obtain ⟨vs, H1, I1, rv, ask⟩ := got
  refine ⟨I1.kIn, ?_⟩
  match vs, ask with
  | [y], ask =>
    have l1 : us.length = 1 := by rw [← rv.length]; rfl
    refine run_val (zs := us) T F hr (fun s y' hK => ?_) hx I1 rv (by simp [l1]) fun a free => askE_sp T no ask a free
    have := hb s (y' :: us) hK (by simp [l1, hl])
    rw [List.append_nil] at this
    exact this
/-- C(k = e) -/
theorem pe_valK {CX : CXT} {k : Nat} {fd : FuncData} {ps : List Str} {kn : Str} (T : Err X.K C f₀) (no : PySem.W.takerIn X.K C name = some none) (F : FnOk X.prog X.w X.K X.mg X.base CX k f₀ fd ps (spKeep X.K name)) (hr : Room (k + 1) X.A)
    (hb : ∀ (s : Shared) (y z : Value), X.K.In s.heap → BindsTo s fd ⟨[y], [(kn, z)]⟩ (ps.zip [y, z]))
    (hx : Passes CX X (fun _ _ _ => False)) (hg : Gl X x) (hm : X.mg x = some (.ref C)) (he : PE X e te) (hdb : (x == ("__debug__" : Str)) = false := by decide)
    (hall : (backToKw pos (keywordEach [⟨some kn, e, kpos⟩] X.env)).all (·.1.isSome) = true := by rfl) (hks : (backToKw pos (keywordEach [⟨some kn, e, kpos⟩] X.env)).filterMap (·.1) = [kn] := by rfl)
    (hpl : ((backTo pos (starEach [] X.env)).any (·.1) || (backToKw pos (keywordEach [⟨some kn, e, kpos⟩] X.env)).any (·.1.isNone)) = false := by rfl) : PE X (.Call (.Name x p) [] [⟨some kn, e, kpos⟩] pos) (fun σ H Q => te σ H fun y H1 => AskE C name y Q H1) := by
  refine ⟨fun pins s σ H Q I h => ?_⟩
  refine wpAny_Call_Name_kw (ld_glob I hg hm ?_ hdb)
  refine PySem.W.callWith_KW0 (h₀ := X.base) I.ok.mod.kin T.keep hall ?_ hpl
  refine thn ((pk_cons he pk_nil).run pos pins s σ H (fun vs H1 => match vs with | [y] => AskE C name y Q H1 | _ => False) I h) fun ws s1 ⟨vs, H1, I1, rv, ask⟩ => ⟨I1.kIn, ?_⟩
  rw [hks]
  match vs, ask with
  | [y], ask =>
    cases rv with
    | cons rz rr =>
      cases rr
      exact run_val (us := []) (kw := [(kn, _)]) T F hr (fun s y' hK => hb s y' _ hK) hx I1 (.cons rz .nil) (by simp) fun a free => askE_sp T no ask a free
/-- C(), C without an own `__init__` -/
theorem pe_val0 {bmB : List Value} {B newId initId : String} (F : ExcBaseFacts B newId initId bmB) (q : PySem.W.excIn X.K C bmB newId = true) (gC : X.mg x = some (.ref C)) (kC : PySem.W.keepIn X.K (.ref C) = true) (hg : Gl X x) (hdb : (x == ("__debug__" : Str)) = false := by decide) :
    PE X (.Call (.Name x p) [] [] pos) (fun _ H Q => ∀ a, H a = none → Q (.ref a) (upd H a (exo a C none))) := by
  refine ⟨fun pins s σ H Q I h => ?_⟩
  refine wpAny_Call_Name_kw (ld_glob I hg gC ?_ hdb)
  refine PySem.W.callWith_K0 I.kIn kC ?_
  show wpAny _ _ (call (.ref C) []) _ _ _
  obtain ⟨bm, N, nm, qn, bs, hdct, sn, sub, ab, col, dd, k0, k1, k2, k3, k5, mN, hC, hN, hni, T⟩ := exc_obj I.kIn q
  refine wpAny_call_exc_subT F T hC hN hni (fun h' a hm => ?_) (by show 0 ≤ sizeLine; rw [sizeLine_eq]; omega)
  have hn : H a = none := I.hok.gone hm.new
  obtain ⟨t, ht, _, _⟩ := hm.there
  exact ⟨.ref a, upd H a (exo a C none), I.laidN hm.keeps hm.new hn (exo_ok ht), rfl, h a hn⟩
/-- isinstance(x, c), x a held error -/
def rIsV (K : PySem.W.Frag) : List V → Hp → VK → Prop := fun xs H Q => ∃ (a D : Addr) (od : Option Addr) (c : V) (cv : Value) (b : Bool), xs = [.ref a, c] ∧ H a = some (exo a D od) ∧ (∀ dd, od = some dd → ∃ fs, H dd = some (exd dd fs)) ∧ ExcC K D ∧
  (∀ u, RelV c u → u = cv) ∧ PySem.W.kitOne K (.ref D) cv = some b ∧ Q (.bl b) H
theorem inst_of {pins : List (Addr × Obj)} {σ : L2.St} {H : Hp} {s : Shared} {a D : Addr} {od : Option Addr} (I : Inv X pins σ H s) (ha : H a = some (exo a D od)) (hd : ∀ dd, od = some dd → ∃ fs, H dd = some (exd dd fs)) : ∃ oe o, PySem.W.InstAt s.heap a oe D o := by
  obtain ⟨t1, ho⟩ := exo_at I.hok ha
  cases od with
  | none => exact ⟨_, none, ho, rfl, rfl, trivial⟩
  | some dd =>
    obtain ⟨fs, ed⟩ := hd dd rfl
    obtain ⟨mA, hns, _⟩ := exd_at I.hok ed
    obtain ⟨o, h1, _⟩ := lookIn_ns hns
    exact ⟨_, some o, ho, rfl, rfl, h1⟩
theorem call_isV : CallR X (.builtin "isinstance") (rIsV X.K) := by
  intro pins s σ H xs us Q I r h
  obtain ⟨a, D, od, c, cv, b, rfl, ha, hd, C, hcv, e, q⟩ := h
  cases r with
  | cons rx rr =>
    cases rr with
    | cons rt rr =>
      cases rr
      cases rx
      have ec := hcv _ rt
      subst ec
      obtain ⟨oe, o, J⟩ := inst_of I ha hd
      obtain ⟨cd, hc, _⟩ := PySem.W.any_some C.hd
      exact PySem.W.kia_one (PySem.W.kitx_exc (od := o) (by rw [hc]; rfl) C.hg C.hk C.hs C.ha C.hn C.ht C.hm) I.kIn J e (fun z => nomatch z) fun tk => ⟨.bl b, H, I.kept (t' := tk) fun _ _ z => z, rfl, q⟩
/-- x.n, x a held error -/
def tFldV (K : PySem.W.Frag) (n : Str) (te : TE) : TE := fun σ H Q => te σ H fun x H1 => ∃ (a D d : Addr) (fs : List (Str × V)) (v : V), x = .ref a ∧ H1 a = some (exo a D (some d)) ∧ H1 d = some (exd d fs) ∧ XfC K D ∧ PySem.W.findIn K (.ref D) n = some none ∧ fs.lookup n = some v ∧ Q v H1
theorem pe_fldV {n : Str} (he : PE X e te) (hb : attributeBase e n X.env (eval e X.env) = eval e X.env := by rfl) : PE X (.Attribute e n pos) (tFldV X.K n te) := by
  refine ⟨fun pins s σ H Q I h => ?_⟩
  refine attr_of hb (thn (he.run pins s σ H _ I h) fun u s1 hh => ?_)
  obtain ⟨x, H1, I1, rx, a, D, d, fs, v, ex, ha, hd, T, hno, l, q⟩ := hh
  subst ex
  obtain rfl : u = Value.ref a := rx
  obtain ⟨t1, ho⟩ := exo_at I1.hok ha
  obtain ⟨mA, hns, hr⟩ := exd_at I1.hok hd
  obtain ⟨o, h1, hl⟩ := lookIn_ns hns
  obtain ⟨u, hu, ru⟩ := RelO.some_of (v := v) (o := mA n) (by rw [← l]; exact hr n)
  have J : PySem.W.InstAt s1.heap a _ D (some o) := ⟨ho, rfl, rfl, h1⟩
  exact HandSPX.exc_get I1.kIn J T.ga T.gg T.exC (PySem.W.findObj_own T.hdC hno rfl (by rw [hl, hu])) (handed_of ru) ⟨v, H1, I1.tok _, ru, q⟩
end
end Hx

/-! A layer of pure data over the hand layer: values as trees, what changes in slots and in a store; each code has a meaning that is a function. -/
namespace Pd
open PySem L2 Evl Hg

/-- a datum: a tree; own k: the k-th thing of the store; loc i: what slot i holds and changes -/
inductive D where
  | non | bl (b : Bool) | int (i : Int) | str (x : Str)
  | tup (ds : List D) | lst (ds : List D) | dct (kvs : List (Key × D))
  | ins (c : Str) (fs : List (Str × D))
  | exc (c : Str) (fs : List (Str × D))
  | own (k : Nat) | loc (i : Nat) | cls (c : Str) | scr (ns : List Int)
/-- what may change -/
inductive Mo where
  | lst (ds : List D) | dct (kvs : List (Key × D)) | ins (c : Str) (fs : List (Str × D))
def Mo.d : Mo → D
  | .lst ds => .lst ds
  | .dct kvs => .dct kvs
  | .ins c fs => .ins c fs
inductive Sv where
  | un | d (d : D) | m (o : Mo)
abbrev Rho := List Sv
abbrev Sto := List Mo
/-- a value, or an error of the class c with its fields -/
inductive R (α : Type) where
  | ok (a : α) | er (c : Str) (fs : List (Str × D))
abbrev M (α : Type) := Rho → Sto → Option (R α × Sto)
def M.bind {α β : Type} (m : M α) (f : α → M β) : M β := fun ρ S =>
  match m ρ S with
  | some (.ok a, S1) => f a ρ S1
  | some (.er c fs, S1) => some (.er c fs, S1)
  | none => none
def M.pure {α : Type} (a : α) : M α := fun _ S => some (.ok a, S)
def M.lift {α : Type} (f : Rho → Sto → Option α) : M α := fun ρ S =>
  match f ρ S with
  | some a => some (.ok a, S)
  | none => none

/-- what is known: the things that never change again, where the store's things stand -/
structure Wd where
  G : Hp
  al : List Addr
section
variable (K : PySem.W.Frag) (mg : Str → Option Value)
mutual
inductive Dt (w : Wd) : V → D → Prop
  | non : Dt w .non .non
  | bl (b : Bool) : Dt w (.bl b) (.bl b)
  | int (i : Int) : Dt w (.int i) (.int i)
  | str (x : Str) : Dt w (.str x) (.str x)
  | tup {a : Addr} {xs : List V} {ds : List D} : SqT K w.G a xs → DtA w xs ds → Dt w (.ref a) (.tup ds)
  | lst {a : Addr} {xs : List V} {ds : List D} : Rd w.G a (.lst xs) → DtA w xs ds → Dt w (.ref a) (.lst ds)
  | scr {a : Addr} {ns : List Int} : SqL K w.G a (ns.map V.int) → Dt w (.ref a) (.scr ns)
  | dct {a : Addr} {kvs : List (Key × V)} {kds : List (Key × D)} : Rd w.G a (.dK kvs) → kvs.map (·.1) = kds.map (·.1) → DtA w (kvs.map (·.2)) (kds.map (·.2)) → Dt w (.ref a) (.dct kds)
  | ins {a C dx : Addr} {c : Str} {vs : List (Str × V)} {fs : List (Str × D)} : mg c = some (.ref C) → w.G a = some (.ins C dx vs) → vs.map (·.1) = fs.map (·.1) → DtA w (vs.map (·.2)) (fs.map (·.2)) → Dt w (.ref a) (.ins c fs)
  | exc0 {a C : Addr} {c : Str} : mg c = some (.ref C) → w.G a = some (exo a C none) → Dt w (.ref a) (.exc c [])
  | exc {a C d : Addr} {c : Str} {vs : List (Str × V)} {fs : List (Str × D)} : mg c = some (.ref C) → w.G a = some (exo a C (some d)) → w.G d = some (exd d vs) → vs.map (·.1) = fs.map (·.1) → DtA w (vs.map (·.2)) (fs.map (·.2)) → Dt w (.ref a) (.exc c fs)
  | own {k : Nat} {a : Addr} : w.al[k]? = some a → Dt w (.ref a) (.own k)
  | cls {c : Str} {C : Addr} : mg c = some (.ref C) → Dt w (.ref C) (.cls c)
inductive DtA (w : Wd) : List V → List D → Prop
  | nil : DtA w [] []
  | cons {v : V} {vs : List V} {d : D} {ds : List D} : Dt w v d → DtA w vs ds → DtA w (v :: vs) (d :: ds)
end
end

structure Le (w w' : Wd) : Prop where
  g : Ex w.G w'.G
  a : w.al <+: w'.al
theorem Le.refl (w : Wd) : Le w w := ⟨Ex.refl _, List.prefix_refl _⟩
theorem Le.trans {a b c : Wd} (x : Le a b) (y : Le b c) : Le a c := ⟨x.g.trans y.g, x.a.trans y.a⟩
theorem pre_get {α : Type} {l l' : List α} (h : l <+: l') {k : Nat} {a : α} (e : l[k]? = some a) : l'[k]? = some a := by
  obtain ⟨t, rfl⟩ := h
  have := (List.getElem?_eq_some_iff.mp e).1
  rw [List.getElem?_append_left this]
  exact e
section
variable {K : PySem.W.Frag} {mg : Str → Option Value} {w w' w1 w2 : Wd} {H H' H1 H2 : Hp} {a : Addr} {o : Mo} {S S' : Sto}
mutual
theorem Dt.mono (l : Le w w') : ∀ {v : V} {d : D}, Dt K mg w v d → Dt K mg w' v d
  | _, _, .non => .non
  | _, _, .bl b => .bl b
  | _, _, .int i => .int i
  | _, _, .str x => .str x
  | _, _, .tup h hs => .tup (ex_t l.g h) (hs.mono l)
  | _, _, .lst h hs => .lst (ex_rd l.g h) (hs.mono l)
  | _, _, .scr h => .scr (ex_l l.g h)
  | _, _, .dct h e hs => .dct (ex_rd l.g h) e (hs.mono l)
  | _, _, .ins e h e2 hs => .ins e (l.g _ _ h) e2 (hs.mono l)
  | _, _, .exc0 e h => .exc0 e (l.g _ _ h)
  | _, _, .exc e h h' e2 hs => .exc e (l.g _ _ h) (l.g _ _ h') e2 (hs.mono l)
  | _, _, .own h => .own (pre_get l.a h)
  | _, _, .cls h => .cls h
theorem DtA.mono (l : Le w w') : ∀ {vs : List V} {ds : List D}, DtA K mg w vs ds → DtA K mg w' vs ds
  | _, _, .nil => .nil
  | _, _, .cons h hs => .cons (h.mono l) (hs.mono l)
end
theorem DtA.length : ∀ {vs : List V} {ds : List D}, DtA K mg w vs ds → vs.length = ds.length
  | _, _, .nil => rfl
  | _, _, .cons _ h => congrArg (· + 1) h.length
theorem DtA.append : ∀ {vs us : List V} {ds es : List D}, DtA K mg w vs ds → DtA K mg w us es → DtA K mg w (vs ++ us) (ds ++ es)
  | _, _, _, _, .nil, b => b
  | _, _, _, _, .cons h a, b => .cons h (a.append b)
theorem DtA.get : ∀ {vs : List V} {ds : List D} {i : Nat} {d : D}, DtA K mg w vs ds → ds[i]? = some d → ∃ v, vs[i]? = some v ∧ Dt K mg w v d
  | _, _, _, _, .nil, e => by simp at e
  | _, _, 0, _, .cons h _, e => by
    simp at e
    subst e
    exact ⟨_, rfl, h⟩
  | _, _, i + 1, _, .cons _ ha, e => by
    obtain ⟨v, h1, h2⟩ := ha.get (i := i) (by simpa using e)
    exact ⟨v, by simpa using h1, h2⟩
theorem DtA.getV : ∀ {vs : List V} {ds : List D} {i : Nat} {v : V}, DtA K mg w vs ds → vs[i]? = some v → ∃ d, ds[i]? = some d ∧ Dt K mg w v d
  | _, _, _, _, .nil, e => by simp at e
  | _, _, 0, _, .cons h _, e => by
    simp at e
    subst e
    exact ⟨_, rfl, h⟩
  | _, _, i + 1, _, .cons _ ha, e => by
    obtain ⟨d, h1, h2⟩ := ha.getV (i := i) (by simpa using e)
    exact ⟨d, by simpa using h1, h2⟩
theorem DtA.take : ∀ {vs : List V} {ds : List D} (n : Nat), DtA K mg w vs ds → DtA K mg w (vs.take n) (ds.take n)
  | _, _, 0, _ => .nil
  | _, _, _ + 1, .nil => .nil
  | _, _, n + 1, .cons h a => .cons h (a.take n)
theorem DtA.drop : ∀ {vs : List V} {ds : List D} (n : Nat), DtA K mg w vs ds → DtA K mg w (vs.drop n) (ds.drop n)
  | _, _, 0, h => h
  | _, _, _ + 1, .nil => .nil
  | _, _, n + 1, .cons _ a => a.drop n
theorem DtA.reverse {vs : List V} {ds : List D} (h : DtA K mg w vs ds) : DtA K mg w vs.reverse ds.reverse := by
  induction vs generalizing ds with
  | nil => cases h; exact .nil
  | cons v vs ih =>
    cases h with
    | cons h1 h2 =>
      rw [List.reverse_cons, List.reverse_cons]
      exact (ih h2).append (.cons h1 .nil)

variable (K mg) in
/-- a thing that may change stands at a -/
def MoOk (w : Wd) (H : Hp) (a : Addr) : Mo → Prop
  | .lst ds => ∃ xs, H a = some (.lst xs) ∧ DtA K mg w xs ds
  | .dct kds => ∃ kvs, H a = some (.dK kvs) ∧ kvs.map (·.1) = kds.map (·.1) ∧ DtA K mg w (kvs.map (·.2)) (kds.map (·.2))
  | .ins c fs => ∃ C dx vs, mg c = some (.ref C) ∧ H a = some (.ins C dx vs) ∧ vs.map (·.1) = fs.map (·.1) ∧ DtA K mg w (vs.map (·.2)) (fs.map (·.2))
theorem MoOk.there (h : MoOk K mg w H a o) : ∃ u, H a = some u := by
  cases o with
  | lst ds => obtain ⟨_, e, _⟩ := h; exact ⟨_, e⟩
  | dct ds => obtain ⟨_, e, _⟩ := h; exact ⟨_, e⟩
  | ins c ds => obtain ⟨_, _, _, _, e, _⟩ := h; exact ⟨_, e⟩
theorem MoOk.stay (h : MoOk K mg w H a o) (e : H' a = H a) (l : Le w w') : MoOk K mg w' H' a o := by
  cases o with
  | lst ds => obtain ⟨xs, e1, h1⟩ := h; exact ⟨xs, e.trans e1, h1.mono l⟩
  | dct ds => obtain ⟨xs, e1, h1, h2⟩ := h; exact ⟨xs, e.trans e1, h1, h2.mono l⟩
  | ins c ds => obtain ⟨C, dx, vs, e1, e2, h1, h2⟩ := h; exact ⟨C, dx, vs, e1, e.trans e2, h1, h2.mono l⟩
variable (K mg) in
structure At (w : Wd) (H : Hp) (S : Sto) : Prop where
  sub : Ex w.G H
  len : w.al.length = S.length
  nd : w.al.Nodup
  off : ∀ a ∈ w.al, w.G a = none
  obj : ∀ (k : Nat) (a : Addr) (o : Mo), w.al[k]? = some a → S[k]? = some o → MoOk K mg w H a o
theorem At.alive (h : At K mg w H S) (ha : a ∈ w.al) : ∃ u, H a = some u := by
  obtain ⟨k, hk⟩ := List.mem_iff_getElem?.mp ha
  have hl := (List.getElem?_eq_some_iff.mp hk).1
  obtain ⟨o, ho⟩ : ∃ o, S[k]? = some o := ⟨S[k]'(by rw [← h.len]; exact hl), by rw [List.getElem?_eq_getElem]⟩
  exact (h.obj k a o hk ho).there
/-- from one state to a later one -/
structure Stp (w w' : Wd) (H H' : Hp) : Prop where
  le : Le w w'
  fr : ∀ a o, H a = some o → a ∉ w.al → H' a = some o
  nw : ∀ a, a ∈ w'.al → a ∉ w.al → H a = none
  gn : ∀ a o, w'.G a = some o → w.G a = some o ∨ H a = none ∨ a ∈ w.al
theorem Stp.refl (w : Wd) (H : Hp) : Stp w w H H := ⟨Le.refl w, fun _ _ h _ => h, fun _ h n => absurd h n, fun _ _ h => .inl h⟩
theorem Stp.trans (x : Stp w w1 H H1) (y : Stp w1 w2 H1 H2) : Stp w w2 H H2 := by
  have key : ∀ a o, H a = some o → a ∉ w.al → a ∉ w1.al := fun a o h n z => by
    rw [x.nw a z n] at h
    cases h
  refine ⟨x.le.trans y.le, fun a o h n => y.fr a o (x.fr a o h n) (key a o h n), fun a h n => ?_, fun a o h => ?_⟩
  · by_cases z : a ∈ w1.al
    · exact x.nw a z n
    · cases q : H a with
      | none => rfl
      | some o =>
        have := x.fr a o q n
        rw [y.nw a h z] at this
        cases this
  · rcases y.gn a o h with z | z | z
    · exact x.gn a o z
    · by_cases n : a ∈ w.al
      · exact .inr (.inr n)
      · refine .inr (.inl ?_)
        cases q : H a with
        | none => rfl
        | some u =>
          rw [x.fr a u q n] at z
          cases z
    · by_cases n : a ∈ w.al
      · exact .inr (.inr n)
      · exact .inr (.inl (x.nw a z n))
/-- new things alone -/
structure Grow (w w' : Wd) (H H' : Hp) : Prop where
  g : Ex w.G w'.G
  a : w'.al = w.al
  h : Ex H H'
  sub : Ex w'.G H'
  gn : ∀ a o, w'.G a = some o → w.G a = some o ∨ H a = none
theorem Grow.refl (s : Ex w.G H) : Grow w w H H := ⟨Ex.refl _, rfl, Ex.refl _, s, fun _ _ h => .inl h⟩
theorem Grow.le (x : Grow w w' H H') : Le w w' := ⟨x.g, by rw [x.a]; exact List.prefix_refl _⟩
theorem Grow.stp (x : Grow w w' H H') : Stp w w' H H' := ⟨x.le, fun a o h _ => x.h a o h, fun a h n => absurd (x.a ▸ h) n, fun a o h => (x.gn a o h).elim .inl fun z => .inr (.inl z)⟩
theorem Grow.trans (x : Grow w w1 H H1) (y : Grow w1 w2 H1 H2) : Grow w w2 H H2 :=
  ⟨x.g.trans y.g, y.a.trans x.a, x.h.trans y.h, y.sub, fun a o h => (y.gn a o h).elim (x.gn a o) fun z => .inr (fresh_back x.h z)⟩
theorem At.grow (h : At K mg w H S) (x : Grow w w' H H') : At K mg w' H' S := by
  refine ⟨x.sub, by rw [x.a]; exact h.len, by rw [x.a]; exact h.nd, fun a ha => ?_, fun k a o hk ho => ?_⟩
  · rw [x.a] at ha
    cases q : w'.G a with
    | none => rfl
    | some o =>
      rcases x.gn a o q with z | z
      · rw [h.off a ha] at z; cases z
      · obtain ⟨u, hu⟩ := h.alive ha
        rw [hu] at z; cases z
  · rw [x.a] at hk
    have m := h.obj k a o hk ho
    obtain ⟨u, hu⟩ := m.there
    exact m.stay ((x.h a u hu).trans hu.symm) x.le
abbrev Wd.new (w : Wd) (p : Addr) (o : HO) : Wd := ⟨upd w.G p o, w.al⟩
theorem Grow.new {p : Addr} {o : HO} (s : Ex w.G H) (n : H p = none) : Grow w (w.new p o) H (upd H p o) := by
  have nG : w.G p = none := by
    cases q : w.G p with
    | none => rfl
    | some u => rw [s p u q] at n; cases n
  refine ⟨Ex.new nG, rfl, Ex.new n, fun b u hb => ?_, fun b u hb => ?_⟩
  · have hb : upd w.G p o b = some u := hb
    by_cases e : b = p
    · subst e
      rw [upd_same] at hb ⊢
      exact hb
    · rw [upd_ne e] at hb ⊢
      exact s b u hb
  · have hb : upd w.G p o b = some u := hb
    by_cases e : b = p
    · subst e
      exact .inr n
    · rw [upd_ne e] at hb
      exact .inl hb

/-- a caught error: its slot, where it stands, its dict, its fields -/
structure Zi where
  i : Nat
  a : Addr
  dx : Option Addr
  fs : List (Str × D)
variable (K mg) in
def Zok (w : Wd) (dx : Option Addr) (fs : List (Str × D)) : Prop := match dx with
  | none => fs = []
  | some d => ∃ vs, w.G d = some (.xd vs) ∧ vs.map (·.1) = fs.map (·.1) ∧ DtA K mg w (vs.map (·.2)) (fs.map (·.2))
theorem Zok.mono {dx : Option Addr} {fs : List (Str × D)} (l : Le w w') (h : Zok K mg w dx fs) : Zok K mg w' dx fs := by
  cases dx with
  | none => exact h
  | some d =>
    obtain ⟨vs, e, h1, h2⟩ := h
    exact ⟨vs, l.g _ _ e, h1, h2.mono l⟩
variable (K mg) in
/-- the slots; z: where a caught error stands -/
structure Sl (z : Option Zi) (w : Wd) (H : Hp) (σ : L2.St) (ρ : Rho) : Prop where
  len : σ.length = ρ.length
  dat : ∀ (i : Nat) (d : D), ρ[i]? = some (Sv.d d) → ∃ v, σ[i]? = some (some v) ∧ Dt K mg w v d
  mt : ∀ (i : Nat) (o : Mo), ρ[i]? = some (Sv.m o) → ∃ a, σ[i]? = some (some (.ref a)) ∧ w.G a = none ∧ a ∉ w.al ∧ MoOk K mg w H a o
  sep : ∀ (i j : Nat) (oi oj : Mo) (a : Addr), ρ[i]? = some (Sv.m oi) → ρ[j]? = some (Sv.m oj) → σ[i]? = some (some (.ref a)) → σ[j]? = some (some (.ref a)) → i = j
  exc : ∀ zi : Zi, z = some zi → σ[zi.i]? = some (some (.ref zi.a)) ∧ Zok K mg w zi.dx zi.fs
variable {z : Option Zi} {σ : L2.St} {ρ : Rho} {v : V} {d d' : D}
theorem Sl.step (s : Sl K mg z w H σ ρ) (x : Stp w w' H H') : Sl K mg z w' H' σ ρ := by
  refine ⟨s.len, fun i d h => ?_, fun i o h => ?_, s.sep, fun zi e => ⟨(s.exc zi e).1, (s.exc zi e).2.mono x.le⟩⟩
  · obtain ⟨v, e, h⟩ := s.dat i d h
    exact ⟨v, e, h.mono x.le⟩
  · obtain ⟨a, e, g, n, m⟩ := s.mt i o h
    obtain ⟨u, hu⟩ := m.there
    refine ⟨a, e, ?_, fun q => ?_, m.stay ((x.fr a u hu n).trans hu.symm) x.le⟩
    · cases q : w'.G a with
      | none => rfl
      | some y =>
        rcases x.gn a y q with r | r | r
        · rw [g] at r; cases r
        · rw [hu] at r; cases r
        · exact absurd r n
    · rw [x.nw a q n] at hu
      cases hu
variable (K mg) in
/-- what an expression gives: a datum, or what a slot holds and changes -/
def Rr (w : Wd) (σ : L2.St) (ρ : Rho) (v : V) (d : D) : Prop := Dt K mg w v d ∨ ∃ (i : Nat) (o : Mo), d = .loc i ∧ σ[i]? = some (some v) ∧ ρ[i]? = some (Sv.m o)
theorem Rr.mono (l : Le w w') (h : Rr K mg w σ ρ v d) : Rr K mg w' σ ρ v d := h.imp (Dt.mono l) id
/-- what it is now -/
def rsv (ρ : Rho) (S : Sto) : D → Option D
  | .own k => (S[k]?).map Mo.d
  | .loc i => match ρ[i]? with
    | some (.m o) => some o.d
    | _ => none
  | d => some d
variable (K mg) in
/-- what stands there now -/
def Rs (w : Wd) (H : Hp) (v : V) : D → Prop
  | .non => v = .non
  | .bl b => v = .bl b
  | .int i => v = .int i
  | .str x => v = .str x
  | .tup ds => ∃ a xs, v = .ref a ∧ SqT K w.G a xs ∧ DtA K mg w xs ds
  | .scr ns => ∃ a, v = .ref a ∧ SqL K H a (ns.map V.int)
  | .lst ds => ∃ a xs, v = .ref a ∧ Rd H a (.lst xs) ∧ DtA K mg w xs ds
  | .dct kds => ∃ a kvs, v = .ref a ∧ Rd H a (.dK kvs) ∧ kvs.map (·.1) = kds.map (·.1) ∧ DtA K mg w (kvs.map (·.2)) (kds.map (·.2))
  | .ins c fs => ∃ a C dx vs, v = .ref a ∧ mg c = some (.ref C) ∧ H a = some (.ins C dx vs) ∧ vs.map (·.1) = fs.map (·.1) ∧ DtA K mg w (vs.map (·.2)) (fs.map (·.2))
  | .exc c fs => ∃ a C od, v = .ref a ∧ mg c = some (.ref C) ∧ H a = some (exo a C od) ∧ ((od = none ∧ fs = []) ∨ ∃ d vs, od = some d ∧ H d = some (exd d vs) ∧ vs.map (·.1) = fs.map (·.1) ∧ DtA K mg w (vs.map (·.2)) (fs.map (·.2)))
  | .cls c => ∃ C, v = .ref C ∧ mg c = some (.ref C)
  | .own _ => False
  | .loc _ => False
theorem Rs.of_mo (h : MoOk K mg w H a o) : Rs K mg w H (.ref a) o.d := by
  cases o with
  | lst ds => obtain ⟨xs, e, h⟩ := h; exact ⟨a, xs, rfl, Rd.of e, h⟩
  | dct ds => obtain ⟨xs, e, h⟩ := h; exact ⟨a, xs, rfl, Rd.of e, h⟩
  | ins c fs => obtain ⟨C, dx, vs, e, h⟩ := h; exact ⟨a, C, dx, vs, rfl, e, h⟩
theorem Rs.of_dt (s : Ex w.G H) (h : Dt K mg w v d) (n : ∀ k, d ≠ .own k) : Rs K mg w H v d := by
  cases h with
  | non => rfl
  | bl b => rfl
  | int i => rfl
  | str x => rfl
  | tup h hs => exact ⟨_, _, rfl, h, hs⟩
  | lst h hs => exact ⟨_, _, rfl, ex_rd s h, hs⟩
  | scr h => exact ⟨_, rfl, ex_l s h⟩
  | dct h e hs => exact ⟨_, _, rfl, ex_rd s h, e, hs⟩
  | ins e h e2 hs => exact ⟨_, _, _, _, rfl, e, s _ _ h, e2, hs⟩
  | exc0 e h => exact ⟨_, _, _, rfl, e, s _ _ h, .inl ⟨rfl, rfl⟩⟩
  | exc e h h' e2 hs => exact ⟨_, _, _, rfl, e, s _ _ h, .inr ⟨_, _, rfl, s _ _ h', e2, hs⟩⟩
  | own h => exact absurd rfl (n _)
  | cls h => exact ⟨_, rfl, h⟩
theorem Rs.of (t : At K mg w H S) (s : Sl K mg z w H σ ρ) (r : Rr K mg w σ ρ v d) (e : rsv ρ S d = some d') : Rs K mg w H v d' := by
  rcases r with h | ⟨i, o, rfl, h1, h2⟩
  · by_cases n : ∃ k, d = .own k
    · obtain ⟨k, rfl⟩ := n
      cases h with
      | own hk =>
        simp only [rsv] at e
        cases q : S[k]? with
        | none => rw [q] at e; cases e
        | some o =>
          rw [q] at e
          cases e
          exact Rs.of_mo (t.obj k _ o hk q)
    · have e' : d = d' := by
        cases d with
        | own k => exact absurd ⟨k, rfl⟩ n
        | loc i => cases h
        | _ => exact Option.some.inj e
      subst e'
      exact Rs.of_dt t.sub h fun k z => n ⟨k, z⟩
  · obtain ⟨a, e1, _, _, m⟩ := s.mt i o h2
    rw [h1] at e1
    cases e1
    simp only [rsv, h2] at e
    cases e
    exact Rs.of_mo m
end
end Pd

/-! Expressions whose meaning is a function of data. -/
namespace Pd
open PySem L2 Evl Hg

theorem pe_mono {X : Cx} {e : Expr} {t t' : TE} (h : PE X e t) (k : ∀ σ H Q, t' σ H Q → t σ H Q) : PE X e t' := ⟨fun pins s σ H Q I w => h.run pins s σ H Q I (k σ H Q w)⟩
theorem pt_mono {X : Cx} {e : Expr} {t t' : TT} (h : PT X e t) (k : ∀ σ H Q, t' σ H Q → t σ H Q) : PT X e t' := ⟨fun pins s σ H Q I w => h.run pins s σ H Q I (k σ H Q w)⟩
theorem pw_mono {X : Cx} {e : Expr} {t t' : TT} (h : PW X e t) (k : ∀ σ H Q, t' σ H Q → t σ H Q) : PW X e t' := ⟨fun wh pins s σ H Q I w => h.run wh pins s σ H Q I (k σ H Q w)⟩
theorem pa_mono {X : Cx} {e : List Expr} {t t' : TA} (h : PA X e t) (k : ∀ σ H Q, t' σ H Q → t σ H Q) : PA X e t' := ⟨fun p pins s σ H Q I w => h.run p pins s σ H Q I (k σ H Q w)⟩

/-- an error of the class c with these fields -/
def Xr (K : PySem.W.Frag) (mg : Str → Option Value) (w : Wd) (cls : Value) (dx : Option Addr) (c : Str) (fs : List (Str × D)) : Prop :=
  (∃ C, cls = .ref C ∧ mg c = some (.ref C)) ∧ Zok K mg w dx fs
abbrev Rel (β α : Type) := Wd → Hp → β → α → Prop
section
variable (K : PySem.W.Frag) (mg : Str → Option Value) (W : WX) (z : Option Zi)
def Pst {α β : Type} (rel : Rel β α) (w : Wd) (σ : L2.St) (H : Hp) (r : R α) (S' : Sto) (Q : β → Hp → Prop) : Prop :=
  match r with
  | .ok a => ∀ v H' w', Stp w w' H H' → At K mg w' H' S' → rel w' H' v a → Q v H'
  | .er c fs => ∀ H' w' cls dx, Stp w w' H H' → At K mg w' H' S' → Xr K mg w' cls dx c fs → W cls dx σ H'
structure Do {α β : Type} (rel : Rel β α) (w : Wd) (σ : L2.St) (H : Hp) (ρ : Rho) (S : Sto) (m : M α) (Q : β → Hp → Prop) : Prop where
  t : At K mg w H S
  s : Sl K mg z w H σ ρ
  go : ∃ r S', m ρ S = some (r, S') ∧ Pst K mg W rel w σ H r S' Q
inductive RrA (w : Wd) (σ : L2.St) (ρ : Rho) : List V → List D → Prop
  | nil : RrA w σ ρ [] []
  | cons {v : V} {vs : List V} {d : D} {ds : List D} : Rr K mg w σ ρ v d → RrA w σ ρ vs ds → RrA w σ ρ (v :: vs) (d :: ds)
theorem RrA.mono {w w' : Wd} {σ : L2.St} {ρ : Rho} (l : Le w w') : ∀ {vs : List V} {ds : List D}, RrA K mg w σ ρ vs ds → RrA K mg w' σ ρ vs ds
  | _, _, .nil => .nil
  | _, _, .cons h hs => .cons (h.mono l) (hs.mono l)
def relD (σ : L2.St) (ρ : Rho) : Rel V D := fun w _ v d => Rr K mg w σ ρ v d
def relA (σ : L2.St) (ρ : Rho) : Rel (List V) (List D) := fun w _ v d => RrA K mg w σ ρ v d
def relB : Rel Bool Bool := fun _ _ b c => b = c
def tD (m : M D) : TE := fun σ H Q => ∃ w ρ S, Do K mg W z (relD K mg σ ρ) w σ H ρ S m Q
def tA (m : M (List D)) : TA := fun σ H Q => ∃ w ρ S, Do K mg W z (relA K mg σ ρ) w σ H ρ S m Q
def tT (m : M Bool) : TT := fun σ H Q => ∃ w ρ S, Do K mg W z relB w σ H ρ S m Q
end
section
variable (X : Cx) (W : WX) (z : Option Zi)
/-- e's meaning is m -/
abbrev PD (e : Expr) (m : M D) : Prop := PE X e (tD X.K X.mg W z m)
abbrev PDA (es : List Expr) (m : M (List D)) : Prop := PA X es (tA X.K X.mg W z m)
abbrev PDT (e : Expr) (m : M Bool) : Prop := PT X e (tT X.K X.mg W z m)
abbrev PDW (e : Expr) (m : M Bool) : Prop := PW X e (tT X.K X.mg W z m)
end
section
variable {X : Cx} {K : PySem.W.Frag} {mg : Str → Option Value} {W : WX} {z : Option Zi} {w : Wd} {σ : L2.St} {H : Hp} {ρ : Rho} {S : Sto}
theorem Do.bind {α β γ δ : Type} {rel1 : Rel β α} {rel2 : Rel δ γ} {m : M α} {f : α → M γ} {Q : δ → Hp → Prop} {k : β → Hp → Prop} (h : Do K mg W z rel2 w σ H ρ S (m.bind f) Q)
    (hk : ∀ a v w1 H1 S1, Stp w w1 H H1 → rel1 w1 H1 v a → Do K mg W z rel2 w1 σ H1 ρ S1 (f a) Q → k v H1) : Do K mg W z rel1 w σ H ρ S m k := by
  obtain ⟨t, s, r, S', e, p⟩ := h
  refine ⟨t, s, ?_⟩
  unfold M.bind at e
  cases q : m ρ S with
  | none => rw [q] at e; cases e
  | some x =>
    obtain ⟨r1, S1⟩ := x
    rw [q] at e
    refine ⟨r1, S1, rfl, ?_⟩
    cases r1 with
    | er c fs =>
      cases e
      exact p
    | ok a =>
      intro v H1 w1 st t1 rl
      refine hk a v w1 H1 S1 st rl ⟨t1, s.step st, r, S', e, ?_⟩
      cases r with
      | ok b => exact fun v' H' w' st' t' rl' => p v' H' w' (st.trans st') t' rl'
      | er c fs => exact fun H' w' cls dx st' t' x => p H' w' cls dx (st.trans st') t' x
theorem Do.lift {α β : Type} {rel : Rel β α} {f : Rho → Sto → Option α} {Q : β → Hp → Prop} (h : Do K mg W z rel w σ H ρ S (M.lift f) Q) :
    ∃ a, f ρ S = some a ∧ ∀ v H' w', Grow w w' H H' → rel w' H' v a → Q v H' := by
  obtain ⟨t, s, r, S', e, p⟩ := h
  unfold M.lift at e
  cases q : f ρ S with
  | none => rw [q] at e; cases e
  | some a =>
    rw [q] at e
    cases e
    exact ⟨a, rfl, fun v H' w' g rl => p v H' w' g.stp (t.grow g) rl⟩
theorem Do.pure {α β : Type} {rel : Rel β α} {a : α} {Q : β → Hp → Prop} (h : Do K mg W z rel w σ H ρ S (M.pure a) Q) : ∀ v, rel w H v a → Q v H := by
  obtain ⟨t, s, r, S', e, p⟩ := h
  cases e
  exact fun v rl => p v H w (Stp.refl _ _) t rl

/-! ### names, constants -/
def m_c (d : D) : M D := M.pure d
theorem pd_c {e : Expr} {v : V} {d : D} (h : PE X e (tC v)) (hd : ∀ w, Dt X.K X.mg w v d) : PD X W z e (m_c d) := by
  refine pe_mono h fun σ H Q hq => ?_
  obtain ⟨w, ρ, S, h⟩ := hq
  exact h.pure v (.inl (hd w))
theorem pd_int {i : Int} {j : Nat} {pos : Pos} : PD X W z (.Constant (.int i) j pos) (m_c (.int i)) := pd_c pe_int fun _ => .int i
theorem pd_bl {b : Bool} {j : Nat} {pos : Pos} : PD X W z (.Constant (.bool b) j pos) (m_c (.bl b)) := pd_c pe_bl fun _ => .bl b
theorem pd_non {j : Nat} {pos : Pos} : PD X W z (.Constant .none j pos) (m_c .non) := pd_c pe_non fun _ => .non
theorem pd_str {x : Str} {j : Nat} {pos : Pos} : PD X W z (.Constant (.str x) j pos) (m_c (.str x)) := pd_c pe_str fun _ => .str x
theorem pd_gint {x : Str} {i : Int} {t : Tok} {pos : Pos} (hg : Gl X x) (hm : X.mg x = some (.int i t)) (hd : (x == ("__debug__" : Str)) = false := by decide) : PD X W z (.Name x pos) (m_c (.int i)) := pd_c (pe_glob (v := .int i) hg hm ⟨t, rfl⟩ hd) fun _ => .int i
theorem pd_gstr {x y : Str} {t : Tok} {pos : Pos} (hg : Gl X x) (hm : X.mg x = some (.str y t)) (hd : (x == ("__debug__" : Str)) = false := by decide) : PD X W z (.Name x pos) (m_c (.str y)) := pd_c (pe_glob (v := .str y) hg hm ⟨t, rfl⟩ hd) fun _ => .str y
def m_var (i : Nat) : M D := M.lift fun ρ _ => match ρ[i]? with
  | some (.d d) => some d
  | some (.m _) => some (.loc i)
  | _ => none
theorem pd_var {i : Nat} {x : Str} {pos : Pos} (h : PE X (.Name x pos) (tVar i)) : PD X W z (.Name x pos) (m_var i) := by
  refine pe_mono h fun σ H Q hq => ?_
  obtain ⟨w, ρ, S, h⟩ := hq
  obtain ⟨d, e, k⟩ := h.lift
  have g := Grow.refl h.t.sub
  cases q : ρ[i]? with
  | none => simp only [q] at e; cases e
  | some sv =>
    cases sv with
    | un => simp only [q] at e; cases e
    | d d' =>
      simp only [q] at e
      cases e
      obtain ⟨v, e1, h1⟩ := h.s.dat i _ q
      exact ⟨v, e1, k v H w g (.inl h1)⟩
    | m o =>
      simp only [q] at e
      cases e
      obtain ⟨a, e1, _⟩ := h.s.mt i o q
      exact ⟨_, e1, k _ H w g (.inr ⟨i, o, rfl, e1, q⟩)⟩

/-! ### two operands -/
def m_op (f : D → D → Option D) (ma mb : M D) : M D := ma.bind fun a => mb.bind fun b => M.lift fun ρ S =>
  match rsv ρ S a, rsv ρ S b with
  | some a', some b' => f a' b'
  | _, _ => none
def m_cmp (f : D → D → Option Bool) (ma mb : M D) : M D := m_op (fun a b => (f a b).map D.bl) ma mb
def m_cmpT (f : D → D → Option Bool) (ma mb : M D) : M Bool := ma.bind fun a => mb.bind fun b => M.lift fun ρ S =>
  match rsv ρ S a, rsv ρ S b with
  | some a', some b' => f a' b'
  | _, _ => none
variable (X) in
/-- on values: r does what f says -/
def Op2 (r : R2) (f : D → D → Option D) : Prop := ∀ (w : Wd) (H : Hp) (x y : V) (a b d : D), Ex w.G H → Rs X.K X.mg w H x a → Rs X.K X.mg w H y b → f a b = some d →
  ∀ Q : VK, (∀ v H' w', Grow w w' H H' → Dt X.K X.mg w' v d → Q v H') → r x y H Q
variable (X) in
def Cm2 (r : R2) (f : D → D → Option Bool) : Prop := ∀ (w : Wd) (H : Hp) (x y : V) (a b : D) (c : Bool), Ex w.G H → Rs X.K X.mg w H x a → Rs X.K X.mg w H y b → f a b = some c →
  ∀ Q : VK, (∀ H', Ex H H' → Q (.bl c) H') → r x y H Q
theorem Cm2.op {r : R2} {f : D → D → Option Bool} (h : Cm2 X r f) : Op2 X r (fun a b => (f a b).map D.bl) := by
  intro w H x y a b d s ra rb e Q q
  dsimp only at e
  cases q1 : f a b with
  | none => rw [q1] at e; cases e
  | some c =>
    rw [q1] at e
    cases e
    exact h w H x y a b c s ra rb q1 Q fun H' g => q _ H' w ⟨Ex.refl _, rfl, g, s.trans g, fun _ _ h => .inl h⟩ (.bl c)
theorem Op2.or {r r' : R2} {f f' : D → D → Option D} (h : Op2 X r f) (h' : Op2 X r' f') : Op2 X (fun x y H Q => r x y H Q ∨ r' x y H Q) (fun a b => (f a b).or (f' a b)) := by
  intro w H x y a b d s ra rb e Q q
  dsimp only at e
  cases q1 : f a b with
  | none => rw [q1] at e; exact .inr (h' w H x y a b d s ra rb e Q q)
  | some c => rw [q1] at e; exact .inl (h w H x y a b d s ra rb (q1.trans e) Q q)
theorem Cm2.or {r r' : R2} {f f' : D → D → Option Bool} (h : Cm2 X r f) (h' : Cm2 X r' f') : Cm2 X (fun x y H Q => r x y H Q ∨ r' x y H Q) (fun a b => (f a b).or (f' a b)) := by
  intro w H x y a b d s ra rb e Q q
  dsimp only at e
  cases q1 : f a b with
  | none => rw [q1] at e; exact .inr (h' w H x y a b d s ra rb e Q q)
  | some c => rw [q1] at e; exact .inl (h w H x y a b d s ra rb (q1.trans e) Q q)
theorem OpR.or {f : Value → Value → Sem Value} {r r' : R2} (h : OpR X f r) (h' : OpR X f r') : OpR X f (fun x y H Q => r x y H Q ∨ r' x y H Q) := fun pins s σ H x y v u Q I rx ry q =>
  q.elim (h pins s σ H x y v u Q I rx ry) (h' pins s σ H x y v u Q I rx ry)
variable {a b c : Expr} {pos : Pos} {ma mb mc : M D}
theorem op_go {r : R2} {f : D → D → Option D} (hf : Op2 X r f) {Q : VK} (h : tD X.K X.mg W z (m_op f ma mb) σ H Q) : tD X.K X.mg W z ma σ H fun x H1 => tD X.K X.mg W z mb σ H1 fun y H2 => r x y H2 Q := by
  obtain ⟨w, ρ, S, h⟩ := h
  refine ⟨w, ρ, S, h.bind fun a v w1 H1 S1 st1 ra h1 => ⟨w1, ρ, S1, h1.bind fun b u w2 H2 S2 st2 rb h2 => ?_⟩⟩
  obtain ⟨d, e, k⟩ := h2.lift
  have ra' : Rr X.K X.mg w2 σ ρ v a := Rr.mono st2.le ra
  cases q1 : rsv ρ S2 a with
  | none => simp only [q1] at e; cases e
  | some a' =>
    cases q2 : rsv ρ S2 b with
    | none => simp only [q1, q2] at e; cases e
    | some b' =>
      simp only [q1, q2] at e
      exact hf w2 H2 v u a' b' d h2.t.sub (Rs.of h2.t h2.s ra' q1) (Rs.of h2.t h2.s rb q2) e Q fun v' H' w' g hd => k v' H' w' g (.inl hd)
theorem cmT_go {r : R2} {f : D → D → Option Bool} (hf : Cm2 X r f) {Q : Bool → Hp → Prop} (h : tT X.K X.mg W z (m_cmpT f ma mb) σ H Q) : tTest (tOp r (tD X.K X.mg W z ma) (tD X.K X.mg W z mb)) σ H Q := by
  obtain ⟨w, ρ, S, h⟩ := h
  refine ⟨w, ρ, S, h.bind fun a v w1 H1 S1 st1 ra h1 => ⟨w1, ρ, S1, h1.bind fun b u w2 H2 S2 st2 rb h2 => ?_⟩⟩
  obtain ⟨d, e, k⟩ := h2.lift
  have ra' : Rr X.K X.mg w2 σ ρ v a := Rr.mono st2.le ra
  cases q1 : rsv ρ S2 a with
  | none => simp only [q1] at e; cases e
  | some a' =>
    cases q2 : rsv ρ S2 b with
    | none => simp only [q1, q2] at e; cases e
    | some b' =>
      simp only [q1, q2] at e
      exact hf w2 H2 v u a' b' d h2.t.sub (Rs.of h2.t h2.s ra' q1) (Rs.of h2.t h2.s rb q2) e _ fun H' g => ⟨d, rfl, k d H' w2 ⟨Ex.refl _, rfl, g, h2.t.sub.trans g, fun _ _ h => .inl h⟩ rfl⟩
theorem pd_op {op : Operator} {r : R2} {f : D → D → Option D} (ho : OpR X (binaryOp op) r) (hf : Op2 X r f) (ha : PD X W z a ma) (hb : PD X W z b mb) : PD X W z (.BinOp a op b pos) (m_op f ma mb) :=
  pe_mono (pe_op ho ha hb) fun _ _ _ h => op_go hf h
theorem pd_cmp {op : CmpOp} {r : R2} {f : D → D → Option Bool} (ho : OpR X (compareOp op) r) (hf : Cm2 X r f) (ha : PD X W z a ma) (hb : PD X W z b mb) (hm : behindInMarks op b = false) : PD X W z (.Compare a [op] [b] pos) (m_cmp f ma mb) :=
  pe_mono (pe_cmpR ho ha hb hm) fun _ _ _ h => op_go hf.op h
theorem pdt_cmp {op : CmpOp} {r : R2} {f : D → D → Option Bool} (ho : OpR X (compareOp op) r) (hf : Cm2 X r f) (ha : PD X W z a ma) (hb : PD X W z b mb) (hm : behindInMarks op b = false) : PDT X W z (.Compare a [op] [b] pos) (m_cmpT f ma mb) :=
  pt_mono (pt_cmpR ho ha hb hm) fun _ _ _ h => cmT_go hf h
theorem pd_ix {r : R2} {f : D → D → Option D} (hr : IxR X r) (hf : Op2 X r f) (ha : PD X W z a ma) (hb : PD X W z b mb) (hs : PlainIx b) : PD X W z (.Subscript a b pos) (m_op f ma mb) :=
  pe_mono (pe_ix hr ha hb hs) fun _ _ _ h => op_go hf h

/-! ### chains -/
def m_chain (f g : D → D → Option Bool) (ma mb mc : M D) : M D := ma.bind fun a => mb.bind fun b =>
  (M.lift fun ρ S => match rsv ρ S a, rsv ρ S b with
    | some a', some b' => f a' b'
    | _, _ => none).bind fun k => if k = true then mc.bind fun c => M.lift fun ρ S => match rsv ρ S b, rsv ρ S c with
      | some b', some c' => (g b' c').map D.bl
      | _, _ => none
    else M.pure (.bl false)
theorem chain_go {r r' : R2} {f g : D → D → Option Bool} (hf : Cm2 X r f) (hg : Cm2 X r' g) {Q : VK} (h : tD X.K X.mg W z (m_chain f g ma mb mc) σ H Q) : tChain r r' (tD X.K X.mg W z ma) (tD X.K X.mg W z mb) (tD X.K X.mg W z mc) σ H Q := by
  obtain ⟨w, ρ, S, h⟩ := h
  refine ⟨w, ρ, S, h.bind fun a v w1 H1 S1 st1 ra h1 => ⟨w1, ρ, S1, h1.bind fun b u w2 H2 S2 st2 rb h2 => ?_⟩⟩
  have h2' : Do X.K X.mg W z relB w2 σ H2 ρ S2 _ (fun k H3 => if k = true then tD X.K X.mg W z mc σ H3 fun y H4 => r' u y H4 Q else Q (.bl false) H3) := h2.bind (rel1 := relB) fun k k' w3 H3 S3 st3 rk h3 => by
    have rk : k' = k := rk
    subst rk
    cases k' with
    | true =>
      show tD X.K X.mg W z mc σ H3 fun y H4 => r' u y H4 Q
      have h3 : Do X.K X.mg W z (relD X.K X.mg σ ρ) w3 σ H3 ρ S3 (mc.bind fun c => M.lift fun ρ S => match rsv ρ S b, rsv ρ S c with
        | some b', some c' => (g b' c').map D.bl
        | _, _ => none) Q := h3
      refine ⟨w3, ρ, S3, h3.bind fun c y w4 H4 S4 st4 rc h4 => ?_⟩
      obtain ⟨d, e, k⟩ := h4.lift
      have rb' : Rr X.K X.mg w4 σ ρ u b := Rr.mono (st3.le.trans st4.le) rb
      cases q1 : rsv ρ S4 b with
      | none => simp only [q1] at e; cases e
      | some b' =>
        cases q2 : rsv ρ S4 c with
        | none => simp only [q1, q2] at e; cases e
        | some c' =>
          simp only [q1, q2] at e
          exact hg.op w4 H4 u y b' c' d h4.t.sub (Rs.of h4.t h4.s rb' q1) (Rs.of h4.t h4.s rc q2) e Q fun v' H' w' gr hd => k v' H' w' gr (.inl hd)
    | false =>
      show Q (.bl false) H3
      have h3 : Do X.K X.mg W z (relD X.K X.mg σ ρ) w3 σ H3 ρ S3 (M.pure (.bl false)) Q := h3
      exact h3.pure _ (.inl (.bl false))
  obtain ⟨d, e, k⟩ := h2'.lift
  have ra' : Rr X.K X.mg w2 σ ρ v a := Rr.mono st2.le ra
  cases q1 : rsv ρ S2 a with
  | none => simp only [q1] at e; cases e
  | some a' =>
    cases q2 : rsv ρ S2 b with
    | none => simp only [q1, q2] at e; cases e
    | some b' =>
      simp only [q1, q2] at e
      exact hf w2 H2 v u a' b' d h2.t.sub (Rs.of h2.t h2.s ra' q1) (Rs.of h2.t h2.s rb q2) e _ fun H' gr => ⟨d, rfl, k d H' w2 ⟨Ex.refl _, rfl, gr, h2.t.sub.trans gr, fun _ _ h => .inl h⟩ rfl⟩
theorem pd_chain {op op' : CmpOp} {r r' : R2} {f g : D → D → Option Bool} (ho : OpR X (compareOp op) r) (ho' : OpR X (compareOp op') r') (hf : Cm2 X r f) (hg : Cm2 X r' g) (ha : PD X W z a ma) (hb : PD X W z b mb) (hc : PD X W z c mc)
    (hm : lastMarks [op, op'] [b, c] = false := by with_unfolding_all rfl) : PD X W z (.Compare a [op, op'] [b, c] pos) (m_chain f g ma mb mc) :=
  pe_mono (pe_chain ho ho' ha hb hc hm) fun _ _ _ h => chain_go hf hg h
/-- a value that is a bool, as a test -/
def m_isT (m : M D) : M Bool := m.bind fun d => M.lift fun _ _ => match d with
  | .bl b => some b
  | _ => none
theorem test_go {m : M D} {Q : Bool → Hp → Prop} (h : tT X.K X.mg W z (m_isT m) σ H Q) : tTest (tD X.K X.mg W z m) σ H Q := by
  obtain ⟨w, ρ, S, h⟩ := h
  refine ⟨w, ρ, S, h.bind fun d v w1 H1 S1 st rd h1 => ?_⟩
  obtain ⟨b, e, k⟩ := h1.lift
  cases d with
  | bl c =>
    cases e
    rcases rd with rd | ⟨_, _, z, _⟩
    · cases rd
      exact ⟨b, rfl, k b H1 w1 (Grow.refl h1.t.sub) rfl⟩
    · cases z
  | _ => cases e
theorem pdt_chain {op op' : CmpOp} {r r' : R2} {f g : D → D → Option Bool} (ho : OpR X (compareOp op) r) (ho' : OpR X (compareOp op') r') (hf : Cm2 X r f) (hg : Cm2 X r' g) (ha : PD X W z a ma) (hb : PD X W z b mb) (hc : PD X W z c mc)
    (hm : lastMarks [op, op'] [b, c] = false := by with_unfolding_all rfl) : PDT X W z (.Compare a [op, op'] [b, c] pos) (m_isT (m_chain f g ma mb mc)) :=
  pt_mono (pt_chain ho ho' ha hb hc hm) fun σ H Q h => by
    have := test_go h
    obtain ⟨w, ρ, S, h'⟩ := h
    have h2 : tD X.K X.mg W z (m_chain f g ma mb mc) σ H fun x H' => ∃ k, x = .bl k ∧ Q k H' := this
    exact chain_go hf hg h2

/-! ### truth, and, or, not, if else -/
def truth : D → Option Bool
  | .non => some false
  | .bl b => some b
  | .int i => some (i != 0)
  | .str y => if y.length ≤ sizeLine then some ((y.length : Int) != 0) else none
  | .tup ds => some (!ds.isEmpty)
  | .lst ds => some (!ds.isEmpty)
  | _ => none
theorem truth_ok {x : V} {d : D} {k : Bool} (sub : Ex w.G H) (r : Rs X.K X.mg w H x d) (e : truth d = some k) : TruV X.K x H k := by
  have emp : ∀ {xs : List V} {ds : List D}, DtA X.K X.mg w xs ds → xs.isEmpty = ds.isEmpty := fun h => by cases h <;> rfl
  cases d with
  | non => cases r; cases e; rfl
  | bl b => cases r; cases e; rfl
  | int i => cases r; cases e; rfl
  | str y =>
    cases r
    simp only [truth] at e
    split at e
    · cases e
      exact ⟨by assumption, rfl⟩
    · cases e
  | tup ds =>
    obtain ⟨a, xs, rfl, h, hs⟩ := r
    cases e
    exact .inr (.inl ⟨xs, ex_t sub h, by rw [emp hs]⟩)
  | lst ds =>
    obtain ⟨a, xs, rfl, h, hs⟩ := r
    cases e
    exact .inl ⟨xs, .inl h, by rw [emp hs]⟩
  | _ => cases e
def m_tr (m : M D) : M Bool := m.bind fun d => M.lift fun ρ S => (rsv ρ S d).bind truth
theorem tru_go {m : M D} {γ δ : Type} {rel : Rel δ γ} {f : D → Bool → M γ} {Q : δ → Hp → Prop} (h : Do X.K X.mg W z rel w σ H ρ S (m.bind fun d => (M.lift fun ρ S => (rsv ρ S d).bind truth).bind (f d)) Q) {k : V → Bool → Hp → Prop}
    (hk : ∀ d v b w1 H1 S1, Rr X.K X.mg w1 σ ρ v d → Do X.K X.mg W z rel w1 σ H1 ρ S1 (f d b) Q → k v b H1) : tD X.K X.mg W z m σ H fun x H1 => ∃ b, TruV X.K x H1 b ∧ k x b H1 := by
  refine ⟨w, ρ, S, h.bind fun d v w1 H1 S1 st rd h1 => ?_⟩
  have h2 : Do X.K X.mg W z relB w1 σ H1 ρ S1 (M.lift fun ρ S => (rsv ρ S d).bind truth) (fun b H2 => H2 = H1 → k v b H1) := by
    obtain ⟨t, s, r, S', e, p⟩ := h1
    refine ⟨t, s, ?_⟩
    unfold M.bind at e
    cases q : (M.lift fun ρ S => (rsv ρ S d).bind truth) ρ S1 with
    | none => rw [q] at e; cases e
    | some x =>
      obtain ⟨r1, S2⟩ := x
      rw [q] at e
      refine ⟨r1, S2, rfl, ?_⟩
      unfold M.lift at q
      dsimp only at q
      cases q2 : (rsv ρ S1 d).bind truth with
      | none => rw [q2] at q; cases q
      | some b =>
        rw [q2] at q
        cases q
        intro b' H2 w2 st2 t2 rl e2
        have rl : b' = b := rl
        subst rl
        exact hk d v b' w1 H1 S1 rd ⟨t, s, r, S', e, p⟩
  obtain ⟨b, e, kk⟩ := h2.lift
  cases q : rsv ρ S1 d with
  | none => rw [q] at e; cases e
  | some d' =>
    rw [q] at e
    exact ⟨b, truth_ok h1.t.sub (Rs.of h1.t h1.s rd q) e, kk b H1 w1 (Grow.refl h1.t.sub) rfl rfl⟩
def m_and (ma mb : M D) : M D := ma.bind fun a => (M.lift fun ρ S => (rsv ρ S a).bind truth).bind fun k => if k = true then mb else M.pure a
def m_or (ma mb : M D) : M D := ma.bind fun a => (M.lift fun ρ S => (rsv ρ S a).bind truth).bind fun k => if k = true then M.pure a else mb
def m_not (ma : M D) : M D := ma.bind fun a => (M.lift fun ρ S => (rsv ρ S a).bind truth).bind fun k => M.pure (.bl (!k))
def mt_and (ma mb : M Bool) : M Bool := ma.bind fun k => if k = true then mb else M.pure false
def mt_or (ma mb : M Bool) : M Bool := ma.bind fun k => if k = true then M.pure true else mb
def mt_not (ma : M Bool) : M Bool := ma.bind fun k => M.pure (!k)
def m_if (mt : M Bool) (ma mb : M D) : M D := mt.bind fun k => if k = true then ma else mb
variable {rest : List Expr} {e : Expr} {mt mu : M Bool}
theorem pd_one {op : BoolOp} (h : PD X W z a ma) : PD X W z (.BoolOp op [a] pos) ma := pe_one h
theorem pd_and (ha : PD X W z a ma) (hb : PD X W z (.BoolOp .And (b :: rest) pos) mb) : PD X W z (.BoolOp .And (a :: b :: rest) pos) (m_and ma mb) :=
  pe_mono (pe_andT ha hb) fun σ H Q h => by
    obtain ⟨w, ρ, S, h⟩ := h
    refine tru_go (k := fun x b H1 => if b = true then tD X.K X.mg W z mb σ H1 Q else Q x H1) h fun d v b w1 H1 S1 rd h1 => ?_
    cases b with
    | true => exact ⟨w1, ρ, S1, h1⟩
    | false => exact h1.pure v rd
theorem pd_or (ha : PD X W z a ma) (hb : PD X W z (.BoolOp .Or (b :: rest) pos) mb) : PD X W z (.BoolOp .Or (a :: b :: rest) pos) (m_or ma mb) :=
  pe_mono (pe_orT ha hb) fun σ H Q h => by
    obtain ⟨w, ρ, S, h⟩ := h
    refine tru_go (k := fun x b H1 => if b = true then Q x H1 else tD X.K X.mg W z mb σ H1 Q) h fun d v b w1 H1 S1 rd h1 => ?_
    cases b with
    | true => exact h1.pure v rd
    | false => exact ⟨w1, ρ, S1, h1⟩
theorem pd_not (ha : PD X W z a ma) : PD X W z (.UnaryOp .Not a pos) (m_not ma) :=
  pe_mono (pe_notT ha) fun σ H Q h => by
    obtain ⟨w, ρ, S, h⟩ := h
    exact tru_go (k := fun x b H1 => Q (.bl (!b)) H1) h fun d v b w1 H1 S1 rd h1 => h1.pure _ (.inl (.bl _))
theorem pdt_val (ha : PD X W z a ma) (he : ∀ whole, isTrue a X.env whole = (do let v ← whole; standAt a.pos; holding [v] (truthy v)) := by intro _; rfl) : PDT X W z a (m_tr ma) :=
  pt_mono (pt_truth ha he) fun σ H Q h => by
    obtain ⟨w, ρ, S, h⟩ := h
    have h' : Do X.K X.mg W z relB w σ H ρ S (ma.bind fun d => (M.lift fun ρ S => (rsv ρ S d).bind truth).bind fun b => M.pure b) Q := by
      obtain ⟨t, s, r, S', e, p⟩ := h
      refine ⟨t, s, r, S', ?_, p⟩
      rw [← e]
      unfold m_tr M.bind
      cases ma ρ S with
      | none => rfl
      | some x =>
        obtain ⟨r1, S1⟩ := x
        cases r1 with
        | er c fs => rfl
        | ok d =>
          dsimp only [M.lift, M.pure]
          cases (rsv ρ S1 d).bind truth <;> rfl
    exact tru_go (k := fun x b H1 => Q b H1) h' fun d v b w1 H1 S1 rd h1 => h1.pure _ rfl
theorem pdw_and1 (ha : PDT X W z a mt) : PDW X W z (.BoolOp .And [a] pos) mt := pw_and1 ha
theorem pdw_or1 (ha : PDT X W z a mt) : PDW X W z (.BoolOp .Or [a] pos) mt := pw_or1 ha
theorem pdw_and (ha : PDT X W z a mt) (hb : PDW X W z (.BoolOp .And (b :: rest) pos) mu) : PDW X W z (.BoolOp .And (a :: b :: rest) pos) (mt_and mt mu) :=
  pw_mono (pw_and ha hb) fun σ H Q h => by
    obtain ⟨w, ρ, S, h⟩ := h
    refine ⟨w, ρ, S, h.bind (rel1 := relB) fun k k' w1 H1 S1 st rk h1 => ?_⟩
    have rk : k' = k := rk
    subst rk
    cases k' with
    | true => exact ⟨w1, ρ, S1, h1⟩
    | false => exact h1.pure _ rfl
theorem pdw_or (ha : PDT X W z a mt) (hb : PDW X W z (.BoolOp .Or (b :: rest) pos) mu) : PDW X W z (.BoolOp .Or (a :: b :: rest) pos) (mt_or mt mu) :=
  pw_mono (pw_or ha hb) fun σ H Q h => by
    obtain ⟨w, ρ, S, h⟩ := h
    refine ⟨w, ρ, S, h.bind (rel1 := relB) fun k k' w1 H1 S1 st rk h1 => ?_⟩
    have rk : k' = k := rk
    subst rk
    cases k' with
    | true => exact h1.pure _ rfl
    | false => exact ⟨w1, ρ, S1, h1⟩
theorem pdt_bool (h : PDW X W z e mt) : PDT X W z e mt := h.pt
theorem pdt_not (ha : PDT X W z a mt) : PDT X W z (.UnaryOp .Not a pos) (mt_not mt) :=
  pt_mono (pt_not ha) fun σ H Q h => by
    obtain ⟨w, ρ, S, h⟩ := h
    refine ⟨w, ρ, S, h.bind (rel1 := relB) fun k k' w1 H1 S1 st rk h1 => ?_⟩
    have rk : k' = k := rk
    subst rk
    exact h1.pure _ rfl
theorem pd_if {ct : Expr} (hc : PDT X W z ct mt) (ha : PD X W z a ma) (hb : PD X W z b mb) : PD X W z (.IfExp ct a b pos) (m_if mt ma mb) :=
  pe_mono (pe_ifExp hc ha hb) fun σ H Q h => by
    obtain ⟨w, ρ, S, h⟩ := h
    refine ⟨w, ρ, S, h.bind (rel1 := relB) fun k k' w1 H1 S1 st rk h1 => ?_⟩
    have rk : k' = k := rk
    subst rk
    cases k' with
    | true => exact ⟨w1, ρ, S1, h1⟩
    | false => exact ⟨w1, ρ, S1, h1⟩

/-! ### argument lists, tuples, lists -/
def ma_nil : M (List D) := M.pure []
def ma_cons (m : M D) (ms : M (List D)) : M (List D) := m.bind fun d => ms.bind fun ds => M.pure (d :: ds)
variable {es : List Expr} {ms : M (List D)}
theorem pda_nil : PDA X W z [] ma_nil := pa_mono pa_nil fun σ H Q h => by
  obtain ⟨w, ρ, S, h⟩ := h
  exact h.pure [] .nil
theorem pda_cons (ha : PD X W z e ma) (hr : PDA X W z es ms) (hs : starEach (e :: es) X.env = (false, eval e X.env) :: starEach es X.env := by rfl) : PDA X W z (e :: es) (ma_cons ma ms) :=
  pa_mono (pa_cons ha hr hs) fun σ H Q h => by
    obtain ⟨w, ρ, S, h⟩ := h
    refine ⟨w, ρ, S, h.bind fun d v w1 H1 S1 st1 rd h1 => ⟨w1, ρ, S1, h1.bind (rel1 := relA X.K X.mg σ ρ) fun ds vs w2 H2 S2 st2 rds h2 => ?_⟩⟩
    exact h2.pure (v :: vs) (.cons (Rr.mono st2.le rd) rds)
/-- no list that still changes -/
def fixed : D → Bool
  | .loc _ => false
  | _ => true
theorem RrA.fix {vs : List V} {ds : List D} (h : RrA K mg w σ ρ vs ds) (f : ds.all fixed = true) : DtA K mg w vs ds := by
  induction h with
  | nil => exact .nil
  | cons h hs ih =>
    simp only [List.all_cons, Bool.and_eq_true] at f
    refine .cons ?_ (ih f.2)
    rcases h with h | ⟨i, o, rfl, _⟩
    · exact h
    · exact absurd f.1 (by simp [fixed])
def m_tup (ms : M (List D)) : M D := ms.bind fun ds => M.lift fun _ _ => if ds.all fixed = true ∧ ds.length ≤ sizeLine then some (.tup ds) else none
def m_lst (ms : M (List D)) : M D := ms.bind fun ds => M.lift fun _ _ => if ds.all fixed = true ∧ ds.length ≤ sizeLine then some (.lst ds) else none
theorem pd_tup {k : Nat} (h : PDA X W z es ms) : PD X W z (.Tuple es k pos) (m_tup ms) :=
  pe_mono (pe_tup h) fun σ H Q h => by
    obtain ⟨w, ρ, S, h⟩ := h
    refine ⟨w, ρ, S, h.bind (rel1 := relA X.K X.mg σ ρ) fun ds vs w1 H1 S1 st rds h1 => ?_⟩
    obtain ⟨d, e, k⟩ := h1.lift
    split at e
    · rename_i c
      cases e
      have hd := rds.fix c.1
      refine ⟨by rw [hd.length]; exact c.2, fun p np => ?_⟩
      have g := Grow.new (o := .tup vs) h1.t.sub np
      exact k _ _ _ g (.inl (.tup (st_of upd_same) (hd.mono g.le)))
    · cases e
theorem pd_lst (h : PDA X W z es ms) : PD X W z (.List es pos) (m_lst ms) :=
  pe_mono (pe_lst h) fun σ H Q h => by
    obtain ⟨w, ρ, S, h⟩ := h
    refine ⟨w, ρ, S, h.bind (rel1 := relA X.K X.mg σ ρ) fun ds vs w1 H1 S1 st rds h1 => ?_⟩
    obtain ⟨d, e, k⟩ := h1.lift
    split at e
    · rename_i c
      cases e
      have hd := rds.fix c.1
      refine ⟨by rw [hd.length]; exact c.2, fun p np => ?_⟩
      have g := Grow.new (o := .lst vs) h1.t.sub np
      exact k _ _ _ g (.inl (.lst (Rd.of upd_same) (hd.mono g.le)))
    · cases e
end
end Pd

/-! Statements whose meaning is a function of data. -/
namespace Pd
open PySem L2 Evl Hg

theorem ps_mono {X : Cx} {st : Stmt} {t t' : TS} (h : PS X st t) (k : ∀ D σ H, t' D σ H → t D σ H) : PS X st t' := ⟨fun pins s σ H D I w => h.run pins s σ H D I (k D σ H w)⟩
theorem pss_mono {X : Cx} {st : List Stmt} {t t' : TS} (h : PSs X st t) (k : ∀ D σ H, t' D σ H → t D σ H) : PSs X st t' := ⟨fun pins s σ H D I w => h.run pins s σ H D I (k D σ H w)⟩
theorem pg_mono {X : Cx} {e : Expr} {t t' : TG} (h : PG X e t) (k : ∀ v σ H Q, t' v σ H Q → t v σ H Q) : PG X e t' := ⟨fun pins s σ H v u Q I r w => h.run pins s σ H v u Q I r (k v σ H Q w)⟩
theorem pgs_mono {X : Cx} {e : List Expr} {t t' : TGs} (h : PGs X e t) (k : ∀ v σ H Q, t' v σ H Q → t v σ H Q) : PGs X e t' := ⟨fun pins s σ H v u Q I r w => h.run pins s σ H v u Q I r (k v σ H Q w)⟩

inductive Fl where
  | nx | bk | ct | rt (d : D) | er (c : Str) (fs : List (Str × D))
abbrev SM := Rho → Sto → Option (Fl × Rho × Sto)
def M.toS {α : Type} (m : M α) (f : α → SM) : SM := fun ρ S =>
  match m ρ S with
  | some (.ok a, S1) => f a ρ S1
  | some (.er c fs, S1) => some (.er c fs, ρ, S1)
  | none => none
/-- the world and the heap at a def's entry -/
structure W0 where
  w : Wd
  h : Hp
section
variable (K : PySem.W.Frag) (mg : Str → Option Value) (W : WX) (z : Option Zi) (w0 : W0)
structure StS (w : Wd) (σ : L2.St) (H : Hp) (ρ : Rho) (S : Sto) : Prop where
  t : At K mg w H S
  s : Sl K mg z w H σ ρ
  lo : ∀ (i : Nat) (o : Mo) (a : Addr), ρ[i]? = some (Sv.m o) → σ[i]? = some (some (.ref a)) → w0.h a = none
  st : Stp w0.w w w0.h H
def Pss (w : Wd) (fl : Fl) (ρ' : Rho) (S' : Sto) (Dn : Ends) : Prop :=
  match fl with
  | .nx => ∀ σ' H' w', Le w w' → StS K mg z w0 w' σ' H' ρ' S' → Dn.nx σ' H'
  | .bk => ∀ σ' H' w', Le w w' → StS K mg z w0 w' σ' H' ρ' S' → Dn.bk σ' H'
  | .ct => ∀ σ' H' w', Le w w' → StS K mg z w0 w' σ' H' ρ' S' → Dn.ct σ' H'
  | .rt d => ∀ v σ' H' w', Le w w' → StS K mg z w0 w' σ' H' ρ' S' → Dt K mg w' v d → Dn.rt v H'
  | .er c fs => ∀ σ' H' w' cls dx, Le w w' → StS K mg z w0 w' σ' H' ρ' S' → Xr K mg w' cls dx c fs → W cls dx σ' H'
structure DoS (w : Wd) (σ : L2.St) (H : Hp) (ρ : Rho) (S : Sto) (m : SM) (Dn : Ends) : Prop where
  st : StS K mg z w0 w σ H ρ S
  go : ∃ fl ρ' S', m ρ S = some (fl, ρ', S') ∧ Pss K mg W z w0 w fl ρ' S' Dn
def tS (m : SM) : TS := fun Dn σ H => ∃ w ρ S, DoS K mg W z w0 w σ H ρ S m Dn
end
section
variable (X : Cx) (W : WX) (z : Option Zi) (w0 : W0)
abbrev PDS (st : Stmt) (m : SM) : Prop := PS X st (tS X.K X.mg W z w0 m)
abbrev PDSs (sts : List Stmt) (m : SM) : Prop := PSs X sts (tS X.K X.mg W z w0 m)
/-- the slots of tv alone are other ones -/
structure Sam (tv : List Nat) (σ σ' : L2.St) (ρ ρ' : Rho) : Prop where
  l : ρ'.length = ρ.length
  σ : ∀ i, i ∉ tv → σ'[i]? = σ[i]?
  ρ : ∀ (i : Nat) (o : Mo), ρ'[i]? = some (Sv.m o) → i ∉ tv ∧ ρ[i]? = some (Sv.m o)
/-- a target's meaning -/
def tG (K : PySem.W.Frag) (mg : Str → Option Value) (z : Option Zi) (tv : List Nat) (g : D → Rho → Option Rho) : TG := fun v σ H Q => ∃ w ρ S d ρ', At K mg w H S ∧ Sl K mg z w H σ ρ ∧ Dt K mg w v d ∧ g d ρ = some ρ' ∧ ∀ σ', Sl K mg z w H σ' ρ' → Sam tv σ σ' ρ ρ' → Q σ' H
def tGs (K : PySem.W.Frag) (mg : Str → Option Value) (z : Option Zi) (tv : List Nat) (g : List D → Rho → Option Rho) : TGs := fun vs σ H Q => ∃ w ρ S ds ρ', At K mg w H S ∧ Sl K mg z w H σ ρ ∧ DtA K mg w vs ds ∧ g ds ρ = some ρ' ∧ ∀ σ', Sl K mg z w H σ' ρ' → Sam tv σ σ' ρ ρ' → Q σ' H
abbrev PDG (tv : List Nat) (e : Expr) (g : D → Rho → Option Rho) : Prop := PG X e (tG X.K X.mg z tv g)
abbrev PDGs (tv : List Nat) (es : List Expr) (g : List D → Rho → Option Rho) : Prop := PGs X es (tGs X.K X.mg z tv g)
end
section
variable {X : Cx} {W : WX} {z : Option Zi} {w0 : W0} {w w' : Wd} {σ : L2.St} {H H' : Hp} {ρ ρ' : Rho} {S S' : Sto} {Dn : Ends}
theorem Pss.mono {K : PySem.W.Frag} {mg : Str → Option Value} {fl : Fl} (l : Le w w') (p : Pss K mg W z w0 w fl ρ' S' Dn) : Pss K mg W z w0 w' fl ρ' S' Dn := by
  cases fl with
  | nx => exact fun σ' H' w2 l2 s => p σ' H' w2 (l.trans l2) s
  | bk => exact fun σ' H' w2 l2 s => p σ' H' w2 (l.trans l2) s
  | ct => exact fun σ' H' w2 l2 s => p σ' H' w2 (l.trans l2) s
  | rt d => exact fun v σ' H' w2 l2 s => p v σ' H' w2 (l.trans l2) s
  | er c fs => exact fun σ' H' w2 cls dx l2 s => p σ' H' w2 cls dx (l.trans l2) s
theorem StS.step (s : StS X.K X.mg z w0 w σ H ρ S) (x : Stp w w' H H') (t : At X.K X.mg w' H' S') : StS X.K X.mg z w0 w' σ H' ρ S' := ⟨t, s.s.step x, s.lo, s.st.trans x⟩
theorem DoS.bind {α β : Type} {rel : Rel β α} {m : M α} {f : α → SM} {k : β → Hp → Prop} (h : DoS X.K X.mg W z w0 w σ H ρ S (m.toS f) Dn)
    (hk : ∀ a v w1 H1 S1, Stp w w1 H H1 → rel w1 H1 v a → DoS X.K X.mg W z w0 w1 σ H1 ρ S1 (f a) Dn → k v H1) : Do X.K X.mg W z rel w σ H ρ S m k := by
  obtain ⟨st, fl, ρ', S', e, p⟩ := h
  refine ⟨st.t, st.s, ?_⟩
  unfold M.toS at e
  cases q : m ρ S with
  | none => rw [q] at e; cases e
  | some x =>
    obtain ⟨r1, S1⟩ := x
    rw [q] at e
    refine ⟨r1, S1, rfl, ?_⟩
    cases r1 with
    | er c fs =>
      cases e
      exact fun H' w' cls dx x t' xr => p σ H' w' cls dx x.le (st.step x t') xr
    | ok a =>
      intro v H1 w1 x t1 rl
      exact hk a v w1 H1 S1 x rl ⟨st.step x t1, fl, ρ', S', e, p.mono x.le⟩

/-! ### rows of statements -/
def s_nx : SM := fun ρ S => some (.nx, ρ, S)
def s_seq (m n : SM) : SM := fun ρ S =>
  match m ρ S with
  | some (.nx, ρ1, S1) => n ρ1 S1
  | r => r
theorem DoS.nx (h : DoS X.K X.mg W z w0 w σ H ρ S s_nx Dn) : Dn.nx σ H := by
  obtain ⟨st, fl, ρ', S', e, p⟩ := h
  cases e
  exact p σ H w (Le.refl w) st
theorem DoS.seq {m n : SM} (h : DoS X.K X.mg W z w0 w σ H ρ S (s_seq m n) Dn) : DoS X.K X.mg W z w0 w σ H ρ S m { Dn with nx := tS X.K X.mg W z w0 n Dn } := by
  obtain ⟨st, fl, ρ', S', e, p⟩ := h
  refine ⟨st, ?_⟩
  unfold s_seq at e
  cases q : m ρ S with
  | none => rw [q] at e; cases e
  | some x =>
    obtain ⟨f1, ρ1, S1⟩ := x
    rw [q] at e
    refine ⟨f1, ρ1, S1, rfl, ?_⟩
    cases f1 with
    | nx => exact fun σ1 H1 w1 l s1 => ⟨w1, ρ1, S1, s1, fl, ρ', S', e, p.mono l⟩
    | bk => cases e; exact p
    | ct => cases e; exact p
    | rt d => cases e; exact p
    | er c fs => cases e; exact p
variable {st : Stmt} {rest : List Stmt} {m n : SM} {e : Expr} {me : M D} {pos : Pos}
theorem pds_nil : PDSs X W z w0 [] s_nx := pss_mono pss_nil fun Dn σ H h => by
  obtain ⟨w, ρ, S, h⟩ := h
  exact h.nx
theorem pds_cons (h1 : PDS X W z w0 st m) (h2 : PDSs X W z w0 rest n) : PDSs X W z w0 (st :: rest) (s_seq m n) := pss_mono (pss_cons h1 h2) fun Dn σ H h => by
  obtain ⟨w, ρ, S, h⟩ := h
  exact ⟨w, ρ, S, h.seq⟩
theorem pds_onE (h1 : PDS X W z w0 st m) : PDSs X W z w0 [st] m := pss_one h1
def s_bk : SM := fun ρ S => some (.bk, ρ, S)
def s_ct : SM := fun ρ S => some (.ct, ρ, S)
theorem pds_pass : PDS X W z w0 (.Pass pos) s_nx := ps_mono ps_pass fun Dn σ H h => by
  obtain ⟨w, ρ, S, h⟩ := h
  exact h.nx
theorem pds_break : PDS X W z w0 (.Break pos) s_bk := ps_mono ps_break fun Dn σ H h => by
  obtain ⟨w, ρ, S, st, fl, ρ', S', e, p⟩ := h
  cases e
  exact p σ H w (Le.refl w) st
theorem pds_continue : PDS X W z w0 (.Continue pos) s_ct := ps_mono ps_continue fun Dn σ H h => by
  obtain ⟨w, ρ, S, st, fl, ρ', S', e, p⟩ := h
  cases e
  exact p σ H w (Le.refl w) st
/-- an expression, dropped -/
def s_ex (me : M D) : SM := me.toS fun _ => s_nx
theorem pds_expr (he : PD X W z e me) (hs : swapsWith e none pos.line X.env = pure false := by rfl) : PDS X W z w0 (.Expr e pos) (s_ex me) := ps_mono (ps_expr he hs) fun Dn σ H h => by
  obtain ⟨w, ρ, S, h⟩ := h
  exact ⟨w, ρ, S, h.bind fun d v w1 H1 S1 x rd h1 => h1.nx⟩
def s_ret (me : M D) : SM := me.toS fun d ρ S => if fixed d = true then some (.rt d, ρ, S) else none
theorem pds_ret (he : PD X W z e me) : PDS X W z w0 (.Return (some e) pos) (s_ret me) := ps_mono (ps_ret he) fun Dn σ H h => by
  obtain ⟨w, ρ, S, h⟩ := h
  refine ⟨w, ρ, S, h.bind fun d v w1 H1 S1 x rd h1 => ?_⟩
  obtain ⟨st, fl, ρ', S', e, p⟩ := h1
  split at e
  · rename_i f
    cases e
    rcases rd with rd | ⟨i, o, rfl, _⟩
    · exact p v σ H1 w1 (Le.refl _) st rd
    · exact absurd f (by simp [fixed])
  · cases e
def s_retN : SM := fun ρ S => some (.rt .non, ρ, S)
theorem pds_retN : PDS X W z w0 (.Return none pos) s_retN := ps_mono ps_retN fun Dn σ H h => by
  obtain ⟨w, ρ, S, st, fl, ρ', S', e, p⟩ := h
  cases e
  exact p .non σ H w (Le.refl w) st .non
def s_if (mt : M Bool) (m n : SM) : SM := mt.toS fun b => if b = true then m else n
theorem pds_if {c : Expr} {a b : List Stmt} {mt : M Bool} (hc : PDT X W z c mt) (ha : PDSs X W z w0 a m) (hb : PDSs X W z w0 b n) : PDS X W z w0 (.If c a b pos) (s_if mt m n) := ps_mono (ps_if hc ha hb) fun Dn σ H h => by
  obtain ⟨w, ρ, S, h⟩ := h
  refine ⟨w, ρ, S, h.bind (rel := relB) fun k k' w1 H1 S1 x rk h1 => ?_⟩
  have rk : k' = k := rk
  subst rk
  cases k' with
  | true => exact ⟨w1, ρ, S1, h1⟩
  | false => exact ⟨w1, ρ, S1, h1⟩

/-! ### slots -/
theorem set_get {α : Type} {l : List α} {i j : Nat} {a b : α} (h : (l.set i a)[j]? = some b) : (j = i ∧ b = a) ∨ (j ≠ i ∧ l[j]? = some b) := by
  by_cases e : j = i
  · subst e
    have := (List.getElem?_eq_some_iff.mp h).1
    rw [List.length_set] at this
    rw [List.getElem?_set_self this] at h
    exact .inl ⟨rfl, (Option.some.inj h).symm⟩
  · rw [List.getElem?_set_ne (Ne.symm e)] at h
    exact .inr ⟨e, h⟩
/-- slot i gets a datum -/
theorem Sl.set {v : V} {d : D} {i : Nat} (s : Sl X.K X.mg z w H σ ρ) (h : Dt X.K X.mg w v d) (hz : ∀ zi : Zi, z = some zi → zi.i ≠ i) : Sl X.K X.mg z w H (σ.set i (some v)) (ρ.set i (.d d)) := by
  refine ⟨by simp [s.len], fun j d' e => ?_, fun j o e => ?_, fun j k oj ok a e1 e2 e3 e4 => ?_, fun zi e => ?_⟩
  · rcases set_get e with ⟨rfl, e2⟩ | ⟨n, e2⟩
    · cases e2
      refine ⟨v, List.getElem?_set_self ?_, h⟩
      have := (List.getElem?_eq_some_iff.mp e).1
      rw [s.len]
      simpa using this
    · obtain ⟨u, e', r⟩ := s.dat j d' e2
      exact ⟨u, by rw [List.getElem?_set_ne (Ne.symm n)]; exact e', r⟩
  · rcases set_get e with ⟨rfl, e2⟩ | ⟨n, e2⟩
    · cases e2
    · obtain ⟨a, e', r⟩ := s.mt j o e2
      exact ⟨a, by rw [List.getElem?_set_ne (Ne.symm n)]; exact e', r⟩
  · rcases set_get e1 with ⟨_, e⟩ | ⟨n1, e1⟩
    · cases e
    rcases set_get e2 with ⟨_, e⟩ | ⟨n2, e2⟩
    · cases e
    rw [List.getElem?_set_ne (Ne.symm n1)] at e3
    rw [List.getElem?_set_ne (Ne.symm n2)] at e4
    exact s.sep j k oj ok a e1 e2 e3 e4
  · rw [List.getElem?_set_ne (Ne.symm (hz zi e))]
    exact s.exc zi e
theorem StS.set {v : V} {d : D} {i : Nat} (s : StS X.K X.mg z w0 w σ H ρ S) (h : Dt X.K X.mg w v d) (hz : ∀ zi : Zi, z = some zi → zi.i ≠ i) : StS X.K X.mg z w0 w (σ.set i (some v)) H (ρ.set i (.d d)) S := by
  refine ⟨s.t, s.s.set h hz, fun j o a e1 e2 => ?_, s.st⟩
  rcases set_get e1 with ⟨_, e⟩ | ⟨n, e1⟩
  · cases e
  rw [List.getElem?_set_ne (Ne.symm n)] at e2
  exact s.lo j o a e1 e2
/-- slot i gets a new thing that may change -/
theorem StS.setM {o : Mo} {a : Addr} {i : Nat} (s : StS X.K X.mg z w0 w σ H ρ S) (hg : w.G a = none) (hn : a ∉ w.al) (hm : MoOk X.K X.mg w H a o) (h0 : w0.h a = none) (hz : ∀ zi : Zi, z = some zi → zi.i ≠ i)
    (hf : ∀ (j : Nat) (o' : Mo), j ≠ i → ρ[j]? = some (Sv.m o') → σ[j]? ≠ some (some (.ref a))) : StS X.K X.mg z w0 w (σ.set i (some (.ref a))) H (ρ.set i (.m o)) S := by
  refine ⟨s.t, ⟨by simp [s.s.len], fun j d' e => ?_, fun j o e => ?_, fun j k oj ok b e1 e2 e3 e4 => ?_, fun zi e => ?_⟩, fun j o' b e1 e2 => ?_, s.st⟩
  · rcases set_get e with ⟨_, e⟩ | ⟨n, e⟩
    · cases e
    · obtain ⟨u, e', r⟩ := s.s.dat j d' e
      exact ⟨u, by rw [List.getElem?_set_ne (Ne.symm n)]; exact e', r⟩
  · rcases set_get e with ⟨rfl, e2⟩ | ⟨n, e⟩
    · cases e2
      refine ⟨a, List.getElem?_set_self ?_, hg, hn, hm⟩
      have := (List.getElem?_eq_some_iff.mp e).1
      rw [s.s.len]
      simpa using this
    · obtain ⟨b, e', r⟩ := s.s.mt j o e
      exact ⟨b, by rw [List.getElem?_set_ne (Ne.symm n)]; exact e', r⟩
  · rcases set_get e1 with ⟨rfl, _⟩ | ⟨n1, f1⟩
    · rcases set_get e2 with ⟨rfl, _⟩ | ⟨n2, f2⟩
      · rfl
      · rw [List.getElem?_set_ne (Ne.symm n2)] at e4
        rcases set_get e3 with ⟨_, e⟩ | ⟨n, _⟩
        · cases e
          exact absurd e4 (hf k ok n2 f2)
        · exact absurd rfl n
    · rw [List.getElem?_set_ne (Ne.symm n1)] at e3
      rcases set_get e2 with ⟨rfl, _⟩ | ⟨n2, f2⟩
      · rcases set_get e4 with ⟨_, e⟩ | ⟨n, _⟩
        · cases e
          exact absurd e3 (hf j oj n1 f1)
        · exact absurd rfl n
      · rw [List.getElem?_set_ne (Ne.symm n2)] at e4
        exact s.s.sep j k oj ok b f1 f2 e3 e4
  · rw [List.getElem?_set_ne (Ne.symm (hz zi e))]
    exact s.s.exc zi e
  · rcases set_get e1 with ⟨rfl, _⟩ | ⟨n, e1⟩
    · rcases set_get e2 with ⟨_, e⟩ | ⟨n, _⟩
      · cases e
        exact h0
      · exact absurd rfl n
    · rw [List.getElem?_set_ne (Ne.symm n)] at e2
      exact s.lo j o' b e1 e2
/-! ### targets -/
def g_name (i : Nat) : D → Rho → Option Rho := fun d ρ => some (ρ.set i (.d d))
theorem Sam.trans {t1 t2 : List Nat} {σ1 σ2 : L2.St} {ρ1 ρ2 : Rho} (x : Sam t1 σ σ1 ρ ρ1) (y : Sam t2 σ1 σ2 ρ1 ρ2) : Sam (t1 ++ t2) σ σ2 ρ ρ2 := by
  refine ⟨y.l.trans x.l, fun i h => ?_, fun i o h => ?_⟩
  · simp only [List.mem_append, not_or] at h
    exact (y.σ i h.2).trans (x.σ i h.1)
  · obtain ⟨n2, h2⟩ := y.ρ i o h
    obtain ⟨n1, h1⟩ := x.ρ i o h2
    exact ⟨by simp only [List.mem_append, not_or]; exact ⟨n1, n2⟩, h1⟩
theorem Sam.set (i : Nat) (v : V) (d : D) : Sam [i] σ (σ.set i (some v)) ρ (ρ.set i (.d d)) := by
  refine ⟨by simp, fun j h => List.getElem?_set_ne (fun e => h (by simp [e])), fun j o e => ?_⟩
  rcases set_get e with ⟨_, e⟩ | ⟨n, e⟩
  · cases e
  · exact ⟨by simpa using n, e⟩
theorem StS.sam {tv : List Nat} {σ' : L2.St} (s : StS X.K X.mg z w0 w σ H ρ S) (q : Sl X.K X.mg z w H σ' ρ') (h : Sam tv σ σ' ρ ρ') : StS X.K X.mg z w0 w σ' H ρ' S := by
  refine ⟨s.t, q, fun i o a e1 e2 => ?_, s.st⟩
  obtain ⟨n, e⟩ := h.ρ i o e1
  exact s.lo i o a e (by rw [← h.σ i n]; exact e2)
theorem pdg_name {i : Nat} {x : Str} (h : PG X (.Name x pos) (gName i)) (hz : ∀ zi : Zi, z = some zi → zi.i ≠ i) : PDG X z [i] (.Name x pos) (g_name i) := pg_mono h fun v σ H Q hq => by
  obtain ⟨w, ρ, S, d, ρ', t, s, hd, e, k⟩ := hq
  cases e
  exact k _ (s.set hd hz) (.set i v d)
def g_nil : List D → Rho → Option Rho := fun ds ρ => if ds.isEmpty = true then some ρ else none
def g_cons (g : D → Rho → Option Rho) (gs : List D → Rho → Option Rho) : List D → Rho → Option Rho := fun ds ρ =>
  match ds with
  | d :: r => match g d ρ with
    | some ρ1 => gs r ρ1
    | none => none
  | [] => none
variable {es : List Expr} {g : D → Rho → Option Rho} {gs : List D → Rho → Option Rho} {tv tvs : List Nat}
theorem pdg_nil : PDGs X z [] [] g_nil := pgs_mono pgs_nil fun v σ H Q hq => by
  obtain ⟨w, ρ, S, d, ρ', t, s, hd, e, k⟩ := hq
  cases hd with
  | nil => cases e; exact ⟨rfl, k σ s ⟨rfl, fun _ _ => rfl, fun _ _ e => ⟨by simp, e⟩⟩⟩
  | cons _ _ => cases e
theorem pdg_cons (h1 : PDG X z tv e g) (h2 : PDGs X z tvs es gs) (hs : (assignEach (e :: es) X.env).map (·.2) = assign e X.env :: (assignEach es X.env).map (·.2) := by rfl) : PDGs X z (tv ++ tvs) (e :: es) (g_cons g gs) :=
  pgs_mono (pgs_cons h1 h2 hs) fun v σ H Q hq => by
    obtain ⟨w, ρ, S, ds, ρ', t, s, hd, e, k⟩ := hq
    cases hd with
    | nil => cases e
    | cons h hs =>
      rename_i v vs d ds
      have e : (match g d ρ with
        | some ρ1 => gs ds ρ1
        | none => none) = some ρ' := e
      cases q : g d ρ with
      | none => rw [q] at e; cases e
      | some ρ1 =>
        rw [q] at e
        exact ⟨v, vs, rfl, w, ρ, S, d, ρ1, t, s, h, q, fun σ1 s1 y1 => ⟨w, ρ1, S, ds, ρ', t, s1, hs, e, fun σ2 s2 y2 => k σ2 s2 (y1.trans y2)⟩⟩
def g_tup (n : Nat) (gs : List D → Rho → Option Rho) : D → Rho → Option Rho := fun d ρ =>
  match d with
  | .tup ds => if ds.length = n then gs ds ρ else none
  | _ => none
theorem pdg_tupK {n k : Nat} (K : PySem.W.Frag) (hc : X.calm = true) (h : PDGs X z tv es gs) (hn : (assignEach es X.env).length = n := by rfl) (hst : (assignEach es X.env).findIdx? (·.1) = none := by rfl) : PDG X z tv (.Tuple es k pos) (g_tup n gs) :=
  pg_mono (pg_tup hc h hn hst) fun v σ H Q hq => by
    obtain ⟨w, ρ, S, d, ρ', t, s, hd, e, k⟩ := hq
    cases hd with
    | tup ht hs =>
      rename_i a xs ds
      have e : (if ds.length = n then gs ds ρ else none) = some ρ' := e
      split at e
      · rename_i hl
        exact ⟨a, xs, rfl, ex_t t.sub ht, by rw [hs.length]; exact hl, w, ρ, S, ds, ρ', t, s, hs, e, k⟩
      · cases e
    | _ => cases e
/-- target = e -/
def s_asg (g : D → Rho → Option Rho) (me : M D) : SM := me.toS fun d ρ S => if fixed d = true then match g d ρ with
  | some ρ' => some (.nx, ρ', S)
  | none => none else none
theorem asg_go {tg : TG} (hg : ∀ v σ H Q, tG X.K X.mg z tv g v σ H Q → tg v σ H Q) (h : tS X.K X.mg W z w0 (s_asg g me) Dn σ H) : tAsg (tD X.K X.mg W z me) tg Dn σ H := by
  obtain ⟨w, ρ, S, h⟩ := h
  refine ⟨w, ρ, S, h.bind fun d v w1 H1 S1 x rd h1 => hg _ _ _ _ ?_⟩
  obtain ⟨st, fl, ρ', S', e, p⟩ := h1
  split at e
  · rename_i f
    cases q : g d ρ with
    | none => rw [q] at e; cases e
    | some ρ1 =>
      rw [q] at e
      cases e
      rcases rd with rd | ⟨i, o, rfl, _⟩
      · exact ⟨w1, ρ, S1, d, _, st.t, st.s, rd, q, fun σ' s' y => p σ' H1 w1 (Le.refl _) (st.sam s' y)⟩
      · exact absurd f (by simp [fixed])
  · cases e
theorem pds_asg {tg : Expr} (he : PD X W z e me) (hg : PDG X z tv tg g) (hs : swapsWithSole [tg] e pos.line X.env = pure false := by rfl) (hw : swappedStores [tg] e X.env = pure none := by rfl)
    (h1 : (assignEach [tg] X.env).map (·.2) = [assign tg X.env] := by rfl) : PDS X W z w0 (.Assign [tg] e pos) (s_asg g me) :=
  ps_mono (ps_asg he hg hs hw h1) fun Dn σ H h => asg_go (fun _ _ _ _ q => q) h
/-- any statement that reads as tAsg .. (gName i) -/
theorem pds_set {i : Nat} (h : PS X st (tAsg (tD X.K X.mg W z me) (gName i))) (hz : ∀ zi : Zi, z = some zi → zi.i ≠ i) : PDS X W z w0 st (s_asg (g_name i) me) :=
  ps_mono h fun Dn σ H h => asg_go (tv := [i]) (fun v σ H Q hq => by
    obtain ⟨w, ρ, S, d, ρ', t, s, hd, e, k⟩ := hq
    cases e
    exact k _ (s.set hd hz) (.set i v d)) h
/-- a, b = x, y -/
def s_par (i j : Nat) (ms : M (List D)) : SM := ms.toS fun ds ρ S => match ds with
  | [a, b] => if fixed a = true ∧ fixed b = true then some (.nx, (ρ.set i (.d a)).set j (.d b), S) else none
  | _ => none
def s_par3 (i j l : Nat) (ms : M (List D)) : SM := ms.toS fun ds ρ S => match ds with
  | [a, b, c] => if fixed a = true ∧ fixed b = true ∧ fixed c = true then some (.nx, ((ρ.set i (.d a)).set j (.d b)).set l (.d c), S) else none
  | _ => none
theorem Rr.dt {K : PySem.W.Frag} {mg : Str → Option Value} {v : V} {d : D} (h : Rr K mg w σ ρ v d) (f : fixed d = true) : Dt K mg w v d := by
  rcases h with h | ⟨i, o, rfl, _⟩
  · exact h
  · exact absurd f (by simp [fixed])
theorem pds_par {i j : Nat} {ms : M (List D)} (h : PS X st (tPar i j (tA X.K X.mg W z ms))) (hz : ∀ zi : Zi, z = some zi → zi.i ≠ i ∧ zi.i ≠ j) : PDS X W z w0 st (s_par i j ms) :=
  ps_mono h fun Dn σ H h => by
    obtain ⟨w, ρ, S, h⟩ := h
    refine ⟨w, ρ, S, h.bind (rel := relA X.K X.mg σ ρ) fun ds vs w1 H1 S1 x rds h1 => ?_⟩
    obtain ⟨st, fl, ρ', S', e, p⟩ := h1
    cases rds with
    | nil => cases e
    | cons r1 rds =>
      cases rds with
      | nil => cases e
      | cons r2 rds =>
        cases rds with
        | cons _ _ => cases e
        | nil =>
          dsimp only at e
          split at e
          · rename_i f
            cases e
            exact ⟨_, _, rfl, p _ H1 w1 (Le.refl _) ((st.set (r1.dt f.1) fun zi e => (hz zi e).1).set (r2.dt f.2) fun zi e => (hz zi e).2)⟩
          · cases e
theorem pds_par3 {i j l : Nat} {ms : M (List D)} (h : PS X st (tPar3 i j l (tA X.K X.mg W z ms))) (hz : ∀ zi : Zi, z = some zi → zi.i ≠ i ∧ zi.i ≠ j ∧ zi.i ≠ l) : PDS X W z w0 st (s_par3 i j l ms) :=
  ps_mono h fun Dn σ H h => by
    obtain ⟨w, ρ, S, h⟩ := h
    refine ⟨w, ρ, S, h.bind (rel := relA X.K X.mg σ ρ) fun ds vs w1 H1 S1 x rds h1 => ?_⟩
    obtain ⟨st, fl, ρ', S', e, p⟩ := h1
    cases rds with
    | nil => cases e
    | cons r1 rds =>
      cases rds with
      | nil => cases e
      | cons r2 rds =>
        cases rds with
        | nil => cases e
        | cons r3 rds =>
          cases rds with
          | cons _ _ => cases e
          | nil =>
            dsimp only at e
            split at e
            · rename_i f
              cases e
              exact ⟨_, _, _, rfl, p _ H1 w1 (Le.refl _) (((st.set (r1.dt f.1) fun zi e => (hz zi e).1).set (r2.dt f.2.1) fun zi e => (hz zi e).2.1).set (r3.dt f.2.2) fun zi e => (hz zi e).2.2)⟩
            · cases e
/-- i op= e -/
def s_aug (i : Nat) (f : D → D → Option D) (me : M D) : SM := fun ρ S => match ρ[i]? with
  | some (.d x) => (me.toS fun y ρ S => match f x y with
    | some d => some (.nx, ρ.set i (.d d), S)
    | none => none) ρ S
  | _ => none
theorem pds_augI {i : Nat} {f : Int → Int → Int} (h : PS X st (tAug i (tD X.K X.mg W z me) (ipI f))) (hz : ∀ zi : Zi, z = some zi → zi.i ≠ i) :
    PDS X W z w0 st (s_aug i (fun a b => match a, b with | .int i, .int j => some (.int (f i j)) | _, _ => none) me) :=
  ps_mono h fun Dn σ H h => by
    obtain ⟨w, ρ, S, st, fl, ρ', S', e, p⟩ := h
    unfold s_aug at e
    cases q : ρ[i]? with
    | none => rw [q] at e; cases e
    | some sv =>
      rw [q] at e
      cases sv with
      | un => cases e
      | m o => cases e
      | d x =>
        obtain ⟨v, e1, hv⟩ := st.s.dat i x q
        have h' : DoS X.K X.mg W z w0 w σ H ρ S (me.toS fun y ρ S => match (match x, y with | .int i, .int j => some (Pd.D.int (f i j)) | _, _ => none) with
          | some d => some (.nx, ρ.set i (.d d), S)
          | none => none) Dn := ⟨st, fl, ρ', S', e, p⟩
        refine ⟨v, e1, w, ρ, S, h'.bind fun y u w1 H1 S1 x1 rd h1 => ?_⟩
        obtain ⟨st1, fl, ρ', S', e, p⟩ := h1
        split at e
        · rename_i d q2
          cases e
          split at q2
          · rename_i i1 j1
            cases q2
            cases hv
            rcases rd with rd | ⟨_, _, z, _⟩
            · cases rd
              exact ⟨i1, j1, rfl, rfl, p _ H1 w1 (Le.refl _) (st1.set (.int _) hz)⟩
            · cases z
          · cases q2
        · cases e
/-! ### what slot i holds changes no more -/
def frz1 (i : Nat) (ρ : Rho) : Rho := match ρ[i]? with
  | some (.m o) => ρ.set i (.d o.d)
  | _ => ρ
def s_frz (i : Nat) (m : SM) : SM := fun ρ S => m (frz1 i ρ) S
theorem StS.freeze {K : PySem.W.Frag} {mg : Str → Option Value} {i : Nat} (s : StS K mg z w0 w σ H ρ S) : ∃ w', Le w w' ∧ StS K mg z w0 w' σ H (frz1 i ρ) S := by
  unfold frz1
  cases q : ρ[i]? with
  | none => exact ⟨w, Le.refl _, s⟩
  | some sv =>
    cases sv with
    | un => exact ⟨w, Le.refl _, s⟩
    | d d => exact ⟨w, Le.refl _, s⟩
    | m o =>
      show ∃ w', Le w w' ∧ StS K mg z w0 w' σ H (ρ.set i (.d o.d)) S
      obtain ⟨a, e1, g1, n1, m1⟩ := s.s.mt i o q
      obtain ⟨u, hu⟩ := m1.there
      have h0 := s.lo i o a q e1
      have exG : Ex w.G (upd w.G a u) := Ex.new g1
      have le : Le w ⟨upd w.G a u, w.al⟩ := ⟨exG, List.prefix_refl _⟩
      have dt : Dt K mg ⟨upd w.G a u, w.al⟩ (.ref a) o.d := by
        cases o with
        | lst ds =>
          obtain ⟨xs, e, h⟩ := m1
          rw [e] at hu
          cases hu
          exact .lst (Rd.of upd_same) (h.mono le)
        | dct ds =>
          obtain ⟨xs, e, h, h2⟩ := m1
          rw [e] at hu
          cases hu
          exact .dct (Rd.of upd_same) h (h2.mono le)
        | ins c fs =>
          obtain ⟨C, dx, vs, ec, e, h, h2⟩ := m1
          rw [e] at hu
          cases hu
          exact .ins ec upd_same h (h2.mono le)
      refine ⟨⟨upd w.G a u, w.al⟩, le, ⟨⟨fun b v hb => ?_, s.t.len, s.t.nd, fun b hb => ?_, fun k b o' hk ho => ?_⟩, ⟨by simp [s.s.len], fun j d' e => ?_, fun j o' e => ?_, fun j k oj ok b f1 f2 f3 f4 => ?_, fun zi e => ⟨(s.s.exc zi e).1, (s.s.exc zi e).2.mono le⟩⟩, fun j o' b f1 f2 => ?_, ⟨?_, s.st.fr, s.st.nw, fun b v hb => ?_⟩⟩⟩
      · have hb : upd w.G a u b = some v := hb
        by_cases e : b = a
        · subst e
          rw [upd_same] at hb
          rw [← hb]
          exact hu
        · rw [upd_ne e] at hb
          exact s.t.sub b v hb
      · show upd w.G a u b = none
        rw [upd_ne (fun e : b = a => n1 (by rw [← e]; exact hb))]
        exact s.t.off b hb
      · exact (s.t.obj k b o' hk ho).stay rfl le
      · rcases set_get e with ⟨rfl, e3⟩ | ⟨n, e3⟩
        · cases e3
          exact ⟨_, e1, dt⟩
        · obtain ⟨v, e2, h2⟩ := s.s.dat j d' e3
          exact ⟨v, e2, h2.mono le⟩
      · rcases set_get e with ⟨_, e3⟩ | ⟨n, e⟩
        · cases e3
        · obtain ⟨b, e2, g2, n2, m2⟩ := s.s.mt j o' e
          refine ⟨b, e2, ?_, n2, m2.stay rfl le⟩
          show upd w.G a u b = none
          rw [upd_ne ?_]
          · exact g2
          · intro z
            subst z
            exact n (s.s.sep j i o' o b e q e2 e1)
      · rcases set_get f1 with ⟨_, e⟩ | ⟨_, f1⟩
        · cases e
        rcases set_get f2 with ⟨_, e⟩ | ⟨_, f2⟩
        · cases e
        exact s.s.sep j k oj ok b f1 f2 f3 f4
      · rcases set_get f1 with ⟨_, e⟩ | ⟨_, f1⟩
        · cases e
        exact s.lo j o' b f1 f2
      · exact s.st.le.trans le
      · have hb : upd w.G a u b = some v := hb
        by_cases e : b = a
        · subst e
          exact .inr (.inl h0)
        · rw [upd_ne e] at hb
          exact s.st.gn b v hb
theorem frz_go {i : Nat} {t : TS} (h : ∀ Dn σ H, tS X.K X.mg W z w0 m Dn σ H → t Dn σ H) (q : tS X.K X.mg W z w0 (s_frz i m) Dn σ H) : t Dn σ H := by
  obtain ⟨w, ρ, S, st, fl, ρ', S', e, p⟩ := q
  obtain ⟨w', le, st'⟩ := st.freeze (i := i)
  exact h _ _ _ ⟨w', _, S, st', fl, ρ', S', e, p.mono le⟩
theorem pds_frz {i : Nat} (h : PDS X W z w0 st m) : PDS X W z w0 st (s_frz i m) := ps_mono h fun Dn σ H q => frz_go (fun _ _ _ q => q) q
theorem pdss_frz {i : Nat} {sts : List Stmt} (h : PDSs X W z w0 sts m) : PDSs X W z w0 sts (s_frz i m) := pss_mono h fun Dn σ H q => frz_go (fun _ _ _ q => q) q
end
end Pd

/-! Loops and comprehensions over data. -/
namespace Pd
open PySem L2 Evl Hg

theorem pi_mono {X : Cx} {tg e : Expr} {t t' : TI} (h : PI X tg e t) (k : ∀ σ H Q, t' σ H Q → t σ H Q) : PI X tg e t' := ⟨fun pins s σ H Q I w => h.run pins s σ H Q I (k σ H Q w)⟩
theorem pi_or {X : Cx} {tg e : Expr} {t t' : TI} (h : PI X tg e t) (h' : PI X tg e t') : PI X tg e (fun σ H R => t σ H R ∨ t' σ H R) := ⟨fun pins s σ H R I q => q.elim (h.run pins s σ H R I) (h'.run pins s σ H R I)⟩
theorem pts_mono {X : Cx} {e : List Expr} {t t' : TT} (h : PTs X e t) (k : ∀ σ H Q, t' σ H Q → t σ H Q) : PTs X e t' := ⟨fun pins s σ H Q I w => h.run pins s σ H Q I (k σ H Q w)⟩

section
variable (K : PySem.W.Frag) (mg : Str → Option Value)
/-- a walk over ds -/
structure WkD (w : Wd) (J : It) (ds : List D) : Prop where
  goes : ∀ i H2 w2, i < ds.length → Le w w2 → Ex w2.G H2 → J.go i H2
  stops : ∀ H2 w2, Le w w2 → Ex w2.G H2 → J.stop ds.length H2
  gives : ∀ i H2 v H3 w2, i < ds.length → Le w w2 → Ex w2.G H2 → J.yld i H2 v H3 → ∃ d w3, ds[i]? = some d ∧ Grow w2 w3 H2 H3 ∧ Dt K mg w3 v d
end
section
variable (K : PySem.W.Frag) (mg : Str → Option Value) (W : WX) (z : Option Zi)
def relI : Rel It (List D) := fun w _ J ds => WkD K mg w J ds
def tI (m : M (List D)) : TI := fun σ H R => ∃ w ρ S, Do K mg W z (relI K mg) w σ H ρ S m R
/-- a new list that nobody holds as yet -/
def relF (Fp : Addr → Prop) : Rel V (List D) := fun w' H' v ds => ∃ p xs, v = .ref p ∧ Fp p ∧ w'.G p = none ∧ p ∉ w'.al ∧ H' p = some (.lst xs) ∧ DtA K mg w' xs ds
def tF (m : M (List D)) : TE := fun σ H Q => ∃ w ρ S, Do K mg W z (relF K mg fun p => H p = none) w σ H ρ S m Q
end
section
variable (X : Cx) (W : WX) (z : Option Zi)
abbrev PDI (tg e : Expr) (m : M (List D)) : Prop := PI X tg e (tI X.K X.mg W z m)
abbrev PDTs (es : List Expr) (m : M Bool) : Prop := PTs X es (tT X.K X.mg W z m)
abbrev PF (e : Expr) (m : M (List D)) : Prop := PE X e (tF X.K X.mg W z m)
end
section
variable {X : Cx} {W : WX} {z : Option Zi} {w0 : W0} {w w' w1 : Wd} {σ : L2.St} {H H' H1 : Hp} {ρ ρ' : Rho} {S S' S1 : Sto} {Dn : Ends} {K : PySem.W.Frag} {mg : Str → Option Value} {p : Addr} {o : HO}
theorem Stp.fresh (x : Stp w w1 H H1) (t : At K mg w1 H1 S1) (n : H1 p = none) : H p = none := by
  cases q : H p with
  | none => rfl
  | some u =>
    by_cases h : p ∈ w.al
    · obtain ⟨k, hk⟩ := List.mem_iff_getElem?.mp h
      obtain ⟨u, hu⟩ := t.alive (List.mem_of_getElem? (pre_get x.le.a hk))
      rw [hu] at n; cases n
    · rw [x.fr p u q h] at n; cases n
theorem At.gone (t : At K mg w H S) (n : H p = none) : w.G p = none ∧ p ∉ w.al := by
  refine ⟨?_, fun h => ?_⟩
  · cases q : w.G p with
    | none => rfl
    | some u => rw [t.sub p u q] at n; cases n
  · obtain ⟨u, hu⟩ := t.alive h
    rw [hu] at n; cases n
/-- what is not known changes -/
theorem At.upd (t : At K mg w H S) (g : w.G p = none) (n : p ∉ w.al) : At K mg w (upd H p o) S := by
  refine ⟨fun a u h => ?_, t.len, t.nd, t.off, fun k a o' hk ho => ?_⟩
  · rw [upd_ne (ne_of_none h g)]
    exact t.sub a u h
  · refine (t.obj k a o' hk ho).stay (upd_ne ?_) (Le.refl w)
    intro e
    subst e
    exact n (List.mem_of_getElem? hk)
theorem Stp.upd (x : Stp w w1 H H1) (n : H p = none) : Stp w w1 H (upd H1 p o) := ⟨x.le, fun a u h na => by rw [upd_ne (ne_of_none h n)]; exact x.fr a u h na, x.nw, x.gn⟩
/-- what nobody holds is known from now on -/
theorem keep_new (x : Stp w w1 H H1) (t : At K mg w1 H1 S1) (n : H p = none) (g : w1.G p = none) (a : p ∉ w1.al) (e : H1 p = some o) : Stp w (w1.new p o) H H1 ∧ At K mg (w1.new p o) H1 S1 := by
  have le : Le w1 (w1.new p o) := ⟨Ex.new g, List.prefix_refl _⟩
  refine ⟨⟨x.le.trans le, x.fr, x.nw, fun b u h => ?_⟩, ⟨fun b u h => ?_, t.len, t.nd, fun b h => ?_, fun k b o' hk ho => (t.obj k b o' hk ho).stay rfl le⟩⟩
  · have h : L2.upd w1.G p o b = some u := h
    by_cases q : b = p
    · subst q
      exact .inr (.inl n)
    · rw [upd_ne q] at h
      exact x.gn b u h
  · have h : L2.upd w1.G p o b = some u := h
    by_cases q : b = p
    · subst q
      rw [upd_same] at h
      rw [← h]
      exact e
    · rw [upd_ne q] at h
      exact t.sub b u h
  · show L2.upd w1.G p o b = none
    rw [upd_ne (fun q : b = p => a (by rw [← q]; exact h))]
    exact t.off b h
def m_fz (m : M (List D)) : M D := m.bind fun ds => M.pure (.lst ds)
theorem fz_go {m : M (List D)} {Q : VK} (h : tD K mg W z (m_fz m) σ H Q) : tF K mg W z m σ H Q := by
  obtain ⟨w, ρ, S, t, s, r, S', e, k⟩ := h
  refine ⟨w, ρ, S, t, s, ?_⟩
  unfold m_fz M.bind at e
  cases q : m ρ S with
  | none => rw [q] at e; cases e
  | some x =>
    obtain ⟨r1, S1⟩ := x
    rw [q] at e
    refine ⟨r1, S1, rfl, ?_⟩
    cases r1 with
    | er c fs => cases e; exact k
    | ok ds =>
      cases e
      intro v H1 w1 st t1 rl
      obtain ⟨p, xs, rfl, n, g, a, e1, hd⟩ := rl
      obtain ⟨st2, t2⟩ := keep_new st t1 n g a e1
      have le : Le w1 (w1.new p (.lst xs)) := ⟨Ex.new g, List.prefix_refl _⟩
      exact k (.ref p) H1 _ st2 t2 (.inl (.lst (Rd.of upd_same) (hd.mono le)))
theorem pd_pf {e : Expr} {m : M (List D)} (h : PF X W z e m) : PD X W z e (m_fz m) := pe_mono h fun σ H Q h => fz_go h
variable {e : Expr} {es : List Expr} {pos : Pos} {st : Stmt} {me : M D} {ms : M (List D)}
def mf_lst (ms : M (List D)) : M (List D) := ms.bind fun ds => M.lift fun _ _ => if ds.all fixed = true ∧ ds.length ≤ sizeLine then some ds else none
theorem pf_lst (h : PDA X W z es ms) : PF X W z (.List es pos) (mf_lst ms) :=
  pe_mono (pe_lst h) fun σ H Q h => by
    obtain ⟨w, ρ, S, h⟩ := h
    refine ⟨w, ρ, S, h.bind (rel1 := relA X.K X.mg σ ρ) fun ds vs w1 H1 S1 st rds h1 => ?_⟩
    obtain ⟨t1, s1, r, S', e, k⟩ := h1
    unfold M.lift at e
    split at e
    · rename_i a q
      cases e
      split at q
      · rename_i c
        cases q
        have hd := rds.fix c.1
        refine ⟨by rw [hd.length]; exact c.2, fun p np => ?_⟩
        obtain ⟨g, a⟩ := t1.gone np
        exact k (.ref p) _ w1 ((Stp.refl _ _).upd np) (t1.upd g a) ⟨p, vs, rfl, st.fresh t1 np, g, a, upd_same, hd⟩
      · cases q
    · cases e
/-- name = a new list that may change -/
def s_setL (i : Nat) (m : M (List D)) : SM := m.toS fun ds ρ S => some (.nx, ρ.set i (.m (.lst ds)), S)
theorem pds_setL {i : Nat} (h : PS X st (tAsg (tF X.K X.mg W z ms) (gName i))) (hz : ∀ zi : Zi, z = some zi → zi.i ≠ i) : PDS X W z w0 st (s_setL i ms) :=
  ps_mono h fun Dn σ H h => by
    obtain ⟨w, ρ, S, h⟩ := h
    refine ⟨w, ρ, S, h.bind fun ds v w1 H1 S1 x rl h1 => ?_⟩
    obtain ⟨st1, fl, ρ', S', e, k⟩ := h1
    cases e
    obtain ⟨p, xs, rfl, n, g, a, e1, hd⟩ := rl
    refine k _ H1 w1 (Le.refl _) (st1.setM g a ⟨xs, e1, hd⟩ ?_ hz ?_)
    · exact h.st.st.fresh h.st.t n
    · intro j o' _ hj hs
      obtain ⟨b, eb, _, _, m⟩ := h.st.s.mt j o' hj
      rw [hs] at eb
      cases eb
      obtain ⟨u, hu⟩ := m.there
      rw [n] at hu
      cases hu

/-! ### what is walked -/
def items : D → Option (List D)
  | .tup ds => some ds
  | .lst ds => some ds
  | .str x => some (x.cps.toList.map fun c => .str ⟨#[c]⟩)
  | _ => none
def mi_of (m : M D) : M (List D) := m.bind fun d => M.lift fun _ _ => items d
theorem grow_same (s : Ex w.G H) : Grow w w H H := Grow.refl s
theorem wk_tup {a : Addr} {xs : List V} {ds : List D} (h : SqT K w.G a xs) (hd : DtA K mg w xs ds) : WkD K mg w (Itt K a) ds := by
  have wk := walk_tup (K := K) (a := a) (xs := xs)
  refine ⟨fun i H2 w2 hi l s => wk.goes i H2 (by rw [hd.length]; exact hi) (ex_t (l.g.trans s) h), fun H2 w2 l s => by rw [← hd.length]; exact wk.stops H2 (ex_t (l.g.trans s) h), fun i H2 v H3 w2 hi l s y => ?_⟩
  obtain ⟨rfl, e⟩ := wk.yields i H2 v H3 (by rw [hd.length]; exact hi) (ex_t (l.g.trans s) h) y
  obtain ⟨d, e1, h1⟩ := hd.getV e
  exact ⟨d, w2, e1, Grow.refl s, h1.mono l⟩
theorem wk_lst {a : Addr} {xs : List V} {ds : List D} (h0 : Rd w.G a (.lst xs)) (hd : DtA K mg w xs ds) : WkD K mg w (Itl K a) ds := by
  have wk := walk_list (K := K) (a := a) (xs := xs)
  have h : SqL K w.G a xs := .inl h0
  refine ⟨fun i H2 w2 hi l s => wk.goes i H2 (by rw [hd.length]; exact hi) (ex_l (l.g.trans s) h), fun H2 w2 l s => by rw [← hd.length]; exact wk.stops H2 (ex_l (l.g.trans s) h), fun i H2 v H3 w2 hi l s y => ?_⟩
  obtain ⟨rfl, e⟩ := wk.yields i H2 v H3 (by rw [hd.length]; exact hi) (ex_l (l.g.trans s) h) y
  obtain ⟨d, e1, h1⟩ := hd.getV e
  exact ⟨d, w2, e1, Grow.refl s, h1.mono l⟩
theorem wk_str {x : Str} : WkD K mg w (Its x) (x.cps.toList.map fun c => .str ⟨#[c]⟩) := by
  have wk := walk_str (z := x)
  have hl : (x.cps.toList.map fun c => D.str ⟨#[c]⟩).length = x.cps.size := by simp
  refine ⟨fun i H2 w2 hi l s => wk.goes i H2 (by rw [← hl]; exact hi) trivial, fun H2 w2 l s => by rw [hl]; exact wk.stops H2 trivial, fun i H2 v H3 w2 hi l s y => ?_⟩
  obtain ⟨rfl, c, e, rfl⟩ := wk.yields i H2 v H3 (by rw [← hl]; exact hi) trivial y
  exact ⟨.str ⟨#[c]⟩, w2, by rw [List.getElem?_map, Array.getElem?_toList, e]; rfl, Grow.refl s, .str _⟩
theorem pdi_any {tg : Expr} (he : PD X W z e me) : PDI X W z tg e (mi_of me) :=
  pi_mono (pi_or (pi_tup he) (pi_or (pi_list he) (pi_str he))) fun σ H R h => by
    obtain ⟨w, ρ, S, t, s, r, S', e, p⟩ := h
    unfold mi_of M.bind at e
    cases q : me ρ S with
    | none => rw [q] at e; cases e
    | some x =>
      obtain ⟨r1, S1⟩ := x
      rw [q] at e
      cases r1 with
      | er c fs =>
        cases e
        exact .inl ⟨w, ρ, S, t, s, _, _, q, p⟩
      | ok d =>
        unfold M.lift at e
        dsimp only at e
        cases q2 : items d with
        | none => rw [q2] at e; cases e
        | some ds =>
          rw [q2] at e
          cases e
          cases d with
          | tup es =>
            cases q2
            refine .inl ⟨w, ρ, S, t, s, _, _, q, fun v H1 w1 st t1 rd => ?_⟩
            rcases rd with rd | ⟨i, o, z, _⟩
            · cases rd with
              | tup hx hd => exact ⟨_, rfl, ⟨_, ex_t t1.sub hx⟩, p _ H1 w1 st t1 (wk_tup hx hd)⟩
            · cases z
          | lst es =>
            cases q2
            refine .inr (.inl ⟨w, ρ, S, t, s, _, _, q, fun v H1 w1 st t1 rd => ?_⟩)
            rcases rd with rd | ⟨i, o, z, _⟩
            · cases rd with
              | lst hx hd => exact ⟨_, rfl, ⟨_, .inl (ex_rd t1.sub hx)⟩, p _ H1 w1 st t1 (wk_lst hx hd)⟩
            · cases z
          | str x =>
            cases q2
            refine .inr (.inr ⟨w, ρ, S, t, s, _, _, q, fun v H1 w1 st t1 rd => ?_⟩)
            rcases rd with rd | ⟨i, o, z, _⟩
            · cases rd
              exact ⟨x, rfl, p _ H1 w1 st t1 wk_str⟩
            · cases z
          | _ => cases q2
/-! ### range, enumerate, zip -/
def rangeD (lo : Int) (n : Nat) : List D := (List.range n).map fun i : Nat => D.int (lo + (i : Int))
theorem rangeD_len (lo : Int) (n : Nat) : (rangeD lo n).length = n := by simp [rangeD]
theorem rangeD_get {lo : Int} {n i : Nat} (h : i < n) : (rangeD lo n)[i]? = some (.int (lo + (i : Int))) := by simp [rangeD, h]
theorem wk_range {lo : Int} {n : Nat} : WkD K mg w (Itr lo n) (rangeD lo n) := by
  have wk := walk_range (lo := lo) (n := n)
  have hl := rangeD_len lo n
  refine ⟨fun i H2 w2 hi l s => wk.goes i H2 (by rw [hl] at hi; exact hi) trivial, fun H2 w2 l s => by rw [hl]; exact wk.stops H2 trivial, fun i H2 v H3 w2 hi l s y => ?_⟩
  rw [hl] at hi
  obtain ⟨rfl, rfl⟩ := wk.yields i H2 v H3 hi trivial y
  exact ⟨_, w2, rangeD_get hi, Grow.refl s, .int _⟩
def mi_range1 (ms : M (List D)) : M (List D) := ms.bind fun ds => M.lift fun _ _ => match ds with
  | [.int j] => if -(2 ^ 62) ≤ j ∧ j < 2 ^ 62 then some (rangeD 0 j.toNat) else none
  | _ => none
def mi_range2 (ms : M (List D)) : M (List D) := ms.bind fun ds => M.lift fun _ _ => match ds with
  | [.int i, .int j] => if -(2 ^ 62) ≤ i ∧ i < 2 ^ 62 ∧ -(2 ^ 62) ≤ j ∧ j < 2 ^ 62 then some (rangeD i (j - i).toNat) else none
  | _ => none
theorem rr_int {v : V} {i : Int} (h : Rr K mg w σ ρ v (.int i)) : v = .int i := by
  rcases h with h | ⟨_, _, z, _⟩
  · cases h; rfl
  · cases z
theorem pdi_range1 {tg a : Expr} {p pos : Pos} (hg : Gl X "range") (hm : X.mg "range" = none) (ha : PDA X W z [a] ms) (hs : starEach [a] X.env = [(false, eval a X.env)] := by rfl) : PDI X W z tg (.Call (.Name "range" p) [a] [] pos) (mi_range1 ms) :=
  pi_mono (pi_range1 hg hm ha hs) fun σ H R h => by
    obtain ⟨w, ρ, S, h⟩ := h
    refine ⟨w, ρ, S, h.bind (rel1 := relA X.K X.mg σ ρ) fun ds vs w1 H1 S1 st rds h1 => ?_⟩
    obtain ⟨ys, e, k⟩ := h1.lift
    split at e
    · rename_i j
      cases rds with
      | cons r1 r2 =>
        cases r2
        obtain rfl := rr_int r1
        split at e
        · rename_i c
          cases e
          exact ⟨j, rfl, c.1, c.2, k _ H1 w1 (Grow.refl h1.t.sub) wk_range⟩
        · cases e
    · cases e
theorem pdi_range2 {tg a b : Expr} {p pos : Pos} (hg : Gl X "range") (hm : X.mg "range" = none) (ha : PDA X W z [a, b] ms) (hs : starEach [a, b] X.env = [(false, eval a X.env), (false, eval b X.env)] := by rfl) (hs2 : starEach [b] X.env = [(false, eval b X.env)] := by rfl) :
    PDI X W z tg (.Call (.Name "range" p) [a, b] [] pos) (mi_range2 ms) :=
  pi_mono (pi_range2 hg hm ha hs hs2) fun σ H R h => by
    obtain ⟨w, ρ, S, h⟩ := h
    refine ⟨w, ρ, S, h.bind (rel1 := relA X.K X.mg σ ρ) fun ds vs w1 H1 S1 st rds h1 => ?_⟩
    obtain ⟨ys, e, k⟩ := h1.lift
    split at e
    · rename_i i j
      cases rds with
      | cons r1 r2 =>
        cases r2 with
        | cons r2 r3 =>
          cases r3
          obtain rfl := rr_int r1
          obtain rfl := rr_int r2
          split at e
          · rename_i c
            cases e
            exact ⟨i, j, rfl, c, k _ H1 w1 (Grow.refl h1.t.sub) wk_range⟩
          · cases e
    · cases e
/-- new pairs -/
theorem wk_pair {J : It} {n : Nat} {G : Hp → Prop} {xs ys : Nat → Option V} {as bs : List D} (wk : Walk J n G (YPair xs ys)) (hG : ∀ H w2, Le w w2 → Ex w2.G H → G H) (ha : as.length = n) (hb : bs.length = n)
    (hx : ∀ i x, i < n → xs i = some x → ∃ d, as[i]? = some d ∧ Dt K mg w x d) (hy : ∀ i y, i < n → ys i = some y → ∃ d, bs[i]? = some d ∧ Dt K mg w y d) :
    WkD K mg w J (List.zipWith (fun a b => D.tup [a, b]) as bs) := by
  have hl : (List.zipWith (fun a b => D.tup [a, b]) as bs).length = n := by simp [ha, hb]
  refine ⟨fun i H2 w2 hi l s => wk.goes i H2 (by rw [← hl]; exact hi) (hG _ _ l s), fun H2 w2 l s => by rw [hl]; exact wk.stops H2 (hG _ _ l s), fun i H2 v H3 w2 hi l s y => ?_⟩
  rw [hl] at hi
  obtain ⟨T, x, u, rfl, n, rfl, e1, e2⟩ := wk.yields i H2 v H3 hi (hG _ _ l s) y
  obtain ⟨d1, f1, h1⟩ := hx i x hi e1
  obtain ⟨d2, f2, h2⟩ := hy i u hi e2
  have g := Grow.new (o := .tup [x, u]) s n
  refine ⟨.tup [d1, d2], _, ?_, g, .tup (st_of upd_same) (.cons ((h1.mono l).mono g.le) (.cons ((h2.mono l).mono g.le) .nil))⟩
  rw [List.getElem?_zipWith, f1, f2]
def enumD (ds : List D) : List D := List.zipWith (fun a b => D.tup [a, b]) (rangeD 0 ds.length) ds
theorem wk_nums {n : Nat} : ∀ (i : Nat) (x : V), i < n → some (V.int (i : Nat)) = some x → ∃ d, (rangeD 0 n)[i]? = some d ∧ Dt K mg w x d := fun i x hi e => by
  cases e
  exact ⟨_, rangeD_get hi, by rw [Int.zero_add]; exact .int _⟩
theorem wk_vals {xs : List V} {ds : List D} (hd : DtA K mg w xs ds) : ∀ (i : Nat) (x : V), i < ds.length → xs[i]? = some x → ∃ d, ds[i]? = some d ∧ Dt K mg w x d := fun i x hi e => hd.getV e
def mi_enum (ms : M (List D)) : M (List D) := ms.bind fun ds => M.lift fun _ _ => match ds with
  | [.tup xs] => some (enumD xs)
  | [.lst xs] => some (enumD xs)
  | _ => none
theorem pdi_enum {elts : List Expr} {kk : Nat} {tpos p pos : Pos} (hg : Gl X "enumerate") (hm : X.mg "enumerate" = none) (ha : PDA X W z [e] ms) (hs : starEach [e] X.env = [(false, eval e X.env)] := by rfl) :
    PDI X W z (.Tuple elts kk tpos) (.Call (.Name "enumerate" p) [e] [] pos) (mi_enum ms) :=
  pi_mono (pi_or (pi_enumT hg hm ha hs) (pi_enum hg hm ha hs)) fun σ H R h => by
    obtain ⟨w, ρ, S, t, s, r, S', e, k⟩ := h
    unfold mi_enum M.bind at e
    cases q : ms ρ S with
    | none => rw [q] at e; cases e
    | some x =>
      obtain ⟨r1, S1⟩ := x
      rw [q] at e
      cases r1 with
      | er c fs =>
        cases e
        exact .inl ⟨w, ρ, S, t, s, _, _, q, k⟩
      | ok ds =>
        unfold M.lift at e
        dsimp only at e
        split at e
        · rename_i ys q2
          split at q2
          · rename_i xs
            cases q2
            cases e
            refine .inl ⟨w, ρ, S, t, s, _, _, q, fun vs H1 w1 st t1 rd => ?_⟩
            cases rd with
            | cons r1 r2 =>
              cases r2
              rcases r1 with r1 | ⟨i, o, z, _⟩
              · cases r1 with
                | tup hx hd => exact ⟨_, _, rfl, ex_t t1.sub hx, k _ H1 w1 st t1 (wk_pair walk_enumT (fun H w2 l s => ex_t (l.g.trans s) hx) (by rw [rangeD_len, hd.length]) hd.length.symm (by rw [← hd.length]; exact wk_nums) (by rw [hd.length]; exact wk_vals hd))⟩
              · cases z
          · rename_i xs
            cases q2
            cases e
            refine .inr ⟨w, ρ, S, t, s, _, _, q, fun vs H1 w1 st t1 rd => ?_⟩
            cases rd with
            | cons r1 r2 =>
              cases r2
              rcases r1 with r1 | ⟨i, o, z, _⟩
              · cases r1 with
                | lst hx hd => exact ⟨_, _, rfl, .inl (ex_rd t1.sub hx), k _ H1 w1 st t1 (wk_pair walk_enum (fun H w2 l s => .inl (ex_rd (l.g.trans s) hx)) (by rw [rangeD_len, hd.length]) hd.length.symm (by rw [← hd.length]; exact wk_nums) (by rw [hd.length]; exact wk_vals hd))⟩
              · cases z
          · cases q2
        · cases e
end
end Pd

namespace Pd
open PySem L2 Evl Hg
section
variable {X : Cx} {W : WX} {z : Option Zi} {w0 : W0} {w w' w1 : Wd} {σ : L2.St} {H H' H1 : Hp} {ρ ρ' : Rho} {S S' S1 : Sto} {Dn : Ends} {K : PySem.W.Frag} {mg : Str → Option Value} {p : Addr} {o : HO}
variable {e : Expr} {es : List Expr} {pos : Pos} {st : Stmt} {me : M D} {ms : M (List D)} {m : SM} {g : D → Rho → Option Rho} {tv : List Nat} {mt : M Bool}
/-! ### for -/
def s_forD (g : D → Rho → Option Rho) (body : SM) : List D → SM
  | [] => fun ρ S => some (.nx, ρ, S)
  | d :: ds => fun ρ S =>
    match g d ρ with
    | none => none
    | some ρ1 =>
      match body ρ1 S with
      | some (.nx, ρ2, S2) => s_forD g body ds ρ2 S2
      | some (.ct, ρ2, S2) => s_forD g body ds ρ2 S2
      | some (.bk, ρ2, S2) => some (.nx, ρ2, S2)
      | r => r
def s_for (mi : M (List D)) (g : D → Rho → Option Rho) (body : SM) : SM := mi.toS fun ds => s_forD g body ds
theorem StS.grow (s : StS X.K X.mg z w0 w σ H ρ S) (g : Grow w w' H H') : StS X.K X.mg z w0 w' σ H' ρ S := s.step g.stp (s.t.grow g)
theorem pds_for {tg iter : Expr} {body : List Stmt} {mi : M (List D)} (hp : PassesOwn (model X.prog X.w) X.A X.env X.xe) (hc : X.calm = true) (hi : PDI X W z tg iter mi) (hg : PDG X z tv tg g) (hb : PDSs X W z w0 body m)
    (hs : ∀ x, foldedSetIterable iter X.env x = pure x := by intro _; rfl) : PDS X W z w0 (.For tg iter body [] pos) (s_for mi g m) :=
  ps_mono (ps_for hp hc hi hg hb hs) fun Dn σ H h => by
    obtain ⟨w, ρ, S, h⟩ := h
    refine ⟨w, ρ, S, h.bind fun ds J w1 H1 S1 x wk h1 => ?_⟩
    obtain ⟨st1, fl, ρ', S', e, p⟩ := h1
    refine ⟨fun i k σ H => k = ds.length - i ∧ i ≤ ds.length ∧ ∃ w2 ρ2 S2, Le w1 w2 ∧ StS X.K X.mg z w0 w2 σ H ρ2 S2 ∧ s_forD g m (ds.drop i) ρ2 S2 = some (fl, ρ', S'), ⟨ds.length, rfl, Nat.zero_le _, w1, ρ, S1, Le.refl _, st1, e⟩, ?_⟩
    rintro i k σ2 H2 ⟨rfl, hi, w2, ρ2, S2, l2, st2, e2⟩
    by_cases hlt : i < ds.length
    · refine .inr ⟨wk.goes i H2 w2 hlt l2 st2.t.sub, fun σ3 H3 => ∃ w3 ρ3 S3, Le w1 w3 ∧ StS X.K X.mg z w0 w3 σ3 H3 ρ3 S3 ∧ s_forD g m (ds.drop (i + 1)) ρ3 S3 = some (fl, ρ', S'), fun σ3 H3 q => ?_, fun v H3 y => ?_⟩
      · obtain ⟨w3, ρ3, S3, l3, st3, e3⟩ := q
        exact ⟨ds.length - (i + 1), by omega, rfl, hlt, w3, ρ3, S3, l3, st3, e3⟩
      · obtain ⟨d, w3, ed, gr, hd⟩ := wk.gives i H2 v H3 w2 hlt l2 st2.t.sub y
        have l3 := l2.trans gr.le
        have st3 := st2.grow gr
        have edrop : ds.drop i = d :: ds.drop (i + 1) := by
          have := (List.getElem?_eq_some_iff.mp ed)
          obtain ⟨h1, h2⟩ := this
          rw [List.drop_eq_getElem_cons h1, h2]
        rw [edrop] at e2
        unfold s_forD at e2
        cases q : g d ρ2 with
        | none => rw [q] at e2; cases e2
        | some ρ3 =>
          rw [q] at e2
          dsimp only at e2
          refine ⟨w3, ρ2, S2, d, ρ3, st3.t, st3.s, hd, q, fun σ3 s3 sm => ⟨w3, ρ3, S2, st3.sam s3 sm, ?_⟩⟩
          cases q2 : m ρ3 S2 with
          | none => rw [q2] at e2; cases e2
          | some r =>
            obtain ⟨f4, ρ4, S4⟩ := r
            rw [q2] at e2
            refine ⟨f4, ρ4, S4, rfl, ?_⟩
            cases f4 with
            | nx => exact fun σ5 H5 w5 l5 st5 => ⟨w5, ρ4, S4, l3.trans l5, st5, e2⟩
            | ct => exact fun σ5 H5 w5 l5 st5 => ⟨w5, ρ4, S4, l3.trans l5, st5, e2⟩
            | bk => cases e2; exact fun σ5 H5 w5 l5 st5 => p σ5 H5 w5 (l3.trans l5) st5
            | rt d => cases e2; exact fun v σ5 H5 w5 l5 st5 => p v σ5 H5 w5 (l3.trans l5) st5
            | er c fs => cases e2; exact fun σ5 H5 w5 cls dx l5 st5 => p σ5 H5 w5 cls dx (l3.trans l5) st5
    · have ei : i = ds.length := by omega
      subst ei
      rw [List.drop_length] at e2
      cases e2
      exact .inl ⟨wk.stops H2 w2 l2 st2.t.sub, p σ2 H2 w2 l2 st2⟩
/-! ### while -/
def s_whileN (mt : M Bool) (body : SM) : Nat → SM
  | 0 => fun _ _ => none
  | n + 1 => mt.toS fun b ρ S => if b = true then
      match body ρ S with
      | some (.nx, ρ2, S2) => s_whileN mt body n ρ2 S2
      | some (.ct, ρ2, S2) => s_whileN mt body n ρ2 S2
      | some (.bk, ρ2, S2) => some (.nx, ρ2, S2)
      | r => r
    else some (.nx, ρ, S)
theorem pds_while {c : Expr} {body : List Stmt} (n : Nat) (hp : PassesOwn (model X.prog X.w) X.A X.env X.xe) (hc : PDT X W z c mt) (hb : PDSs X W z w0 body m) : PDS X W z w0 (.While c body [] pos) (s_whileN mt m n) :=
  ps_mono (ps_while hp hc hb) fun Dn σ H h => by
    obtain ⟨w, ρ, S, h⟩ := h
    refine ⟨fun k σ H => ∃ w2 ρ2 S2, DoS X.K X.mg W z w0 w2 σ H ρ2 S2 (s_whileN mt m k) Dn, ⟨n, w, ρ, S, h⟩, ?_⟩
    rintro k σ2 H2 ⟨w2, ρ2, S2, h2⟩
    cases k with
    | zero =>
      obtain ⟨_, _, _, _, e2, _⟩ := h2
      cases e2
    | succ k =>
      unfold s_whileN at h2
      refine ⟨w2, ρ2, S2, h2.bind (rel := relB) fun b b' w3 H3 S3 x rk h3 => ?_⟩
      have rk : b' = b := rk
      subst rk
      obtain ⟨st3, fl3, ρ3, S3', e3, p3⟩ := h3
      cases b' with
      | false =>
        cases e3
        exact p3 σ2 H3 w3 (Le.refl _) st3
      | true =>
        refine ⟨fun σ5 H5 => ∃ w5 ρ5 S5, DoS X.K X.mg W z w0 w5 σ5 H5 ρ5 S5 (s_whileN mt m k) Dn, fun σ5 H5 q => ⟨k, Nat.lt_succ_self _, q⟩, w3, ρ2, S3, st3, ?_⟩
        have e3 : (match m ρ2 S3 with
          | some (.nx, ρ2, S2) => s_whileN mt m k ρ2 S2
          | some (.ct, ρ2, S2) => s_whileN mt m k ρ2 S2
          | some (.bk, ρ2, S2) => some (.nx, ρ2, S2)
          | r => r) = some (fl3, ρ3, S3') := e3
        cases q2 : m ρ2 S3 with
        | none => rw [q2] at e3; cases e3
        | some r =>
          obtain ⟨f4, ρ4, S4⟩ := r
          rw [q2] at e3
          refine ⟨f4, ρ4, S4, rfl, ?_⟩
          cases f4 with
          | nx => exact fun σ5 H5 w5 l5 st5 => ⟨w5, ρ4, S4, st5, fl3, ρ3, S3', e3, p3.mono l5⟩
          | ct => exact fun σ5 H5 w5 l5 st5 => ⟨w5, ρ4, S4, st5, fl3, ρ3, S3', e3, p3.mono l5⟩
          | bk => cases e3; exact fun σ5 H5 w5 l5 st5 => p3 σ5 H5 w5 l5 st5
          | rt d => cases e3; exact fun v σ5 H5 w5 l5 st5 => p3 v σ5 H5 w5 l5 st5
          | er c fs => cases e3; exact fun σ5 H5 w5 cls dx l5 st5 => p3 σ5 H5 w5 cls dx l5 st5

/-! ### comprehensions -/
def wipeR (ρ : Rho) : List Nat → Rho
  | [] => ρ
  | v :: vs => (wipeR ρ vs).set v .un
def m_lcD (vs : List Nat) (g : D → Rho → Option Rho) (mt : M Bool) (me : M D) (ρ : Rho) : List D → List D → Sto → Option (List D × Sto)
  | [], acc, S => some (acc, S)
  | d :: ds, acc, S =>
    match g d (wipeR ρ vs) with
    | none => none
    | some ρ1 =>
      match mt ρ1 S with
      | some (.ok true, S1) =>
        match me ρ1 S1 with
        | some (.ok y, S2) => if fixed y = true ∧ acc.length < sizeLine then m_lcD vs g mt me ρ ds (acc ++ [y]) S2 else none
        | _ => none
      | some (.ok false, S1) => m_lcD vs g mt me ρ ds acc S1
      | _ => none
def mf_lc (mi : M (List D)) (vs : List Nat) (g : D → Rho → Option Rho) (mt : M Bool) (me : M D) : M (List D) := mi.bind fun ds ρ S =>
  match m_lcD vs g mt me ρ ds [] S with
  | some (ys, S') => some (.ok ys, S')
  | none => none
theorem wipe_get {σ : L2.St} {i : Nat} : ∀ {vs : List Nat}, i ∉ vs → (wipe σ vs)[i]? = σ[i]?
  | [], _ => rfl
  | v :: vs, h => by
    simp only [List.mem_cons, not_or] at h
    unfold wipe
    rw [List.getElem?_set_ne (Ne.symm h.1)]
    exact wipe_get h.2
theorem wipe_in {σ : L2.St} {i : Nat} {x : Option V} : ∀ {vs : List Nat}, i ∈ vs → (wipe σ vs)[i]? = some x → x = none
  | v :: vs, h, e => by
    unfold wipe at e
    rcases set_get e with ⟨_, e⟩ | ⟨n, e⟩
    · exact e
    · rcases List.mem_cons.mp h with h | h
      · exact absurd h n
      · exact wipe_in h e
theorem wipe_ext {σ σ' : L2.St} {vs : List Nat} (hl : σ'.length = σ.length) (h : ∀ i, i ∉ vs → σ'[i]? = σ[i]?) : wipe σ' vs = wipe σ vs := by
  apply List.ext_getElem?
  intro i
  by_cases hi : i ∈ vs
  · have l1 := wipe_length σ' vs
    have l2 := wipe_length σ vs
    by_cases hb : i < σ.length
    · have h1 : i < (wipe σ' vs).length := by omega
      have h2 : i < (wipe σ vs).length := by omega
      have a1 := List.getElem?_eq_getElem h1
      have a2 := List.getElem?_eq_getElem h2
      rw [a1, a2, wipe_in hi a1, wipe_in hi a2]
    · rw [List.getElem?_eq_none (by omega), List.getElem?_eq_none (by omega)]
  · rw [wipe_get hi, wipe_get hi, h i hi]
theorem wipe_two {σ : L2.St} {vs : List Nat} : wipe (wipe σ vs) vs = wipe σ vs := wipe_ext (wipe_length σ vs) fun i h => wipe_get h
theorem wipeR_length (ρ : Rho) : ∀ vs : List Nat, (wipeR ρ vs).length = ρ.length
  | [] => rfl
  | v :: vs => by unfold wipeR; rw [List.length_set, wipeR_length ρ vs]
theorem wipeR_get {i : Nat} {s : Sv} (n : s ≠ .un) : ∀ {vs : List Nat}, (wipeR ρ vs)[i]? = some s → ρ[i]? = some s ∧ i ∉ vs
  | [], h => ⟨h, by simp⟩
  | v :: vs, h => by
    unfold wipeR at h
    rcases set_get h with ⟨_, e⟩ | ⟨n1, e⟩
    · exact absurd e n
    · obtain ⟨a, b⟩ := wipeR_get n e
      exact ⟨a, by simp only [List.mem_cons, not_or]; exact ⟨n1, b⟩⟩
theorem Sl.wipe {vs : List Nat} (s : Sl K mg z w H σ ρ) : Sl K mg none w H (L2.wipe σ vs) (wipeR ρ vs) := by
  refine ⟨by rw [wipe_length, wipeR_length]; exact s.len, fun i d h => ?_, fun i o h => ?_, fun i j oi oj a h1 h2 h3 h4 => ?_, fun zi h => nomatch h⟩
  · obtain ⟨e, n⟩ := wipeR_get (s := Sv.d d) (by intro q; cases q) h
    rw [wipe_get n]
    exact s.dat i d e
  · obtain ⟨e, n⟩ := wipeR_get (s := Sv.m o) (by intro q; cases q) h
    rw [wipe_get n]
    exact s.mt i o e
  · obtain ⟨e1, n1⟩ := wipeR_get (s := Sv.m oi) (by intro q; cases q) h1
    obtain ⟨e2, n2⟩ := wipeR_get (s := Sv.m oj) (by intro q; cases q) h2
    rw [wipe_get n1] at h3
    rw [wipe_get n2] at h4
    exact s.sep i j oi oj a e1 e2 h3 h4
theorem Do.weakT {α β : Type} {rel : Rel β α} {m : M α} {Q : β → Hp → Prop} (t : At K mg w H S) (s : Sl K mg z w H σ ρ) {a : α} {S' : Sto} (e : m ρ S = some (.ok a, S'))
    (k : ∀ v H' w', Stp w w' H H' → At K mg w' H' S' → rel w' H' v a → Q v H') : Do K mg W z rel w σ H ρ S m Q := ⟨t, s, _, _, e, k⟩
/-- nothing is raised -/
abbrev WNo : WX := fun _ _ _ _ => False
theorem lc_go {wi : TI} {gg : TG} {tt : TT} {te : TE} {vs : List Nat} {mi : M (List D)} {Q : VK} (hv : ∀ i ∈ tv, i ∈ vs)
    (hi : ∀ σ H R, tI X.K X.mg W z mi σ H R → wi σ H R) (hg : ∀ v σ H Q, tG X.K X.mg none tv g v σ H Q → gg v σ H Q) (ht : ∀ σ H Q, tT X.K X.mg WNo none mt σ H Q → tt σ H Q) (he : ∀ σ H Q, tD X.K X.mg WNo none me σ H Q → te σ H Q)
    (h : Do X.K X.mg W z (relF X.K X.mg fun p => H p = none) w σ H ρ S (mf_lc mi vs g mt me) Q) : tLc wi gg tt te vs σ H Q := by
  refine hi _ _ _ ⟨w, ρ, S, h.bind fun ds J w1 H1 S1 st1 wk h1 => ?_⟩
  obtain ⟨t1, s1, r, S', e, p⟩ := h1
  cases q : m_lcD vs g mt me ρ ds [] S1 with
  | none => simp only [q] at e; cases e
  | some ys =>
    obtain ⟨ys, S9⟩ := ys
    simp only [q] at e
    cases e
    intro Dl hD
    obtain ⟨gD, aD⟩ := t1.gone hD
    refine ⟨fun i k H2 => k = ds.length - i ∧ i ≤ ds.length ∧ ∃ w2 S2 acc xs, Stp w1 w2 H1 H2 ∧ At X.K X.mg w2 H2 S2 ∧ H2 Dl = some (.lst xs) ∧ DtA X.K X.mg w2 xs acc ∧ w2.G Dl = none ∧ Dl ∉ w2.al ∧ m_lcD vs g mt me ρ (ds.drop i) acc S2 = some (ys, S'),
      ⟨ds.length, rfl, Nat.zero_le _, w1, S1, [], [], (Stp.refl _ _).upd hD, t1.upd gD aD, upd_same, .nil, gD, aD, q⟩, ?_⟩
    rintro i k H2 ⟨rfl, hi, w2, S2, acc, xs, st2, t2, e2, hd2, g2, a2, q2⟩
    have s2 := s1.step st2
    by_cases hlt : i < ds.length
    · refine .inr ⟨wk.goes i H2 w2 hlt st2.le t2.sub, fun H3 => ∃ w2 S2 acc xs, Stp w1 w2 H1 H3 ∧ At X.K X.mg w2 H3 S2 ∧ H3 Dl = some (.lst xs) ∧ DtA X.K X.mg w2 xs acc ∧ w2.G Dl = none ∧ Dl ∉ w2.al ∧ m_lcD vs g mt me ρ (ds.drop (i + 1)) acc S2 = some (ys, S'), fun H3 q => ?_, fun v H3 y => ?_⟩
      · exact ⟨ds.length - (i + 1), by omega, rfl, hlt, q⟩
      · obtain ⟨d, w3, ed, gr, hd⟩ := wk.gives i H2 v H3 w2 hlt st2.le t2.sub y
        have t3 := t2.grow gr
        have st3 := st2.trans gr.stp
        have s3 : Sl X.K X.mg none w3 H3 (wipe σ vs) (wipeR ρ vs) := (s1.step st3).wipe
        have e3 : H3 Dl = some (.lst xs) := gr.h _ _ e2
        have g3 : w3.G Dl = none := by
          cases q : w3.G Dl with
          | none => rfl
          | some u =>
            rcases gr.gn Dl u q with z | z
            · rw [g2] at z; cases z
            · rw [e2] at z; cases z
        have a3 : Dl ∉ w3.al := by rw [gr.a]; exact a2
        have edrop : ds.drop i = d :: ds.drop (i + 1) := by
          obtain ⟨h1, h2⟩ := List.getElem?_eq_some_iff.mp ed
          rw [List.drop_eq_getElem_cons h1, h2]
        rw [edrop] at q2
        unfold m_lcD at q2
        cases q3 : g d (wipeR ρ vs) with
        | none => rw [q3] at q2; cases q2
        | some ρ3 =>
          rw [q3] at q2
          dsimp only at q2
          refine hg _ _ _ _ ⟨w3, wipeR ρ vs, S2, d, ρ3, t3, s3, hd, q3, fun σ4 s4 sm => ⟨?_, ?_⟩⟩
          · have hl : σ4.length = (wipe σ vs).length := by
              rw [s4.len, s3.len, sm.l]
            exact (wipe_ext hl fun i hi => sm.σ i fun z => hi (hv i z)).trans wipe_two
          · cases q4 : mt ρ3 S2 with
            | none => rw [q4] at q2; cases q2
            | some r4 =>
              obtain ⟨r4, S4⟩ := r4
              rw [q4] at q2
              cases r4 with
              | er c fs => cases q2
              | ok b =>
                refine ht _ _ _ ⟨w3, ρ3, S2, Do.weakT t3 s4 q4 fun b' H5 w5 x5 t5 rb => ?_⟩
                have rb : b' = b := rb
                subst rb
                have e5 : H5 Dl = some (.lst xs) := x5.fr _ _ e3 a3
                have g5 : w5.G Dl = none := by
                  cases q : w5.G Dl with
                  | none => rfl
                  | some u =>
                    rcases x5.gn Dl u q with z | z | z
                    · rw [g3] at z; cases z
                    · rw [e3] at z; cases z
                    · exact absurd z a3
                have a5 : Dl ∉ w5.al := fun z => by
                  have := x5.nw Dl z a3
                  rw [e3] at this
                  cases this
                cases b' with
                | false =>
                  show ∃ w2 S2 acc xs, _
                  exact ⟨w5, S4, acc, xs, st3.trans x5, t5, e5, (hd2.mono gr.le).mono x5.le, g5, a5, q2⟩
                | true =>
                  dsimp only at q2
                  show te σ4 H5 _
                  cases q5 : me ρ3 S4 with
                  | none => rw [q5] at q2; cases q2
                  | some r5 =>
                    obtain ⟨r5, S5⟩ := r5
                    rw [q5] at q2
                    cases r5 with
                    | er c fs => cases q2
                    | ok y =>
                      dsimp only at q2
                      split at q2
                      · rename_i cf
                        refine he _ _ _ ⟨w5, ρ3, S4, Do.weakT t5 (s4.step x5) q5 fun v6 H6 w6 x6 t6 rv => ?_⟩
                        have e6 : H6 Dl = some (.lst xs) := x6.fr _ _ e5 a5
                        have g6 : w6.G Dl = none := by
                          cases q : w6.G Dl with
                          | none => rfl
                          | some u =>
                            rcases x6.gn Dl u q with z | z | z
                            · rw [g5] at z; cases z
                            · rw [e5] at z; cases z
                            · exact absurd z a5
                        have a6 : Dl ∉ w6.al := fun z => by
                          have := x6.nw Dl z a5
                          rw [e5] at this
                          cases this
                        have hd6 := ((hd2.mono gr.le).mono x5.le).mono x6.le
                        refine ⟨xs, e6, by rw [hd2.length]; exact cf.2, w6, S5, acc ++ [y], xs ++ [v6], ((st3.trans x5).trans x6).upd hD, t6.upd g6 a6, upd_same, hd6.append (.cons (rv.dt cf.1) .nil), g6, a6, q2⟩
                      · cases q2
    · have ei : i = ds.length := by omega
      subst ei
      rw [List.drop_length] at q2
      cases q2
      exact .inl ⟨wk.stops H2 w2 st2.le t2.sub, p (.ref Dl) H2 w2 st2 t2 ⟨Dl, xs, rfl, st1.fresh t1 hD, g2, a2, e2, hd2⟩⟩
end
end Pd

/-! Comprehensions as rules; defs and their calls. -/
namespace Pd
open PySem L2 Evl Hg
open PySem.Spec PyProof.Rows
section
variable {X : Cx} {W : WX} {z : Option Zi} {w0 : W0} {w w' w1 : Wd} {σ : L2.St} {H H' H1 : Hp} {ρ ρ' : Rho} {S S' S1 : Sto} {Dn : Ends} {K : PySem.W.Frag} {mg : Str → Option Value}
variable {e : Expr} {es : List Expr} {pos : Pos} {st : Stmt} {me : M D} {ms : M (List D)} {m : SM} {g : D → Rho → Option Rho} {tv : List Nat} {mt : M Bool} {mi : M (List D)}
theorem pdts_nil : PDTs X W z [] (M.pure true) := pts_mono pts_nil fun σ H Q h => by
  obtain ⟨w, ρ, S, h⟩ := h
  exact h.pure true rfl
theorem pdts_one {c : Expr} (h : PDT X W z c mt) : PDTs X W z [c] mt := pts_one h
theorem pf_lc {elt tg iter : Expr} {ifs : List Expr} {scope : Scope} {own : List (Str × Nat)} (hc : X.calm = true) (hN : X.N.Nodup) (hi : PDI X W z tg iter mi) (ok : BlkOk X.N X.env.scope scope own)
    (hg : ∀ (s : Shared) (H : Hp) (C : Addr) (cl : List (Str × Addr)) (fp : List Addr), PG (X.blk s H scope (compEnvC scope cl C X.env) fp) tg (tG X.K X.mg none tv g))
    (ht : ∀ (s : Shared) (H : Hp) (C : Addr) (cl : List (Str × Addr)) (fp : List Addr), PTs (X.blk s H scope (compEnvC scope cl C X.env) fp) ifs (tT X.K X.mg WNo none mt))
    (he : ∀ (s : Shared) (H : Hp) (C : Addr) (cl : List (Str × Addr)) (fp : List Addr), PE (X.blk s H scope (compEnvC scope cl C X.env) fp) elt (tD X.K X.mg WNo none me)) (hv : ∀ i ∈ tv, i ∈ own.map (·.2) := by decide)
    (hs : ∀ x, foldedSetIterable iter X.env x = pure x := by intro _; rfl) :
    PF X W z (.ListComp elt [⟨tg, iter, ifs, 0⟩] scope pos) (mf_lc mi (own.map (·.2)) g mt me) :=
  pe_mono (pe_lc hc hN hi ok hg ht he hs) fun σ H Q h => by
    obtain ⟨w, ρ, S, h⟩ := h
    exact lc_go hv (fun _ _ _ q => q) (fun _ _ _ _ q => q) (fun _ _ _ q => q) (fun _ _ _ q => q) h
/-- name = [..], kept as a list that changes, and not -/
theorem ps_lcF {i : Nat} {y : Str} {py : Pos} {elt tg iter : Expr} {ifs : List Expr} {scope : Scope} {own : List (Str × Nat)} {spos : Pos} (hc : X.calm = true) (hN : X.N.Nodup) (hy : X.N[i]? = some y) (hyl : X.env.scope.names.lookup y = some .local)
    (hsw : swapsWith (.ListComp elt [⟨tg, iter, ifs, 0⟩] scope pos) (some (.Name y py)) spos.line X.env = pure true) (hi : PDI X W z tg iter mi) (ok : BlkOk X.N X.env.scope scope own)
    (hg : ∀ (s : Shared) (H : Hp) (C : Addr) (cl : List (Str × Addr)) (fp : List Addr), PG (X.blk s H scope (compEnvC scope cl C X.env) fp) tg (tG X.K X.mg none tv g))
    (ht : ∀ (s : Shared) (H : Hp) (C : Addr) (cl : List (Str × Addr)) (fp : List Addr), PTs (X.blk s H scope (compEnvC scope cl C X.env) fp) ifs (tT X.K X.mg WNo none mt))
    (he : ∀ (s : Shared) (H : Hp) (C : Addr) (cl : List (Str × Addr)) (fp : List Addr), PE (X.blk s H scope (compEnvC scope cl C X.env) fp) elt (tD X.K X.mg WNo none me)) (hv : ∀ i ∈ tv, i ∈ own.map (·.2) := by decide)
    (hs : ∀ x, foldedSetIterable iter X.env x = pure x := by intro _; rfl) :
    PS X (.Assign [.Name y py] (.ListComp elt [⟨tg, iter, ifs, 0⟩] scope pos) spos) (tAsg (tF X.K X.mg W z (mf_lc mi (own.map (·.2)) g mt me)) (gName i)) :=
  ps_mono (ps_setLc hc hN hy hyl hsw hi ok hg ht he hs) fun Dn σ H h => by
    obtain ⟨w, ρ, S, h⟩ := h
    exact lc_go (Q := fun x H1 => gName i x σ H1 Dn.nx) hv (fun _ _ _ q => q) (fun _ _ _ _ q => q) (fun _ _ _ q => q) (fun _ _ _ q => q) h
theorem ps_fz {i : Nat} {m : M (List D)} (h : PS X st (tAsg (tF X.K X.mg W z m) (gName i))) : PS X st (tAsg (tD X.K X.mg W z (m_fz m)) (gName i)) := ps_mono h fun Dn σ H h => fz_go h

/-! ### defs -/
/-- a promise by a function of data -/
def spD (K : PySem.W.Frag) (mg : Str → Option Value) (n : Nat) (F : List D → Sto → Option (R D × Sto)) : Sp := fun vs H Q E =>
  ∃ w S ds, At K mg w H S ∧ DtA K mg w vs ds ∧ ds.length = n ∧ ∃ r S', F ds S = some (r, S') ∧
    (∀ d, r = .ok d → ∀ v H' w', Stp w w' H H' → At K mg w' H' S' → Dt K mg w' v d → Q v H') ∧
    (∀ c fs, r = .er c fs → ∀ H' w' cls dx, Stp w w' H H' → At K mg w' H' S' → Xr K mg w' cls dx c fs → E cls dx H')
def runD (n : Nat) (body : SM) : List D → Sto → Option (R D × Sto) := fun ds S =>
  match body (ds.map Sv.d ++ List.replicate (n - ds.length) .un) S with
  | some (.nx, _, S') => some (.ok .non, S')
  | some (.rt d, _, S') => some (.ok d, S')
  | some (.er c fs, _, S') => some (.er c fs, S')
  | _ => none
theorem start_sl {N : List Str} {vs : List V} {ds : List D} (h : DtA K mg w vs ds) : Sl K mg none w H (L2.start N vs) (ds.map Sv.d ++ List.replicate (N.length - ds.length) .un) := by
  have hl := h.length
  have nom : ∀ (i : Nat) (o : Mo), (ds.map Sv.d ++ List.replicate (N.length - ds.length) .un)[i]? ≠ some (Sv.m o) := by
    intro i o e
    rcases List.mem_append.mp (List.mem_of_getElem? e) with h | h
    · obtain ⟨_, _, h⟩ := List.mem_map.mp h
      cases h
    · cases (List.mem_replicate.mp h).2
  refine ⟨by simp [L2.start, hl], fun i d e => ?_, fun i o e => absurd e (nom i o), fun i j oi oj a e _ _ _ => absurd e (nom i oi), fun zi e => nomatch e⟩
  by_cases hi : i < ds.length
  · rw [List.getElem?_append_left (by simpa using hi), List.getElem?_map] at e
    cases q : ds[i]? with
    | none => rw [q] at e; cases e
    | some d' =>
      rw [q] at e
      cases e
      obtain ⟨v, ev, hv⟩ := h.get q
      refine ⟨v, ?_, hv⟩
      unfold L2.start
      rw [List.getElem?_append_left (by simp [hl, hi]), List.getElem?_map, ev]
      rfl
  · rw [List.getElem?_append_right (by simpa using hi)] at e
    cases (List.mem_replicate.mp (List.mem_of_getElem? e)).2
section
variable {P : Program} {wo : World} {base : Heap}
/-- the wish of a def's body about what is raised -/
abbrev WE0 (E : XK) : WX := fun cls d _ H' => E cls d H'
theorem fnD {k : Nat} {f : Addr} {x q : Str} {fd : FuncData} {N ps : List Str} {body : SM}
    (F : Fun K x q st f fd) (Sc : FnScope N ps (defScope st))
    (hb : ∀ (cdv : Value) (A : Around) (out : List Env) (s : Shared) (H : Hp) (E : XK) (w0 : W0), Quiet A → Room k (A.deeper (envOfC q (defScope st) s.heap.objs.size f cdv)) →
      PDSs (cxOf (L2.CX P wo) P wo K mg base N q (defScope st) f cdv A out s H E) (WE0 E) none w0 (defBody st) body) :
    FnG P wo K mg base (L2.CX P wo) (k + 1) f fd ps (spD K mg ps.length (runD N.length body)) := by
  refine fnG F Sc (fun vs H Q E h => ?_) fun cdv A out s H vs Q E qa hr h => ⟨_, hb cdv A out s H E ⟨Classical.choose h, H⟩ qa hr, ?_⟩
  · obtain ⟨w, S, ds, _, hd, hl, _⟩ := h
    rw [hd.length, hl]
  · obtain ⟨S, ds, t, hd, hl, r, S', e, k1, k2⟩ := Classical.choose_spec h
    unfold runD at e
    have st0 : StS K mg none ⟨Classical.choose h, H⟩ (Classical.choose h) (L2.start N vs) H (ds.map Sv.d ++ List.replicate (N.length - ds.length) .un) S := by
      refine ⟨t, start_sl hd, fun i o a e1 => ?_, Stp.refl _ _⟩
      rcases List.mem_append.mp (List.mem_of_getElem? e1) with h | h
      · obtain ⟨_, _, h⟩ := List.mem_map.mp h
        cases h
      · cases (List.mem_replicate.mp h).2
    cases q2 : body (ds.map Sv.d ++ List.replicate (N.length - ds.length) .un) S with
    | none => rw [q2] at e; cases e
    | some x =>
      obtain ⟨fl, ρ1, S1⟩ := x
      rw [q2] at e
      refine ⟨_, _, S, st0, fl, ρ1, S1, q2, ?_⟩
      cases fl with
      | nx =>
        cases e
        exact fun σ' H' w' l s' => k1 .non rfl .non H' w' s'.st s'.t .non
      | rt d =>
        cases e
        exact fun v σ' H' w' l s' hd' => k1 d rfl v H' w' s'.st s'.t hd'
      | er c fs =>
        cases e
        exact fun σ' H' w' cls dx l s' x => k2 c fs rfl H' w' cls dx s'.st s'.t x
      | bk => cases e
      | ct => cases e
end
/-! ### calls -/
def m_call (n : Nat) (F : List D → Sto → Option (R D × Sto)) (ms : M (List D)) : M D := ms.bind fun ds _ S => if ds.all fixed = true ∧ ds.length = n then F ds S else none
variable {k j n : Nat} {f : Addr} {fd : FuncData} {ps : List Str} {sp : Sp} {E : L2.St → XK} {x : Str} {p : Pos} {F : List D → Sto → Option (R D × Sto)}
/-- the callee runs, what it raises is wished for at the caller's slots -/
theorem runGS {CX : CXT} {pins : List (Addr × Obj)} {s : Shared} {Q : VK} {us : List Value} {vs : List V}
    (F : FnG X.prog X.w X.K X.mg X.base CX k f fd ps sp) (g : Quiet X.A) (hr : Room k X.A) (hb : Binds X.K fd ps []) (hx : PassesAt CX X σ (E σ))
    (I : Inv X pins σ H s) (r : Vals vs us) (h : sp vs H Q (E σ)) :
    wpAny (model X.prog X.w) X.A (call (.ref f) us) (EP X pins σ Q) X.xe s := by
  have hl : (us ++ []).length = ps.length := by rw [List.append_nil, ← r.length]; exact F.len vs H Q (E σ) h
  have b := hb s us I.kIn hl
  rw [List.append_nil] at b
  refine wpAny_call (codeAny_mono (F.go X.A X.stack s H ⟨us, []⟩ us vs Q (E σ) g hr I.env0 b r h) ?_)
  intro res s' hq
  match res, hq with
  | .error er, hq => exact hx pins H s er s' I hq
  | .ok (.ret u), hq => exact I.after hq
  | .ok .next, hq => exact hq.elim
  | .ok .brk, hq => exact hq.elim
  | .ok .cont, hq => exact hq.elim
theorem pe_gS {CX : CXT} {t : TA} (c : Cal X.prog X.w X.K X.mg X.base CX k x sp) (g : Quiet X.A) (hr : Room j X.A) (hk : k ≤ j) (hg : Gl X x) (hx : ∀ σ, PassesAt CX X σ (E σ))
    (ha : PA X (e :: es) t) (hdb : (x == ("__debug__" : Str)) = false := by decide)
    (he : starEach (e :: es) X.env = (false, eval e X.env) :: starEach es X.env := by rfl)
    (hpl : (backTo pos (starEach es X.env)).any (·.1) = false := by rfl) :
    PE X (.Call (.Name x p) (e :: es) [] pos) (fun σ H Q => t σ H fun vs H1 => sp vs H1 Q (E σ)) := by
  obtain ⟨f, fd, ps, F, hm, kp, b⟩ := c.ex
  refine ⟨fun pins s σ H Q I h => wpAny_Call_Name_kw (ld_glob I hg hm ?_ hdb)⟩
  refine PySem.W.callWith_K (h₀ := X.base) I.ok.mod.kin kp (thn (ha.run pos pins s σ H _ I h) ?_) he hpl
  rintro us s1 ⟨vs, H1, I1, r, q⟩
  exact ⟨I1.kIn, runGS F g (hr.mono hk) b (hx σ) I1 r q⟩
theorem call_go {Q : VK} (h : tD K mg W z (m_call n F ms) σ H Q) : tA K mg W z ms σ H fun vs H1 => spD K mg n F vs H1 Q (WE W σ) := by
  obtain ⟨w, ρ, S, h⟩ := h
  refine ⟨w, ρ, S, h.bind (rel1 := relA K mg σ ρ) fun ds vs w1 H1 S1 st rds h1 => ?_⟩
  obtain ⟨t1, s1, r, S', e, p⟩ := h1
  split at e
  · rename_i c
    refine ⟨w1, S1, ds, t1, rds.fix c.1, c.2, r, S', e, fun d hd v H' w' st' t' hv => ?_, fun c fs hd H' w' cls dx st' t' x => ?_⟩
    · subst hd
      exact p v H' w' st' t' (.inl hv)
    · subst hd
      exact p H' w' cls dx st' t' x
  · cases e
theorem pd_call (c : Cal X.prog X.w X.K X.mg X.base (L2.CX X.prog X.w) k x (spD X.K X.mg n F)) (g : Quiet X.A) (hr : Room j X.A) (hk : k ≤ j) (hg : Gl X x) (tk : Takes X W)
    (ha : PDA X W z (e :: es) ms) (hdb : (x == ("__debug__" : Str)) = false := by decide)
    (he : starEach (e :: es) X.env = (false, eval e X.env) :: starEach es X.env := by rfl)
    (hpl : (backTo pos (starEach es X.env)).any (·.1) = false := by rfl) :
    PD X W z (.Call (.Name x p) (e :: es) [] pos) (m_call n F ms) :=
  pe_mono (pe_gS (E := WE W) c g hr hk hg (fun σ => passAt tk σ) ha hdb he hpl) fun σ H Q h => call_go h
end
end Pd

/-! t[::-1], t a tuple. -/
namespace Hv
open PySem PySem.Spec PyProof.Rows HT
section
variable {prog : Program} {w : World} {A : Around} {E : Value → Shared → Prop} {s : Shared}
theorem app_rev {sl : Addr} {u0 u1 u2 : Value} {n : Nat} {R : Int × Int × Nat → Shared → Prop} (h0 : s.heap.IsSliceOf sl u0 u1 u2) (q0 : IsPart u0 none) (q1 : IsPart u1 none) (q2 : IsPart u2 (some (-1)))
    (h : R ((n : Int) - 1, -1, n) s) : wpAny (model prog w) A (Builtin.Slice.sliceApplied (.ref sl) (pure (n : Int))) R E s := by
  obtain ⟨o3, g1, g2, g3⟩ := id h0
  unfold Builtin.Slice.sliceApplied
  unfold Builtin.Slice.sliceFields
  refine wpAny_bind (wpAny_bind (wpAny_field g1 g3 (x := u0) rfl (wpAny_bind (wpAny_field g1 g3 (x := u1) rfl (wpAny_bind (wpAny_field g1 g3 (x := u2) rfl (wpAny_pure ?_)))))))
  refine wpAny_bind (HT.slicePart_ q2 ?_)
  show wpAny _ _ (if ((-1 : Int) == 0) = true then _ else _) _ _ s
  rw [if_neg (show ¬ (((-1 : Int) == 0) = true) by decide)]
  refine wpAny_bind (HT.slicePart_ q0 (wpAny_bind (HT.slicePart_ q1 (wpAny_bind (wpAny_pure (wpAny_pure ?_))))))
  have e : Builtin.Slice.slicePlaces ((n : Int) - 1) (-1) (-1) = n := by
    unfold Builtin.Slice.slicePlaces
    rw [if_neg (show ¬ ((-1 : Int) > 0) by decide)]
    by_cases hn : (n : Int) - 1 > -1
    · rw [if_pos hn, show (- -1 : Int) = 1 by decide, Int.ediv_one]
      omega
    · rw [if_neg hn]
      have : (n : Int) = 0 := by omega
      simp
      omega
  show R ((n : Int) - 1, -1, Builtin.Slice.slicePlaces ((n : Int) - 1) (-1) (-1)) s
  rw [e]
  exact h
theorem pick_rev (xs : Array Value) : ((List.range xs.size).filterMap fun (k : Nat) => xs[(((xs.size : Int) - 1) + (k : Int) * (-1)).toNat]?).toArray = xs.toList.reverse.toArray := by
  have e : (fun (k : Nat) => xs[(((xs.size : Int) - 1) + (k : Int) * (-1)).toNat]?) = (xs[·]?) ∘ fun (k : Nat) => (((xs.size : Int) - 1) + (k : Int) * (-1)).toNat := rfl
  rw [e, ← List.filterMap_map]
  have e2 : (List.range xs.size).map (fun (k : Nat) => (((xs.size : Int) - 1) + (k : Int) * (-1)).toNat) = (List.range xs.size).map fun k => xs.size - 1 - k := by
    refine List.map_congr_left fun k hk => ?_
    have := List.mem_range.mp hk
    omega
  rw [e2, PySem.W.krv_range, List.filterMap_reverse, PySem.W.krv_all]
theorem get_rev {t sl : Addr} {xs : Array Value} {u0 u1 u2 : Value} {R : Value → Shared → Prop} (ht : IsTup s.heap t xs) (h0 : s.heap.IsSliceOf sl u0 u1 u2) (q0 : IsPart u0 none) (q1 : IsPart u1 none) (q2 : IsPart u2 (some (-1)))
    (h : R (.ref s.heap.objs.size) { s with heap := s.heap.push { cls := .type "tuple", data := .seq xs.toList.reverse.toArray } }) (hz : xs.size ≤ sizeLine) : wpAny (model prog w) A (getItem (.ref t) (.ref sl)) R E s := by
  have hk : sizeOk (.seq xs.toList.reverse.toArray) := by
    show xs.toList.reverse.toArray.size ≤ sizeLine
    simpa using hz
  obtain ⟨o3, g1, g2, g3⟩ := id h0
  have hS : s.TypeIs (.ref sl) "slice" := ⟨o3, g1, g2⟩
  unfold getItem
  try with_reducible
    refine wpAny_holding ?_
  first
  | refine wpAny_bind (wpAny_pure ?_)
  | skip
  refine wpAny_bind (wpAny_sequenceKey
    ht.typeIs (by decide) ?_)
  refine wpAny_bind (wpAny_callSpecial?_slot (name := Str.ofString "__getitem__")
    ht.typeIs PyProof.Rows.slot_tuple_getitem (wpAny_call_entry PyProof.Rows.slot_tuple_getitem
      ht.typeIs entry_tuple_getitem ?_ (args_tuple_getitem _ _)))
  show wpAny _ _ (Builtin.Tuple.tupleItemsOf (.ref t) >>= _)
    _ _ s
  refine wpAny_bind (tupleItemsOf_ ht (wpAny_bind (wpAny_typeOf hS ?_)))
  rw [if_pos (by decide)]
  refine wpAny_bind (app_rev h0 q0 q1 q2 ?_)
  have hno : ¬ ((((xs.size : Int) - 1) == 0 && (-1 : Int) == 1 && xs.size == xs.size) = true) := by
    intro q
    rw [Bool.and_eq_true, Bool.and_eq_true] at q
    exact absurd q.1.2 (by decide)
  show wpAny _ _ (if (((xs.size : Int) - 1) == 0 && (-1 : Int) == 1 && xs.size == xs.size) = true then _ else _) _ _ s
  rw [if_neg hno, pick_rev]
  first
    | exact wpAny_bind (m := Builtin.Tuple.tupleExact _) (wpAny_newObj_type
        (wpAny_pure ⟨_, rfl, wpAny_pure h⟩) hk)
    | exact wpAny_bind (m := Builtin.Tuple.tupleExact _) (wpAny_newObj_type
        (wpAny_bind (wpAny_pure (wpAny_pure ⟨_, rfl, wpAny_pure h⟩))) hk)
    | exact wpAny_bind (wpAny_bind (m := Builtin.Tuple.tupleExact _) (wpAny_newObj_type
        (wpAny_pure (wpAny_pure ⟨_, rfl, wpAny_pure h⟩)) hk))
    | exact wpAny_bind (wpAny_bind (m := Builtin.Tuple.tupleExact _) (wpAny_newObj_type
        (wpAny_pure ⟨_, rfl, wpAny_pure h⟩) hk))
end
end Hv
namespace Hg
open PySem L2
open PySem.Spec PyProof.Rows
section
variable {X : Cx}
def tRevT (K : PySem.W.Frag) (te : TE) : TE := fun σ H Q => te σ H fun x H1 => ∃ a xs, x = .ref a ∧ SqT K H1 a xs ∧ ∀ p, H1 p = none → Q (.ref p) (upd H1 p (.tup xs.reverse))
theorem pe_revT {e : Expr} {te : TE} {k : Nat} {p1 p2 p3 pos : Pos} (he : PE X e te) : PE X (.Subscript e (.Slice none none (some (.UnaryOp .USub (.Constant (.int 1) k p1) p2)) p3) pos) (tRevT X.K te) := by
  refine ⟨fun pins s σ H Q I h => ?_⟩
  refine Subscript_ (thn (he.run pins s σ H _ I h) fun v s1 ⟨x, H1, I1, r1, q1⟩ => ?_)
  obtain ⟨a, xs, rfl, hx, q⟩ := q1
  cases r1
  have hst : PO X (some (.UnaryOp .USub (.Constant (.int 1) k p1) p2)) (tPart (tUn (rU fun i => .int (-i)) (tC (.int 1)))) := po_some
    (pe_un un_neg pe_int)
  refine wpAny_Slice (thn (po_none.run pins s1 σ H1 (fun o G => o = none ∧ G = H1) I1 ⟨rfl, rfl⟩) fun ul s2 ⟨l, H2, I2, pl, el, e2⟩ => ?_)
  subst el e2
  refine thn (po_none.run pins s2 σ H2 (fun o G => o = none ∧ G = H2) I2 ⟨rfl, rfl⟩) fun uu s3 ⟨u, H3, I3, pu, eu, e3⟩ => ?_
  subst eu e3
  refine thn (hst.run pins s3 σ H3 (fun o G => o = some (-1) ∧ G = H3) I3 ⟨1, rfl, -1, rfl, rfl, rfl⟩) fun us s4 ⟨o, H4, I4, ps, eo, e4⟩ => ?_
  subst eo e4
  have I5 : Inv X pins σ H4 { s4 with heap := s4.heap.push { cls := .type "slice", data := .fields #[ul, uu, us] } } := I4.kept (t' := s4.toks) fun b ob q => Heap.get?_push_of_some _ q
  obtain ⟨its, r, ht, hz⟩ := I5.tuple hx
  have hlen := r.length
  show wpAny (model X.prog X.w) X.A (subscriptTail e (.Slice none none (some (.UnaryOp .USub (.Constant (.int 1) k p1) p2)) p3) (.ref a) (.ref s4.heap.objs.size)) (EP X pins σ Q) X.xe { s4 with heap := s4.heap.push { cls := .type "slice", data := .fields #[ul, uu, us] } }
  refine tail_any (ops := [.ref a, .ref s4.heap.objs.size]) ht.typeIs (PyProof.Rows.slot_tuple_getitem.lookup) ?_ (by with_unfolding_all rfl)
  refine Hv.get_rev ht (Heap.IsSliceOf.new _ ul uu us) pl pu ps ?_ (by rw [List.size_toArray]; omega)
  refine ⟨.ref _, _, I5.laid (t' := s4.toks) (o := .tup xs.reverse) (fun b ob q => Heap.get?_push_of_some _ q) (Nat.le_refl _) ?_, rfl, q _ (I5.hok.fresh (Nat.le_refl _))⟩
  exact ⟨by rw [List.length_reverse]; exact hz, _, r.reverse, IsTup.new _ _⟩
end
end Hg

/-! Operations on data. -/
namespace Pd
open PySem L2 Evl Hg
section
variable {X : Cx} {W : WX} {z : Option Zi} {w w' w1 : Wd} {σ : L2.St} {H H' H1 : Hp} {ρ ρ' : Rho} {S S' S1 : Sto} {K : PySem.W.Frag} {mg : Str → Option Value}
variable {e a b : Expr} {es : List Expr} {pos : Pos} {me ma mb : M D} {ms : M (List D)}
/-! ### arithmetic -/
def addD : D → D → Option D
  | .int i, .int j => some (.int (i + j))
  | .str x, .str y => if x.length + y.length ≤ sizeLine then some (.str (x ++ y)) else none
  | .tup xs, .tup ys => if xs.length + ys.length ≤ sizeLine then some (.tup (xs ++ ys)) else none
  | .lst xs, .lst ys => if xs.length + ys.length ≤ sizeLine then some (.lst (xs ++ ys)) else none
  | _, _ => none
def rAddD (K : PySem.W.Frag) : R2 := fun x y H Q => rI0 (fun i j => .int (i + j)) x y H Q ∨ (∃ i j, x = .str i ∧ y = .str j ∧ i.length + j.length ≤ sizeLine ∧ Q (.str (i ++ j)) H) ∨ rCatA K x y H Q ∨
  (∃ a b xs ys, x = .ref a ∧ y = .ref b ∧ Rd H a (.lst xs) ∧ Rd H b (.lst ys) ∧ xs.length + ys.length ≤ sizeLine ∧ ∀ p, H p = none → Q (.ref p) (upd H p (.lst (xs ++ ys))))
theorem op_catR : OpR X (binaryOp .Add) (fun x y H Q => ∃ a b xs ys, x = .ref a ∧ y = .ref b ∧ Rd H a (.lst xs) ∧ Rd H b (.lst ys) ∧ xs.length + ys.length ≤ sizeLine ∧ ∀ p, H p = none → Q (.ref p) (upd H p (.lst (xs ++ ys)))) := by
  intro pins s σ H x y v u Q I rx ry h
  obtain ⟨l, b, xs, zs, rfl, rfl, hH, hB, hz, q⟩ := h
  cases rx
  cases ry
  obtain ⟨z, its, n, r, e⟩ := hH.ok I.hok
  obtain ⟨z2, its2, n2, r2, e2⟩ := hB.ok I.hok
  have hl := r.length
  have hl2 := r2.length
  refine PySem.P.add_list e e2 ?_ (by rw [List.size_toArray, List.size_toArray]; omega)
  have ea : its.toArray ++ its2.toArray = (its ++ its2).toArray := by simp
  rw [ea]
  exact ⟨.ref _, _, I.lnew (t' := s.toks) (r.append r2) (by rw [List.length_append]; omega), rfl, q _ I.fresh⟩
theorem op_addD : OpR X (binaryOp .Add) (rAddD X.K) := OpR.or op_add (OpR.or op_add_str (OpR.or op_catA op_catR))
theorem o2_add : Op2 X (rAddD X.K) addD := by
  intro w H x y a b d s ra rb e Q q
  have g := Grow.refl s
  cases a <;> cases b <;> first | (exfalso; simp [addD] at e; done) | skip
  · cases ra; cases rb; cases e
    exact .inl ⟨_, _, rfl, rfl, q _ _ _ g (.int _)⟩
  · cases ra; cases rb
    simp only [addD] at e
    split at e
    · cases e
      exact .inr (.inl ⟨_, _, rfl, rfl, by assumption, q _ _ _ g (.str _)⟩)
    · cases e
  · obtain ⟨a, xs, rfl, ha, hx⟩ := ra
    obtain ⟨b, ys, rfl, hb, hy⟩ := rb
    simp only [addD] at e
    split at e
    · rename_i c
      cases e
      refine .inr (.inr (.inl ⟨a, b, xs, ys, rfl, rfl, ex_t s ha, ex_t s hb, by rw [hx.length, hy.length]; exact c, ?_, ?_, ?_⟩))
      · rintro rfl
        cases hx
        exact q _ _ _ g (.tup hb hy)
      · rintro _ rfl
        cases hy
        rw [List.append_nil] at q
        exact q _ _ _ g (.tup ha hx)
      · intro _ _ p np
        have gn := Grow.new (o := .tup (xs ++ ys)) s np
        exact q _ _ _ gn (.tup (st_of upd_same) ((hx.mono gn.le).append (hy.mono gn.le)))
    · cases e
  · obtain ⟨a, xs, rfl, ha, hx⟩ := ra
    obtain ⟨b, ys, rfl, hb, hy⟩ := rb
    simp only [addD] at e
    split at e
    · rename_i c
      cases e
      refine .inr (.inr (.inr ⟨a, b, xs, ys, rfl, rfl, ha, hb, by rw [hx.length, hy.length]; exact c, ?_⟩))
      intro p np
      have gn := Grow.new (o := .lst (xs ++ ys)) s np
      exact q _ _ _ gn (.lst (Rd.of upd_same) ((hx.mono gn.le).append (hy.mono gn.le)))
    · cases e
def intD (f : Int → Int → Option Int) : D → D → Option D
  | .int i, .int j => (f i j).map D.int
  | _, _ => none
theorem o2_int {C : Int → Int → Prop} {f : Int → Int → Int} {g : Int → Int → Option Int} (h : ∀ i j k, g i j = some k → C i j ∧ k = f i j) : Op2 X (rI C fun i j => .int (f i j)) (intD g) := by
  intro w H x y a b d s ra rb e Q q
  cases a <;> cases b <;> first | (exfalso; simp [intD] at e; done) | skip
  rename_i i j
  cases ra; cases rb
  simp only [intD] at e
  cases q1 : g i j with
  | none => rw [q1] at e; cases e
  | some k =>
    rw [q1] at e
    cases e
    obtain ⟨c, rfl⟩ := h i j k q1
    exact ⟨i, j, rfl, rfl, c, q _ _ _ (Grow.refl s) (.int _)⟩
theorem o2_int0 {f : Int → Int → Int} : Op2 X (rI0 fun i j => .int (f i j)) (intD fun i j => some (f i j)) := by
  intro w H x y a b d s ra rb e Q q
  cases a <;> cases b <;> first | (exfalso; simp [intD] at e; done) | skip
  cases ra; cases rb; cases e
  exact ⟨_, _, rfl, rfl, q _ _ _ (Grow.refl s) (.int _)⟩
def small64 (i : Int) : Bool := decide (-(2 ^ 64) < i) && decide (i < 2 ^ 64)
def mulD : D → D → Option D := intD fun i j => if (small64 i || small64 j) = true then some (i * j) else none
theorem o2_mul : Op2 X (rI CMul fun i j => .int (i * j)) mulD := o2_int fun i j k h => by
  split at h
  · rename_i c
    cases h
    refine ⟨?_, rfl⟩
    rcases Bool.or_eq_true_iff.mp c with c | c
    · simp only [small64, Bool.and_eq_true, decide_eq_true_eq] at c
      exact .inl c
    · simp only [small64, Bool.and_eq_true, decide_eq_true_eq] at c
      exact .inr c
  · cases h
def subD : D → D → Option D := intD fun i j => some (i - j)
def modD : D → D → Option D := intD fun i j => if 0 < j then some (i % j) else none
theorem o2_mod : Op2 X (rI (fun _ j => 0 < j) fun i j => .int (i % j)) modD := o2_int fun i j k h => by
  split at h
  · cases h; exact ⟨by assumption, rfl⟩
  · cases h
def fdivD : D → D → Option D := intD fun i j => if 0 < j ∧ j < 1073741824 then some (i / j) else none
theorem o2_fdiv : Op2 X (rI CDiv fun i j => .int (i / j)) fdivD := o2_int fun i j k h => by
  split at h
  · cases h; exact ⟨by assumption, rfl⟩
  · cases h
def powD : D → D → Option D := intD fun i j => if 0 ≤ j ∧ j ≤ 1000000 ∧ i.natAbs < 2 ^ 64 then some (i ^ j.toNat) else none
theorem o2_pow : Op2 X (rI CPow fun i j => .int (i ^ j.toNat)) powD := o2_int fun i j k h => by
  split at h
  · cases h; exact ⟨by assumption, rfl⟩
  · cases h
theorem pd_add (ha : PD X W z a ma) (hb : PD X W z b mb) : PD X W z (.BinOp a .Add b pos) (m_op addD ma mb) := pd_op op_addD o2_add ha hb
theorem pd_sub (ha : PD X W z a ma) (hb : PD X W z b mb) : PD X W z (.BinOp a .Sub b pos) (m_op subD ma mb) := pd_op op_sub o2_int0 ha hb
theorem pd_mul (ha : PD X W z a ma) (hb : PD X W z b mb) : PD X W z (.BinOp a .Mult b pos) (m_op mulD ma mb) := pd_op op_mul o2_mul ha hb
theorem pd_mod (ha : PD X W z a ma) (hb : PD X W z b mb) : PD X W z (.BinOp a .Mod b pos) (m_op modD ma mb) := pd_op op_mod o2_mod ha hb
theorem pd_fdiv (ha : PD X W z a ma) (hb : PD X W z b mb) : PD X W z (.BinOp a .FloorDiv b pos) (m_op fdivD ma mb) := pd_op op_fdiv o2_fdiv ha hb
theorem pd_pow (ha : PD X W z a ma) (hb : PD X W z b mb) : PD X W z (.BinOp a .Pow b pos) (m_op powD ma mb) := pd_op op_pow o2_pow ha hb
def m_neg (m : M D) : M D := m.bind fun d => M.lift fun _ _ => match d with
  | .int i => some (.int (-i))
  | _ => none
theorem pd_neg (ha : PD X W z a ma) : PD X W z (.UnaryOp .USub a pos) (m_neg ma) := pe_mono (pe_un un_neg ha) fun σ H Q h => by
  obtain ⟨w, ρ, S, h⟩ := h
  refine ⟨w, ρ, S, h.bind fun d v w1 H1 S1 st rd h1 => ?_⟩
  obtain ⟨x, e, k⟩ := h1.lift
  cases d <;> first | (exfalso; simp at e; done) | skip
  cases e
  obtain rfl := rr_int rd
  exact ⟨_, rfl, k _ H1 w1 (Grow.refl h1.t.sub) (.inl (.int _))⟩

/-! ### order -/
def ltD : D → D → Option Bool
  | .int i, .int j => some (decide (i < j))
  | .str x, .str y => some (decide (x.cps.toList < y.cps.toList))
  | _, _ => none
def leD : D → D → Option Bool
  | .int i, .int j => some (decide (i ≤ j))
  | .str x, .str y => some (!decide (y.cps.toList < x.cps.toList))
  | _, _ => none
def gtD : D → D → Option Bool
  | .int i, .int j => some (decide (j < i))
  | _, _ => none
def geD : D → D → Option Bool
  | .int i, .int j => some (decide (j ≤ i))
  | _, _ => none
theorem op_ltD : OpR X (compareOp .Lt) (fun x y H Q => rI0 (fun i j => .bl (decide (i < j))) x y H Q ∨ ∃ i j, x = .str i ∧ y = .str j ∧ Q (.bl (decide (i.cps.toList < j.cps.toList))) H) := OpR.or op_lt op_lt_str
theorem op_leD : OpR X (compareOp .LtE) (fun x y H Q => rI0 (fun i j => .bl (decide (i ≤ j))) x y H Q ∨ ∃ i j, x = .str i ∧ y = .str j ∧ Q (.bl (!decide (j.cps.toList < i.cps.toList))) H) := OpR.or op_le op_le_str
theorem c2_lt : Cm2 X (fun x y H Q => rI0 (fun i j => .bl (decide (i < j))) x y H Q ∨ ∃ i j, x = .str i ∧ y = .str j ∧ Q (.bl (decide (i.cps.toList < j.cps.toList))) H) ltD := by
  intro w H x y a b c s ra rb e Q q
  cases a <;> cases b <;> first | (exfalso; simp [ltD] at e; done) | skip
  · cases ra; cases rb; cases e
    exact .inl ⟨_, _, rfl, rfl, q H (Ex.refl _)⟩
  · cases ra; cases rb; cases e
    exact .inr ⟨_, _, rfl, rfl, q H (Ex.refl _)⟩
theorem c2_le : Cm2 X (fun x y H Q => rI0 (fun i j => .bl (decide (i ≤ j))) x y H Q ∨ ∃ i j, x = .str i ∧ y = .str j ∧ Q (.bl (!decide (j.cps.toList < i.cps.toList))) H) leD := by
  intro w H x y a b c s ra rb e Q q
  cases a <;> cases b <;> first | (exfalso; simp [leD] at e; done) | skip
  · cases ra; cases rb; cases e
    exact .inl ⟨_, _, rfl, rfl, q H (Ex.refl _)⟩
  · cases ra; cases rb; cases e
    exact .inr ⟨_, _, rfl, rfl, q H (Ex.refl _)⟩
theorem c2_gt : Cm2 X (rI0 (fun i j => .bl (decide (j < i)))) gtD := by
  intro w H x y a b c s ra rb e Q q
  cases a <;> cases b <;> first | (exfalso; simp [gtD] at e; done) | skip
  cases ra; cases rb; cases e
  exact ⟨_, _, rfl, rfl, q H (Ex.refl _)⟩
theorem c2_ge : Cm2 X (rI0 (fun i j => .bl (decide (j ≤ i)))) geD := by
  intro w H x y a b c s ra rb e Q q
  cases a <;> cases b <;> first | (exfalso; simp [geD] at e; done) | skip
  cases ra; cases rb; cases e
  exact ⟨_, _, rfl, rfl, q H (Ex.refl _)⟩

/-! ### data that are shown and compared -/
mutual
def D.py : D → Option PyData
  | .non => some .none
  | .bl b => some (.bool b)
  | .int i => some (.int i)
  | .str x => some (.str x)
  | .tup ds => match pyA ds with
    | some ps => some (.tuple ps)
    | none => none
  | .lst ds => match pyA ds with
    | some ps => some (.list ps)
    | none => none
  | .dct kvs => match pyK kvs with
    | some ps => some (.dict ((kvs.map fun p => keyD p.1).zip ps))
    | none => none
  | _ => none
def pyA : List D → Option (List PyData)
  | [] => some []
  | d :: ds => match d.py, pyA ds with
    | some p, some ps => some (p :: ps)
    | _, _ => none
def pyK : List (Key × D) → Option (List PyData)
  | [] => some []
  | (_, d) :: ds => match d.py, pyK ds with
    | some p, some ps => some (p :: ps)
    | _, _ => none
end
theorem pyK_map : ∀ kvs : List (Key × D), pyK kvs = pyA (kvs.map (·.2))
  | [] => by simp [pyK, pyA]
  | (k, d) :: r => by simp [pyK, pyA, pyK_map r]
theorem pyA_cons {d : D} {ds : List D} {ps : List PyData} (e : pyA (d :: ds) = some ps) : ∃ p qs, ps = p :: qs ∧ d.py = some p ∧ pyA ds = some qs := by
  simp only [pyA] at e
  cases h1 : d.py with
  | none => rw [h1] at e; cases e
  | some p =>
    cases h2 : pyA ds with
    | none => rw [h1, h2] at e; cases e
    | some qs =>
      rw [h1, h2] at e
      cases e
      exact ⟨p, qs, rfl, rfl, rfl⟩
mutual
theorem Dt.dd : ∀ {v : V} {d : D} {p : PyData}, Dt K mg w v d → d.py = some p → Dd K w.G v p
  | _, _, _, .non, e => by simp only [D.py] at e; cases e; exact .non
  | _, _, _, .bl b, e => by simp only [D.py] at e; cases e; exact .bl b
  | _, _, _, .int i, e => by simp only [D.py] at e; cases e; exact .int i
  | _, _, _, .str x, e => by simp only [D.py] at e; cases e; exact .str x
  | _, _, _, .tup (ds := ds) h hs, e => by
    simp only [D.py] at e
    cases q : pyA ds with
    | none => rw [q] at e; cases e
    | some ps =>
      rw [q] at e
      cases e
      exact .tup h (hs.dd q)
  | _, _, _, .lst (ds := ds) h hs, e => by
    simp only [D.py] at e
    cases q : pyA ds with
    | none => rw [q] at e; cases e
    | some ps =>
      rw [q] at e
      cases e
      exact .lst (.inl h) (hs.dd q)
  | _, _, _, .dct (kvs := kvs) (kds := kds) h ek hs, e => by
    simp only [D.py] at e
    cases q : pyK kds with
    | none => rw [q] at e; cases e
    | some ps =>
      rw [q] at e
      cases e
      rw [pyK_map] at q
      have e2 : (kds.map fun p => keyD p.1) = kvs.map fun p => keyD p.1 := by
        have : ∀ {α : Type} (l : List (Key × α)), (l.map fun p => keyD p.1) = (l.map (·.1)).map keyD := fun l => by rw [List.map_map]; rfl
        rw [this, this, ek]
      rw [e2]
      exact .dct h (hs.dd q)
  | _, _, _, .ins _ _ _ _, e => by simp [D.py] at e
  | _, _, _, .own _, e => by simp [D.py] at e
  | _, _, _, .cls _, e => by simp [D.py] at e
  | _, _, _, .scr _, e => by simp [D.py] at e
theorem DtA.dd : ∀ {vs : List V} {ds : List D} {ps : List PyData}, DtA K mg w vs ds → pyA ds = some ps → DdAll K w.G vs ps
  | _, _, _, .nil, e => by simp only [pyA] at e; cases e; exact .nil
  | _, _, _, .cons h hs, e => by
    obtain ⟨p, qs, rfl, e1, e2⟩ := pyA_cons e
    exact .cons (h.dd e1) (hs.dd e2)
end
theorem Rs.dd {x : V} {d : D} {p : PyData} (s : Ex w.G H) (r : Rs K mg w H x d) (e : d.py = some p) : Dd K H x p := by
  cases d with
  | non => cases r; simp only [D.py] at e; cases e; exact .non
  | bl b => cases r; simp only [D.py] at e; cases e; exact .bl b
  | int b => cases r; simp only [D.py] at e; cases e; exact .int b
  | str b => cases r; simp only [D.py] at e; cases e; exact .str b
  | tup ds =>
    obtain ⟨a, xs, rfl, h, hs⟩ := r
    exact ((Dt.tup h hs).dd e).ex s
  | lst ds =>
    obtain ⟨a, xs, rfl, h, hs⟩ := r
    simp only [D.py] at e
    cases q : pyA ds with
    | none => rw [q] at e; cases e
    | some ps =>
      rw [q] at e
      cases e
      exact .lst (.inl h) ((hs.dd q).ex s)
  | dct kds =>
    obtain ⟨a, kvs, rfl, h, ek, hs⟩ := r
    simp only [D.py] at e
    cases q : pyK kds with
    | none => rw [q] at e; cases e
    | some ps =>
      rw [q] at e
      cases e
      rw [pyK_map] at q
      have e2 : (kds.map fun p => keyD p.1) = kvs.map fun p => keyD p.1 := by
        have : ∀ {α : Type} (l : List (Key × α)), (l.map fun p => keyD p.1) = (l.map (·.1)).map keyD := fun l => by rw [List.map_map]; rfl
        rw [this, this, ek]
      rw [e2]
      exact .dct h ((hs.dd q).ex s)
  | _ => simp [D.py] at e
mutual
theorem Dd.dp : ∀ {v : V} {d : PyData}, Dd K H v d → d.canLay0 = true → Dp K H v d
  | _, _, .non, _ => .non
  | _, _, .bl b, _ => .bl b
  | _, _, .int i, _ => .int i
  | _, _, .str x, _ => .str x
  | _, _, .lst h ha, c => .lst h (DdAll.dp ha (by simpa [PyData.canLay0] using c))
  | _, _, .tup h ha, c => .tup h (DdAll.dp ha (by simpa [PyData.canLay0] using c))
  | _, _, .dct _ _, c => by simp [PyData.canLay0] at c
theorem DdAll.dp : ∀ {vs : List V} {ds : List PyData}, DdAll K H vs ds → PyData.canLayAll0 ds = true → DpAll K H vs ds
  | _, _, .nil, _ => .nil
  | _, _, .cons (d := d) (ds := ds) h ha, c => by
    have c' : (d.canLay0 && PyData.canLayAll0 ds) = true := by simpa only [PyData.canLayAll0] using c
    obtain ⟨c1, c2⟩ := Bool.and_eq_true_iff.mp c'
    exact .cons (Dd.dp h c1) (DdAll.dp ha c2)
end
/-- ==, of data that have no dicts -/
def eqP (a b : D) : Option Bool := match a.py, b.py with
  | some p, some q => if SeqAt.shaped p = true ∧ SeqAt.shaped q = true then some (PyData.eqv p q) else none
  | _, _ => none
theorem c2_eqP : Cm2 X (rEqD X.K) eqP := by
  intro w H x y a b c s ra rb e Q q
  unfold eqP at e
  cases e1 : a.py with
  | none => rw [e1] at e; cases e
  | some p =>
    cases e2 : b.py with
    | none => rw [e1, e2] at e; cases e
    | some p' =>
      rw [e1, e2] at e
      dsimp only at e
      split at e
      · rename_i c
        cases e
        exact ⟨p, p', Dd.dp (ra.dd s e1) (SeqAt.canLay_of_shaped c.1), Dd.dp (rb.dd s e2) (SeqAt.canLay_of_shaped c.2), c.1, c.2, q H (Ex.refl _)⟩
      · cases e
theorem c2_neP : Cm2 X (rNeD X.K) fun a b => (eqP a b).map (!·) := by
  intro w H x y a b c s ra rb e Q q
  dsimp only at e
  unfold eqP at e
  cases e1 : a.py with
  | none => rw [e1] at e; cases e
  | some p =>
    cases e2 : b.py with
    | none => rw [e1, e2] at e; cases e
    | some p' =>
      rw [e1, e2] at e
      dsimp only at e
      split at e
      · rename_i c
        cases e
        exact ⟨p, p', Dd.dp (ra.dd s e1) (SeqAt.canLay_of_shaped c.1), Dd.dp (rb.dd s e2) (SeqAt.canLay_of_shaped c.2), c.1, c.2, q H (Ex.refl _)⟩
      · cases e

/-- ==, of texts, of data -/
def eqF (a b : D) : Option Bool := match a, b with
  | .str x, .str y => some (decide (x = y))
  | a, b => eqP a b
theorem op_eqF (hu : X.A.units + 64 < cLine) : OpR X (compareOp .Eq) (fun x y H Q => rEq x y H Q ∨ rEqD X.K x y H Q) := OpR.or op_eq (op_eqD hu)
theorem op_neF (hu : X.A.units + 64 < cLine) : OpR X (compareOp .NotEq) (fun x y H Q => rNe x y H Q ∨ rNeD X.K x y H Q) := OpR.or op_ne (op_neD hu)
theorem eqF_cases {a b : D} {c : Bool} (e : eqF a b = some c) : (∃ x y, a = .str x ∧ b = .str y ∧ c = decide (x = y)) ∨ eqP a b = some c := by
  unfold eqF at e
  split at e
  · rename_i x y
    cases e
    exact .inl ⟨x, y, rfl, rfl, rfl⟩
  · exact .inr e
theorem c2_eq : Cm2 X (fun x y H Q => rEq x y H Q ∨ rEqD X.K x y H Q) eqF := by
  intro w H x y a b c s ra rb e Q q
  rcases eqF_cases e with ⟨u, v, rfl, rfl, rfl⟩ | e
  · cases ra; cases rb
    refine .inl ⟨rfl, ?_⟩
    rw [show decide (V.str u = V.str v) = decide (u = v) by simp]
    exact q H (Ex.refl _)
  · exact .inr (c2_eqP w H x y a b c s ra rb e Q q)
theorem c2_ne : Cm2 X (fun x y H Q => rNe x y H Q ∨ rNeD X.K x y H Q) fun a b => (eqF a b).map (!·) := by
  intro w H x y a b c s ra rb e Q q
  dsimp only at e
  cases q1 : eqF a b with
  | none => rw [q1] at e; cases e
  | some k =>
    rw [q1] at e
    cases e
    rcases eqF_cases q1 with ⟨u, v, rfl, rfl, rfl⟩ | e
    · cases ra; cases rb
      refine .inl ⟨rfl, ?_⟩
      rw [show decide (V.str u = V.str v) = decide (u = v) by simp]
      exact q H (Ex.refl _)
    · exact .inr (c2_neP w H x y a b _ s ra rb (by dsimp only; rw [e]; rfl) Q q)

/-! ### subscripts, slices -/
def ixD : D → D → Option D
  | .tup ds, .int i => atI ds i
  | .lst ds, .int i => atI ds i
  | .str x, .int i => if x.length ≤ sizeLine then (atI x.cps.toList i).map fun c => .str ⟨#[c]⟩ else none
  | _, _ => none
theorem atI_dt {vs : List V} {ds : List D} {i : Int} {d : D} (h : DtA K mg w vs ds) (e : atI ds i = some d) : ∃ v, atI vs i = some v ∧ Dt K mg w v d := by
  unfold atI at e ⊢
  rw [h.length]
  cases q : ixN ds.length i with
  | none => rw [q] at e; cases e
  | some j =>
    rw [q] at e
    exact h.get e
theorem o2_ix : Op2 X (rIx X.K) ixD := by
  intro w H x y a b d s ra rb e Q q
  have g := Grow.refl s
  cases a <;> cases b <;> first | (exfalso; simp [ixD] at e; done) | skip
  · cases ra; cases rb
    simp only [ixD] at e
    split at e
    · rename_i z i c
      cases q1 : atI z.cps.toList i with
      | none => rw [q1] at e; cases e
      | some y =>
        rw [q1] at e
        cases e
        exact .inr (.inr ⟨_, _, y, rfl, rfl, c, q1, q _ _ _ g (.str _)⟩)
    · cases e
  · obtain ⟨a, xs, rfl, ha, hx⟩ := ra
    cases rb
    obtain ⟨v, e1, h1⟩ := atI_dt hx e
    exact .inr (.inl ⟨a, xs, _, v, rfl, rfl, ex_t s ha, e1, q _ _ _ g h1⟩)
  · obtain ⟨a, xs, rfl, ha, hx⟩ := ra
    cases rb
    obtain ⟨v, e1, h1⟩ := atI_dt hx e
    exact .inl ⟨a, xs, _, v, rfl, rfl, .inl ha, e1, q _ _ _ g h1⟩
theorem pd_ixD (ha : PD X W z a ma) (hb : PD X W z b mb) (hs : PlainIx b) : PD X W z (.Subscript a b pos) (m_op ixD ma mb) := pd_ix ix_seq o2_ix ha hb hs
/-- a slice's parts -/
def mo_none : M (Option Int) := M.pure none
def mo_some (m : M D) : M (Option Int) := m.bind fun d => M.lift fun _ _ => match d with
  | .int i => some (some i)
  | _ => none
def relO : Rel (Option Int) (Option Int) := fun _ _ a b => a = b
def tO (K : PySem.W.Frag) (mg : Str → Option Value) (W : WX) (z : Option Zi) (m : M (Option Int)) : TO := fun σ H Q => ∃ w ρ S, Do K mg W z relO w σ H ρ S m Q
theorem po_mono {X : Cx} {e : Option Expr} {t t' : TO} (h : PO X e t) (k : ∀ σ H Q, t' σ H Q → t σ H Q) : PO X e t' := ⟨fun pins s σ H Q I w => h.run pins s σ H Q I (k σ H Q w)⟩
abbrev PDO (X : Cx) (W : WX) (z : Option Zi) (e : Option Expr) (m : M (Option Int)) : Prop := PO X e (tO X.K X.mg W z m)
theorem pdo_none : PDO X W z none mo_none := po_mono po_none fun σ H Q h => by
  obtain ⟨w, ρ, S, h⟩ := h
  exact h.pure none rfl
theorem pdo_some (h : PD X W z e me) : PDO X W z (some e) (mo_some me) := po_mono (po_some h) fun σ H Q h => by
  obtain ⟨w, ρ, S, h⟩ := h
  refine ⟨w, ρ, S, h.bind fun d v w1 H1 S1 st rd h1 => ?_⟩
  obtain ⟨x, e, k⟩ := h1.lift
  cases d <;> first | (exfalso; simp at e; done) | skip
  cases e
  obtain rfl := rr_int rd
  exact ⟨_, rfl, k _ H1 w1 (Grow.refl h1.t.sub) rfl⟩
def cutD {α : Type} (xs : List α) (lo hi : Option Int) : List α := (xs.drop (HT.sIx xs.length 0 lo)).take (HT.sIx xs.length xs.length hi - HT.sIx xs.length 0 lo)
def sliceD (lo hi : Option Int) : D → Option D
  | .tup ds => some (.tup (cutD ds lo hi))
  | .lst ds => some (.lst (cutD ds lo hi))
  | .scr ns => some (.lst ((cutD ns lo hi).map D.int))
  | .str x => if x.length ≤ sizeLine then some (.str (cutS x lo hi)) else none
  | _ => none
def m_slice (m : M D) (ml mh : M (Option Int)) : M D := m.bind fun d => ml.bind fun lo => mh.bind fun hi => M.lift fun ρ S => (rsv ρ S d).bind (sliceD lo hi)
theorem cut_dt {vs : List V} {ds : List D} (lo hi : Option Int) (h : DtA K mg w vs ds) : DtA K mg w (cutV vs lo hi) (cutD ds lo hi) := by
  unfold cutV cutD
  rw [h.length]
  exact (h.drop _).take _
theorem dt_ints : ∀ ns : List Int, DtA K mg w (ns.map V.int) (ns.map D.int)
  | [] => .nil
  | n :: ns => .cons (.int n) (dt_ints ns)
theorem cut_map {α β : Type} (f : α → β) (xs : List α) (lo hi : Option Int) : cutD (xs.map f) lo hi = (cutD xs lo hi).map f := by
  unfold cutD
  rw [List.length_map, List.map_take, List.map_drop]
theorem sl_all : SlR X (fun x lo hi H Q => rSlA X.K x lo hi H Q ∨ rSlL X.K x lo hi H Q ∨ rSlS x lo hi H Q) := sl_tupA.or (sl_list.or sl_str)
theorem pd_slice {lo hi : Option Expr} {ml mh : M (Option Int)} {p2 : Pos} (he : PD X W z e me) (hl : PDO X W z lo ml) (hh : PDO X W z hi mh) : PD X W z (.Subscript e (.Slice lo hi none p2) pos) (m_slice me ml mh) :=
  pe_mono (pe_slice sl_all he hl hh) fun σ H Q h => by
    obtain ⟨w, ρ, S, h⟩ := h
    refine ⟨w, ρ, S, h.bind fun d v w1 H1 S1 st rd h1 => ⟨w1, ρ, S1, h1.bind (rel1 := relO) fun l l' w2 H2 S2 st2 rl h2 => ⟨w2, ρ, S2, h2.bind (rel1 := relO) fun u u' w3 H3 S3 st3 ru h3 => ?_⟩⟩⟩
    have rl : l' = l := rl
    have ru : u' = u := ru
    subst rl ru
    obtain ⟨x, e, k⟩ := h3.lift
    have rd3 : Rr X.K X.mg w3 σ ρ v d := Rr.mono (st2.le.trans st3.le) rd
    have s := h3.t.sub
    have g := Grow.refl s
    cases q1 : rsv ρ S3 d with
    | none => rw [q1] at e; cases e
    | some d' =>
      rw [q1] at e
      have r := Rs.of h3.t h3.s rd3 q1
      cases d' with
      | tup ds =>
        cases e
        obtain ⟨a, xs, rfl, ha, hx⟩ := r
        refine .inl ⟨a, xs, rfl, ex_t s ha, fun hw => ?_, fun _ p np => ?_⟩
        · have e1 : cutD ds l' u' = ds := by
            rw [hx.length] at hw
            unfold cutD
            rw [hw.1, hw.2]
            simp
          rw [e1] at k
          exact k _ H3 w3 g (.inl (.tup ha hx))
        · have gn := Grow.new (o := .tup (cutV xs l' u')) s np
          exact k _ _ _ gn (.inl (.tup (st_of upd_same) ((cut_dt l' u' hx).mono gn.le)))
      | lst ds =>
        cases e
        obtain ⟨a, xs, rfl, ha, hx⟩ := r
        refine .inr (.inl ⟨a, xs, rfl, .inl ha, fun p np => ?_⟩)
        have gn := Grow.new (o := .lst (cutV xs l' u')) s np
        exact k _ _ _ gn (.inl (.lst (Rd.of upd_same) ((cut_dt l' u' hx).mono gn.le)))
      | scr ns =>
        cases e
        obtain ⟨a, rfl, ha⟩ := r
        refine .inr (.inl ⟨a, _, rfl, ha, fun p np => ?_⟩)
        have gn := Grow.new (o := .lst (cutV (ns.map V.int) l' u')) s np
        have hd := cut_dt (K := X.K) (mg := X.mg) (w := w3) l' u' (dt_ints ns)
        rw [cut_map] at hd
        exact k _ _ _ gn (.inl (.lst (Rd.of upd_same) (hd.mono gn.le)))
      | str x =>
        cases r
        simp only [Option.bind_some, sliceD] at e
        split at e
        · rename_i c
          cases e
          exact .inr (.inr ⟨x, rfl, c, k _ H3 w3 g (.inl (.str _))⟩)
        · cases e
      | _ => cases e
end
end Pd

/-! Built-in functions and methods on data. -/
namespace Pd
open PySem L2 Evl Hg
open PySem.Spec PyProof.Rows
section
variable {X : Cx} {W : WX} {z : Option Zi} {w w' w1 : Wd} {σ : L2.St} {H H' H1 : Hp} {ρ ρ' : Rho} {S S' S1 : Sto} {K : PySem.W.Frag} {mg : Str → Option Value}
variable {e a b o : Expr} {es : List Expr} {pos : Pos} {me ma mb mo : M D} {ms : M (List D)}
inductive RsA (K : PySem.W.Frag) (mg : Str → Option Value) (w : Wd) (H : Hp) : List V → List D → Prop
  | nil : RsA K mg w H [] []
  | cons {v : V} {vs : List V} {d : D} {ds : List D} : Rs K mg w H v d → RsA K mg w H vs ds → RsA K mg w H (v :: vs) (d :: ds)
def rsvA (ρ : Rho) (S : Sto) : List D → Option (List D)
  | [] => some []
  | d :: ds => match rsv ρ S d, rsvA ρ S ds with
    | some d', some ds' => some (d' :: ds')
    | _, _ => none
theorem RsA.of {ds ds' : List D} {vs : List V} (t : At K mg w H S) (s : Sl K mg z w H σ ρ) (r : RrA K mg w σ ρ vs ds) (e : rsvA ρ S ds = some ds') : RsA K mg w H vs ds' := by
  induction r generalizing ds' with
  | nil => cases e; exact .nil
  | cons h hs ih =>
    rename_i v vs d ds
    simp only [rsvA] at e
    cases q1 : rsv ρ S d with
    | none => rw [q1] at e; cases e
    | some d' =>
      cases q2 : rsvA ρ S ds with
      | none => rw [q1, q2] at e; cases e
      | some r' =>
        rw [q1, q2] at e
        cases e
        exact .cons (Rs.of t s h q1) (ih q2)
def m_cb (f : List D → Option D) (ms : M (List D)) : M D := ms.bind fun ds => M.lift fun ρ S => (rsvA ρ S ds).bind f
variable (X) in
def OpA (r : List V → Hp → VK → Prop) (f : List D → Option D) : Prop := ∀ (w : Wd) (H : Hp) (vs : List V) (ds : List D) (d : D), Ex w.G H → RsA X.K X.mg w H vs ds → f ds = some d →
  ∀ Q : VK, (∀ v H' w', Grow w w' H H' → Dt X.K X.mg w' v d → Q v H') → r vs H Q
theorem cb_go {r : List V → Hp → VK → Prop} {f : List D → Option D} (hf : OpA X r f) {Q : VK} (h : tD X.K X.mg W z (m_cb f ms) σ H Q) : tCB r (tA X.K X.mg W z ms) σ H Q := by
  obtain ⟨w, ρ, S, h⟩ := h
  refine ⟨w, ρ, S, h.bind (rel1 := relA X.K X.mg σ ρ) fun ds vs w1 H1 S1 st rds h1 => ?_⟩
  obtain ⟨d, e, k⟩ := h1.lift
  cases q : rsvA ρ S1 ds with
  | none => rw [q] at e; cases e
  | some ds' =>
    rw [q] at e
    exact hf w1 H1 vs ds' d h1.t.sub (RsA.of h1.t h1.s rds q) e Q fun v H' w' g hd => k v H' w' g (.inl hd)
variable {x : Str} {p : Pos} {r : List V → Hp → VK → Prop} {f : List D → Option D}
theorem pd_callB {id : String} (hc : CallR X (.builtin id) r) (hf : OpA X r f) (hg : Gl X x) (hm : X.mg x = none) (hv : bootBuiltins x = some (.builtin id)) (ha : PDA X W z (e :: es) ms) (hn : x ≠ "__name__" := by decide) (hdb : (x == ("__debug__" : Str)) = false := by decide)
    (he : starEach (e :: es) X.env = (false, eval e X.env) :: starEach es X.env := by rfl) (hpl : (backTo pos (starEach es X.env)).any (·.1) = false := by rfl) : PD X W z (.Call (.Name x p) (e :: es) [] pos) (m_cb f ms) :=
  pe_mono (pe_callB hc hg hm hv ha hn hdb he hpl) fun _ _ _ h => cb_go hf h
theorem pd_callTy {T : String} (hc : CallR X (.type T) r) (hf : OpA X r f) (hg : Gl X x) (hm : X.mg x = none) (hv : bootBuiltins x = some (.type T)) (ha : PDA X W z (e :: es) ms) (hn : x ≠ "__name__" := by decide) (hdb : (x == ("__debug__" : Str)) = false := by decide)
    (he : starEach (e :: es) X.env = (false, eval e X.env) :: starEach es X.env := by rfl) (hpl : (backTo pos (starEach es X.env)).any (·.1) = false := by rfl) : PD X W z (.Call (.Name x p) (e :: es) [] pos) (m_cb f ms) :=
  pe_mono (pe_callTy hc hg hm hv ha hn hdb he hpl) fun _ _ _ h => cb_go hf h

/-! ### len, tuple, list, int, str, all, repr -/
def lenD : List D → Option D
  | [.str x] => if x.length ≤ sizeLine then some (.int x.length) else none
  | [.tup ds] => some (.int ds.length)
  | [.lst ds] => some (.int ds.length)
  | _ => none
theorem oa_len : OpA X (fun xs H Q => ∃ x n, xs = [x] ∧ LenV X.K x H n ∧ Q (.int n) H) lenD := by
  intro w H vs ds d s rs e Q q
  have g := Grow.refl s
  cases rs with
  | nil => cases e
  | cons h hs =>
    cases hs with
    | cons _ _ => simp [lenD] at e
    | nil =>
      rename_i v d0
      cases d0 <;> first | (exfalso; simp [lenD] at e; done) | skip
      · cases h
        simp only [lenD] at e
        split at e
        · rename_i x c
          cases e
          exact ⟨_, x.length, rfl, ⟨c, rfl⟩, q _ _ _ g (.int _)⟩
        · cases e
      · obtain ⟨a, xs, rfl, ha, hx⟩ := h
        cases e
        refine ⟨_, xs.length, rfl, .inr ⟨xs, ex_t s ha, rfl⟩, ?_⟩
        rw [hx.length]
        exact q _ _ _ g (.int _)
      · obtain ⟨a, xs, rfl, ha, hx⟩ := h
        cases e
        refine ⟨_, xs.length, rfl, .inl ⟨xs, .inl ha, rfl⟩, ?_⟩
        rw [hx.length]
        exact q _ _ _ g (.int _)
def tupleD : List D → Option D
  | [.tup ds] => some (.tup ds)
  | [.lst ds] => some (.tup ds)
  | _ => none
theorem oa_tuple : OpA X (fun xs H Q => ∃ p ys, xs = [.ref p] ∧ ((SqL X.K H p ys ∧ ∀ l, H l = none → Q (.ref l) (upd H l (.tup ys))) ∨ (SqT X.K H p ys ∧ Q (.ref p) H))) tupleD := by
  intro w H vs ds d s rs e Q q
  have g := Grow.refl s
  cases rs with
  | nil => cases e
  | cons h hs =>
    cases hs with
    | cons _ _ => simp [tupleD] at e
    | nil =>
      rename_i v d0
      cases d0 <;> first | (exfalso; simp [tupleD] at e; done) | skip
      · obtain ⟨a, xs, rfl, ha, hx⟩ := h
        cases e
        exact ⟨a, xs, rfl, .inr ⟨ex_t s ha, q _ _ _ g (.tup ha hx)⟩⟩
      · obtain ⟨a, xs, rfl, ha, hx⟩ := h
        cases e
        refine ⟨a, xs, rfl, .inl ⟨.inl ha, fun l nl => ?_⟩⟩
        have gn := Grow.new (o := .tup xs) s nl
        exact q _ _ _ gn (.tup (st_of upd_same) (hx.mono gn.le))
def listD : List D → Option D
  | [.tup ds] => some (.lst ds)
  | [.lst ds] => some (.lst ds)
  | _ => none
theorem oa_list : OpA X (fun xs H Q => ∃ p ys, xs = [.ref p] ∧ (SqL X.K H p ys ∨ SqT X.K H p ys) ∧ ∀ l, H l = none → Q (.ref l) (upd H l (.lst ys))) listD := by
  intro w H vs ds d s rs e Q q
  cases rs with
  | nil => cases e
  | cons h hs =>
    cases hs with
    | cons _ _ => simp [listD] at e
    | nil =>
      rename_i v d0
      cases d0 <;> first | (exfalso; simp [listD] at e; done) | skip
      · obtain ⟨a, xs, rfl, ha, hx⟩ := h
        cases e
        refine ⟨a, xs, rfl, .inr (ex_t s ha), fun l nl => ?_⟩
        have gn := Grow.new (o := .lst xs) s nl
        exact q _ _ _ gn (.lst (Rd.of upd_same) (hx.mono gn.le))
      · obtain ⟨a, xs, rfl, ha, hx⟩ := h
        cases e
        refine ⟨a, xs, rfl, .inl (.inl ha), fun l nl => ?_⟩
        have gn := Grow.new (o := .lst xs) s nl
        exact q _ _ _ gn (.lst (Rd.of upd_same) (hx.mono gn.le))
def intOf : List D → Option D
  | [.int i] => some (.int i)
  | [.bl k] => some (.int (if k then 1 else 0))
  | _ => none
theorem oa_int : OpA X (fun xs H Q => (∃ i, xs = [.int i] ∧ Q (.int i) H) ∨ ∃ k, xs = [.bl k] ∧ Q (.int (if k then 1 else 0)) H) intOf := by
  intro w H vs ds d s rs e Q q
  have g := Grow.refl s
  cases rs with
  | nil => cases e
  | cons h hs =>
    cases hs with
    | cons _ _ => simp [intOf] at e
    | nil =>
      rename_i v d0
      cases d0 <;> first | (exfalso; simp [intOf] at e; done) | skip
      · cases h; cases e
        exact .inr ⟨_, rfl, q _ _ _ g (.int _)⟩
      · cases h; cases e
        exact .inl ⟨_, rfl, q _ _ _ g (.int _)⟩
def strOf : List D → Option D
  | [.int i] => if i.natAbs.log2 < 1920 then some (.str (toString i)) else none
  | _ => none
theorem oa_str : OpA X (fun xs H Q => ∃ i, xs = [.int i] ∧ i.natAbs.log2 < 1920 ∧ Q (.str (toString i)) H) strOf := by
  intro w H vs ds d s rs e Q q
  have g := Grow.refl s
  cases rs with
  | nil => cases e
  | cons h hs =>
    cases hs with
    | cons _ _ => simp [strOf] at e
    | nil =>
      rename_i v d0
      cases d0 <;> first | (exfalso; simp [strOf] at e; done) | skip
      simp only [strOf] at e
      split at e
      · cases h; cases e
        exact ⟨_, rfl, by assumption, q _ _ _ g (.str _)⟩
      · cases e
def boolsD : List D → Option (List Bool)
  | [] => some []
  | .bl b :: r => (boolsD r).map (b :: ·)
  | _ => none
theorem bools_dt : ∀ {vs : List V} {ds : List D} {bs : List Bool}, DtA K mg w vs ds → boolsD ds = some bs → vs = bs.map V.bl
  | _, _, _, .nil, e => by cases e; rfl
  | _, _, _, .cons (d := d) (ds := ds) h hs, e => by
    cases d <;> first | (exfalso; simp [boolsD] at e; done) | skip
    simp only [boolsD] at e
    cases q : boolsD ds with
    | none => rw [q] at e; cases e
    | some r =>
      rw [q] at e
      cases e
      cases h
      rw [bools_dt hs q]
      rfl
def allD : List D → Option D
  | [.lst ds] => (boolsD ds).map fun bs => .bl (bs.all id)
  | _ => none
theorem oa_all : OpA X (rAll X.K) allD := by
  intro w H vs ds d s rs e Q q
  have g := Grow.refl s
  cases rs with
  | nil => cases e
  | cons h hs =>
    cases hs with
    | cons _ _ => simp [allD] at e
    | nil =>
      rename_i v d0
      cases d0 <;> first | (exfalso; simp [allD] at e; done) | skip
      obtain ⟨a, xs, rfl, ha, hx⟩ := h
      simp only [allD] at e
      cases q1 : boolsD _ with
      | none => rw [q1] at e; cases e
      | some bs =>
        rw [q1] at e
        cases e
        rw [bools_dt hx q1] at ha
        exact ⟨a, bs, rfl, .inl ha, q _ _ _ g (.bl _)⟩
/-- what may be shown -/
def showsB (p : PyData) : Bool := p.showable && (decide (p.depth ≤ 60) && decide (p.shown.length ≤ sizeLine))
def reprD : List D → Option D
  | [d] => match d.py with
    | some p => if showsB p = true then some (.str p.shown) else none
    | none => none
  | _ => none
theorem oa_repr : OpA X (fun xs H Q => ∃ v d, xs = [v] ∧ Dd X.K H v d ∧ Shows d ∧ Q (.str d.shown) H) reprD := by
  intro w H vs ds d s rs e Q q
  have g := Grow.refl s
  cases rs with
  | nil => cases e
  | cons h hs =>
    cases hs with
    | cons _ _ => simp [reprD] at e
    | nil =>
      rename_i v d0
      simp only [reprD] at e
      cases q1 : d0.py with
      | none => rw [q1] at e; cases e
      | some p =>
        rw [q1] at e
        dsimp only at e
        split at e
        · rename_i c
          cases e
          simp only [showsB, Bool.and_eq_true, decide_eq_true_eq] at c
          exact ⟨v, p, rfl, h.dd s q1, ⟨c.1, c.2.1, c.2.2⟩, q _ _ _ g (.str _)⟩
        · cases e

/-! ### isinstance, a built-in type -/
def tyN : D → Option String
  | .non => some "NoneType"
  | .bl _ => some "bool"
  | .int _ => some "int"
  | .str _ => some "str"
  | .tup _ => some "tuple"
  | .lst _ => some "list"
  | .dct _ => some "dict"
  | _ => none
theorem tyN_ok {v : V} {d : D} {n : String} (s : Ex w.G H) (h : Rs K mg w H v d) (e : tyN d = some n) : TyX K H v (.type n) := by
  cases d <;> first | (exfalso; simp [tyN] at e; done) | skip
  · cases h; cases e; exact .base .non
  · cases h; cases e; exact .base (.bl _)
  · cases h; cases e; exact .base (.int _)
  · cases h; cases e; exact .base (.str _)
  · obtain ⟨a, xs, rfl, h, _⟩ := h
    cases e
    rcases ex_t s h with (h | ⟨o, h⟩) | ⟨o, its, n, h, c, _⟩
    · exact .base (.tup h)
    · exact .fTuple h
    · exact .kTuple h c
  · obtain ⟨a, xs, rfl, h, _⟩ := h
    cases e
    rcases h with h | ⟨o, h⟩
    · exact .base (.lst h)
    · exact .base (.frz h)
  · obtain ⟨a, kvs, rfl, h, _⟩ := h
    cases e
    rcases h with h | ⟨o, h⟩
    · exact .base (.dK h)
    · exact .fDict h
def isTy (T : String) (d : D) : Option Bool := (tyN d).bind fun n => kitB n T
def m_isi (T : String) (m : M D) : M D := m.bind fun d => M.lift fun ρ S => ((rsv ρ S d).bind (isTy T)).map D.bl
theorem pd_isi {T : String} {p p2 : Pos} {xT : Str} (hg : Gl X "isinstance") (hm : X.mg "isinstance" = none) (he : PD X W z e me) (hT : PE X (.Name xT p2) (tC (.ty T)))
    (h1 : starEach [e, .Name xT p2] X.env = (false, eval e X.env) :: starEach [.Name xT p2] X.env := by rfl) (h2 : starEach [.Name xT p2] X.env = (false, eval (.Name xT p2) X.env) :: starEach [] X.env := by rfl)
    (hpl : (backTo pos (starEach [.Name xT p2] X.env)).any (·.1) = false := by rfl) : PD X W z (.Call (.Name "isinstance" p) [e, .Name xT p2] [] pos) (m_isi T me) :=
  pe_mono (pe_callB call_isi hg hm (by decide +kernel) (pa_cons he (pa_cons hT pa_nil h2) h1) (by decide) (by decide) h1 hpl) fun σ H Q h => by
    obtain ⟨w, ρ, S, h⟩ := h
    refine ⟨w, ρ, S, h.bind fun d v w1 H1 S1 st rd h1 => ?_⟩
    obtain ⟨y, e, k⟩ := h1.lift
    cases q1 : rsv ρ S1 d with
    | none => rw [q1] at e; cases e
    | some d' =>
      rw [q1] at e
      simp only [Option.bind_some, isTy] at e
      cases q2 : tyN d' with
      | none => rw [q2] at e; cases e
      | some n =>
        rw [q2] at e
        simp only [Option.bind_some] at e
        cases q3 : kitB n T with
        | none => rw [q3] at e; cases e
        | some b =>
          rw [q3] at e
          cases e
          exact ⟨v, .ty T, _, _, b, rfl, .ty T, tyN_ok h1.t.sub (Rs.of h1.t h1.s rd q1) q2, kit_ty q3, k _ H1 w1 (Grow.refl h1.t.sub) (.inl (.bl b))⟩

/-! ### x in .. -/
def flatD : D → Option V
  | .non => some .non
  | .bl b => some (.bl b)
  | .int i => some (.int i)
  | .str x => some (.str x)
  | _ => none
def flatsD : List D → Option (List V)
  | [] => some []
  | d :: r => match flatD d, flatsD r with
    | some v, some vs => some (v :: vs)
    | _, _ => none
theorem flat_dt {v u : V} {d : D} (h : Dt K mg w v d) (e : flatD d = some u) : v = u ∧ flatV u = true := by
  cases d <;> first | (exfalso; simp [flatD] at e; done) | skip
  all_goals (cases e; cases h; exact ⟨rfl, rfl⟩)
theorem flat_rs {v u : V} {d : D} (h : Rs K mg w H v d) (e : flatD d = some u) : v = u ∧ flatV u = true := by
  cases d <;> first | (exfalso; simp [flatD] at e; done) | skip
  all_goals (cases e; cases h; exact ⟨rfl, rfl⟩)
theorem flats_dt : ∀ {vs us : List V} {ds : List D}, DtA K mg w vs ds → flatsD ds = some us → vs = us ∧ us.all flatV = true
  | _, _, _, .nil, e => by cases e; exact ⟨rfl, rfl⟩
  | _, _, _, .cons (d := d) (ds := ds) h hs, e => by
    simp only [flatsD] at e
    cases q1 : flatD d with
    | none => rw [q1] at e; cases e
    | some u =>
      cases q2 : flatsD ds with
      | none => rw [q1, q2] at e; cases e
      | some us =>
        rw [q1, q2] at e
        cases e
        obtain ⟨rfl, h1⟩ := flat_dt h q1
        obtain ⟨rfl, h2⟩ := flats_dt hs q2
        exact ⟨rfl, by simp [h1, h2]⟩
def inD : D → D → Option Bool
  | d, .tup ds => match flatD d, flatsD ds with
    | some v, some vs => some (inV v vs)
    | _, _ => none
  | d, .lst ds => match flatD d, flatsD ds with
    | some v, some vs => some (inV v vs)
    | _, _ => none
  | .str i, .str j => some (!(Builtin.Str.occurrences j i 0 j.length 1).isEmpty)
  | _, _ => none
theorem c2_in : Cm2 X (fun x y H Q => rIn X.K false x y H Q ∨ ∃ i j, x = .str i ∧ y = .str j ∧ Q (.bl (!(Builtin.Str.occurrences j i 0 j.length 1).isEmpty)) H) inD := by
  intro w H x y a b c s ra rb e Q q
  cases b <;> first | (exfalso; simp [inD] at e; done) | skip
  · cases a <;> first | (exfalso; simp [inD] at e; done) | skip
    cases ra; cases rb; cases e
    exact .inr ⟨_, _, rfl, rfl, q H (Ex.refl _)⟩
  · obtain ⟨p, xs, rfl, hp, hx⟩ := rb
    simp only [inD] at e
    split at e
    · rename_i v vs q1 q2
      cases e
      obtain ⟨rfl, f1⟩ := flat_rs ra q1
      obtain ⟨rfl, f2⟩ := flats_dt hx q2
      exact .inl ⟨p, xs, rfl, .inr (ex_t s hp), f1, f2, q H (Ex.refl _)⟩
    · cases e
  · obtain ⟨p, xs, rfl, hp, hx⟩ := rb
    simp only [inD] at e
    split at e
    · rename_i v vs q1 q2
      cases e
      obtain ⟨rfl, f1⟩ := flat_rs ra q1
      obtain ⟨rfl, f2⟩ := flats_dt hx q2
      exact .inl ⟨p, xs, rfl, .inl (.inl hp), f1, f2, q H (Ex.refl _)⟩
    · cases e
theorem c2_nin : Cm2 X (fun x y H Q => rIn X.K true x y H Q ∨ ∃ i j, x = .str i ∧ y = .str j ∧ Q (.bl (!(!(Builtin.Str.occurrences j i 0 j.length 1).isEmpty))) H) fun a b => (inD a b).map (!·) := by
  intro w H x y a b c s ra rb e Q q
  dsimp only at e
  cases b <;> first | (exfalso; simp [inD] at e; done) | skip
  · cases a <;> first | (exfalso; simp [inD] at e; done) | skip
    cases ra; cases rb; cases e
    exact .inr ⟨_, _, rfl, rfl, q H (Ex.refl _)⟩
  · obtain ⟨p, xs, rfl, hp, hx⟩ := rb
    simp only [inD] at e
    split at e
    · rename_i v vs q1 q2
      cases e
      obtain ⟨rfl, f1⟩ := flat_rs ra q1
      obtain ⟨rfl, f2⟩ := flats_dt hx q2
      exact .inl ⟨p, xs, rfl, .inr (ex_t s hp), f1, f2, q H (Ex.refl _)⟩
    · cases e
  · obtain ⟨p, xs, rfl, hp, hx⟩ := rb
    simp only [inD] at e
    split at e
    · rename_i v vs q1 q2
      cases e
      obtain ⟨rfl, f1⟩ := flat_rs ra q1
      obtain ⟨rfl, f2⟩ := flats_dt hx q2
      exact .inl ⟨p, xs, rfl, .inl (.inl hp), f1, f2, q H (Ex.refl _)⟩
    · cases e
theorem op_inD2 : OpR X (compareOp .In) (fun x y H Q => rIn X.K false x y H Q ∨ ∃ i j, x = .str i ∧ y = .str j ∧ Q (.bl (!(Builtin.Str.occurrences j i 0 j.length 1).isEmpty)) H) := OpR.or op_in_seq op_in_str
theorem op_ninD2 : OpR X (compareOp .NotIn) (fun x y H Q => rIn X.K true x y H Q ∨ ∃ i j, x = .str i ∧ y = .str j ∧ Q (.bl (!(!(Builtin.Str.occurrences j i 0 j.length 1).isEmpty))) H) := OpR.or op_notIn_seq op_notIn_str
def isNonD : D → D → Option Bool
  | .non, .non => some true
  | .bl _, .non => some false
  | .int _, .non => some false
  | .str _, .non => some false
  | .tup _, .non => some false
  | .lst _, .non => some false
  | .dct _, .non => some false
  | .ins _ _, .non => some false
  | .exc _ _, .non => some false
  | _, _ => none
theorem c2_is : Cm2 X (fun x y H Q => y = .non ∧ Q (.bl (decide (x = .non))) H) isNonD := by
  intro w H x y a b c s ra rb e Q q
  cases b <;> first | (exfalso; simp [isNonD] at e; done) | skip
  cases rb
  refine ⟨rfl, ?_⟩
  have : decide (x = .non) = c := by
    cases a <;> simp only [isNonD] at e <;> cases e
    · cases ra; rfl
    · cases ra; rfl
    · cases ra; rfl
    · cases ra; rfl
    · obtain ⟨_, _, rfl, _⟩ := ra; rfl
    · obtain ⟨_, _, rfl, _⟩ := ra; rfl
    · obtain ⟨_, _, rfl, _⟩ := ra; rfl
    · obtain ⟨_, _, _, _, rfl, _⟩ := ra; rfl
    · obtain ⟨_, _, _, rfl, _⟩ := ra; rfl
  rw [this]
  exact q H (Ex.refl _)
theorem c2_isnot : Cm2 X (fun x y H Q => y = .non ∧ Q (.bl (!decide (x = .non))) H) fun a b => (isNonD a b).map (!·) := by
  intro w H x y a b c s ra rb e Q q
  dsimp only at e
  cases b <;> first | (exfalso; simp [isNonD] at e; done) | skip
  cases rb
  refine ⟨rfl, ?_⟩
  have : (!decide (x = .non)) = c := by
    cases a <;> simp only [isNonD] at e <;> cases e
    · cases ra; rfl
    · cases ra; rfl
    · cases ra; rfl
    · cases ra; rfl
    · obtain ⟨_, _, rfl, _⟩ := ra; rfl
    · obtain ⟨_, _, rfl, _⟩ := ra; rfl
    · obtain ⟨_, _, rfl, _⟩ := ra; rfl
    · obtain ⟨_, _, _, _, rfl, _⟩ := ra; rfl
    · obtain ⟨_, _, _, rfl, _⟩ := ra; rfl
  rw [this]
  exact q H (Ex.refl _)
end
end Pd

/-! Methods of texts, dicts, lists that change. -/
namespace Pd
open PySem L2 Evl Hg
open PySem.Spec PyProof.Rows
section
variable {X : Cx} {W : WX} {z : Option Zi} {w0 : W0} {w w' w1 : Wd} {σ : L2.St} {H H' H1 : Hp} {ρ ρ' : Rho} {S S' S1 : Sto} {K : PySem.W.Frag} {mg : Str → Option Value} {Dn : Ends}
variable {e a b o : Expr} {es : List Expr} {pos apos cpos : Pos} {me ma mb mo mk : M D} {ms : M (List D)} {st : Stmt} {m : SM}
theorem Do.liftB {α β γ : Type} {rel : Rel β α} {f : Rho → Sto → Option γ} {g : γ → M α} {Q : β → Hp → Prop} (h : Do K mg W z rel w σ H ρ S ((M.lift f).bind g) Q) : ∃ c, f ρ S = some c ∧ Do K mg W z rel w σ H ρ S (g c) Q := by
  obtain ⟨t, s, r, S', e, p⟩ := h
  unfold M.bind M.lift at e
  cases q : f ρ S with
  | none => simp only [q] at e; cases e
  | some c =>
    simp only [q] at e
    exact ⟨c, rfl, t, s, r, S', e, p⟩
theorem DoS.liftB {γ : Type} {f : Rho → Sto → Option γ} {g : γ → SM} (h : DoS X.K X.mg W z w0 w σ H ρ S ((M.lift f).toS g) Dn) : ∃ c, f ρ S = some c ∧ DoS X.K X.mg W z w0 w σ H ρ S (g c) Dn := by
  obtain ⟨st, fl, ρ', S', e, p⟩ := h
  unfold M.toS M.lift at e
  cases q : f ρ S with
  | none => simp only [q] at e; cases e
  | some c =>
    simp only [q] at e
    exact ⟨c, rfl, st, fl, ρ', S', e, p⟩
theorem rr_str {v : V} {x : Str} (h : Rr K mg w σ ρ v (.str x)) : v = .str x := by
  rcases h with h | ⟨_, _, z, _⟩
  · cases h; rfl
  · cases z
/-! ### methods of texts -/
def strIs : D → Option Str
  | .str x => some x
  | _ => none
def m_sm (f : Str → List D → Option D) (mo : M D) (ms : M (List D)) : M D := mo.bind fun o => (M.lift fun _ _ => strIs o).bind fun x => ms.bind fun ds => M.lift fun ρ S => (rsvA ρ S ds).bind (f x)
def m_sm0 (f : Str → Option D) (mo : M D) : M D := mo.bind fun o => M.lift fun _ _ => (strIs o).bind f
variable (X) in
def OpM (r : V → List V → Hp → VK → Prop) (f : Str → List D → Option D) : Prop := ∀ (w : Wd) (H : Hp) (x : Str) (vs : List V) (ds : List D) (d : D), Ex w.G H → RsA X.K X.mg w H vs ds → f x ds = some d →
  ∀ Q : VK, (∀ v H' w', Grow w w' H H' → Dt X.K X.mg w' v d → Q v H') → r (.str x) vs H Q
theorem strIs_eq {d : D} {x : Str} (e : strIs d = some x) : d = .str x := by
  cases d <;> first | (exfalso; simp [strIs] at e; done) | (cases e; rfl)
theorem sm_go {r : V → List V → Hp → VK → Prop} {f : Str → List D → Option D} (hf : OpM X r f) {Q : VK} (h : tD X.K X.mg W z (m_sm f mo ms) σ H Q) : tBM X.K "str" r (tD X.K X.mg W z mo) (tA X.K X.mg W z ms) σ H Q := by
  obtain ⟨w, ρ, S, h⟩ := h
  refine ⟨w, ρ, S, h.bind fun d v w1 H1 S1 st rd h1 => ?_⟩
  obtain ⟨x, ex, h1⟩ := h1.liftB
  obtain rfl := strIs_eq ex
  obtain rfl := rr_str rd
  refine ⟨rfl, w1, ρ, S1, h1.bind (rel1 := relA X.K X.mg σ ρ) fun ds vs w2 H2 S2 st2 rds h2 => ?_⟩
  obtain ⟨y, e, k⟩ := h2.lift
  cases q : rsvA ρ S2 ds with
  | none => rw [q] at e; cases e
  | some ds' =>
    rw [q] at e
    exact hf w2 H2 x vs ds' y h2.t.sub (RsA.of h2.t h2.s rds q) e Q fun v H' w' g hd => k v H' w' g (.inl hd)
theorem pd_sm {name : Str} {id : String} {r : V → List V → Hp → VK → Prop} {f : Str → List D → Option D} (slot : Slot "str" name id) (hty : typeOf (.builtin id) = pure (.type "method_descriptor")) (hm : MtR X id r) (hf : OpM X r f)
    (ho : PD X W z o mo) (ha : PDA X W z (e :: es) ms)
    (hbase : attributeBase o name X.env (eval o X.env) = eval o X.env := by rfl)
    (hfew : ((backTo cpos (starEach (e :: es) X.env)).all (fun x => !x.1) && (backToKw cpos (keywordEach [] X.env)).all (fun x => x.1.isSome)
      && decide ((e :: es).length + ([] : List Keyword).length + (if ([] : List Keyword).isEmpty then 0 else 1) < 30)) = true := by rfl)
    (hline : (apos.endLine == cpos.line) = true := by rfl) (hs : starEach (e :: es) X.env = (false, eval e X.env) :: starEach es X.env := by rfl) (hplain : (backTo cpos (starEach es X.env)).any (·.1) = false := by rfl) :
    PD X W z (.Call (.Attribute o name apos) (e :: es) [] cpos) (m_sm f mo ms) :=
  pe_mono (pe_bm PySem.F.plainAttrs_str slot hty hm ho ha hbase hfew hline hs hplain) fun _ _ _ h => sm_go hf h
theorem pd_sm0 {name : Str} {id : String} {r : V → List V → Hp → VK → Prop} {f : Str → Option D} (slot : Slot "str" name id) (hty : typeOf (.builtin id) = pure (.type "method_descriptor")) (hm : MtR X id r) (hf : OpM X r fun x ds => if ds.isEmpty = true then f x else none)
    (ho : PD X W z o mo) (hbase : attributeBase o name X.env (eval o X.env) = eval o X.env := by rfl) (hline : (apos.endLine == cpos.line) = true := by rfl) : PD X W z (.Call (.Attribute o name apos) [] [] cpos) (m_sm0 f mo) :=
  pe_mono (pe_bm0 PySem.F.plainAttrs_str slot hty hm ho hbase hline) fun σ H Q h => by
    obtain ⟨w, ρ, S, h⟩ := h
    refine ⟨w, ρ, S, h.bind fun d v w1 H1 S1 st rd h1 => ?_⟩
    obtain ⟨y, e, k⟩ := h1.lift
    cases q : strIs d with
    | none => rw [q] at e; cases e
    | some x =>
      rw [q] at e
      obtain rfl := strIs_eq q
      obtain rfl := rr_str rd
      exact ⟨rfl, hf w1 H1 x [] [] y h1.t.sub .nil e Q fun v H' w' g hd => k v H' w' g (.inl hd)⟩
/-- texts alone -/
def strsD : List D → Option (List Str)
  | [] => some []
  | .str x :: r => (strsD r).map (x :: ·)
  | _ => none
theorem strs_dt : ∀ {vs : List V} {ds : List D} {xs : List Str}, DtA K mg w vs ds → strsD ds = some xs → vs = xs.map V.str
  | _, _, _, .nil, e => by cases e; rfl
  | _, _, _, .cons (d := d) (ds := ds) h hs, e => by
    cases d <;> first | (exfalso; simp [strsD] at e; done) | skip
    simp only [strsD] at e
    cases q : strsD ds with
    | none => rw [q] at e; cases e
    | some r =>
      rw [q] at e
      cases e
      cases h
      rw [strs_dt hs q]
      rfl
def joinD (a : Str) : List D → Option D
  | [.lst ds] => (strsD ds).bind fun ys => if (ys.map (·.length)).sum + ys.length * a.length ≤ 16777216 then some (.str (Txt.join a ys)) else none
  | [.tup ds] => (strsD ds).bind fun ys => if (ys.map (·.length)).sum + ys.length * a.length ≤ 16777216 then some (.str (Txt.join a ys)) else none
  | _ => none
theorem om_join : OpM X (fun x xs H Q => ∃ a p, ∃ ys : List Str, x = .str a ∧ xs = [.ref p] ∧ (SqL X.K H p (ys.map V.str) ∨ SqT X.K H p (ys.map V.str)) ∧
    (ys.map (·.length)).sum + ys.length * a.length ≤ 16777216 ∧ Q (.str (Txt.join a ys)) H) joinD := by
  intro w H x vs ds d s rs e Q q
  have g := Grow.refl s
  cases rs with
  | nil => cases e
  | cons h hs =>
    cases hs with
    | cons _ _ => simp [joinD] at e
    | nil =>
      rename_i v d0
      cases d0 <;> first | (exfalso; simp [joinD] at e; done) | skip
      · obtain ⟨a, xs, rfl, ha, hx⟩ := h
        simp only [joinD] at e
        cases q1 : strsD _ with
        | none => rw [q1] at e; cases e
        | some ys =>
          rw [q1] at e
          simp only [Option.bind_some] at e
          split at e
          · rename_i c
            cases e
            rw [strs_dt hx q1] at ha
            exact ⟨x, a, ys, rfl, rfl, .inr (ex_t s ha), c, q _ _ _ g (.str _)⟩
          · cases e
      · obtain ⟨a, xs, rfl, ha, hx⟩ := h
        simp only [joinD] at e
        cases q1 : strsD _ with
        | none => rw [q1] at e; cases e
        | some ys =>
          rw [q1] at e
          simp only [Option.bind_some] at e
          split at e
          · rename_i c
            cases e
            rw [strs_dt hx q1] at ha
            exact ⟨x, a, ys, rfl, rfl, .inl (.inl ha), c, q _ _ _ g (.str _)⟩
          · cases e
def upperF (x : Str) : Option D := if x.length ≤ 5592405 then some (.str (Txt.upper x)) else none
theorem om_upper : OpM X (fun x xs H Q => ∃ a, x = .str a ∧ xs = [] ∧ a.length ≤ 5592405 ∧ Q (.str (Txt.upper a)) H) fun x ds => if ds.isEmpty = true then upperF x else none := by
  intro w H x vs ds d s rs e Q q
  cases rs with
  | cons _ _ => cases e
  | nil =>
    simp only [upperF, List.isEmpty_nil, if_true] at e
    split at e
    · cases e
      exact ⟨x, rfl, rfl, by assumption, q _ _ _ (Grow.refl s) (.str _)⟩
    · cases e

/-! ### dicts -/
def keyOfD : D → Option Key
  | .int i => some (.inl i)
  | .str x => some (.inr x)
  | _ => none
def valD (kvs : List (Key × D)) (k : Key) : Option D := (kvs.find? fun kv => decide (kv.1 = k)).map (·.2)
def dgetD : D → D → Option D
  | .dct kvs, k => (keyOfD k).bind (valD kvs)
  | _, _ => none
theorem valV_dt : ∀ {vs : List (Key × V)} {ds : List (Key × D)} {k : Key} {d : D}, vs.map (·.1) = ds.map (·.1) → DtA K mg w (vs.map (·.2)) (ds.map (·.2)) → valD ds k = some d → ∃ v, valV vs k = some v ∧ Dt K mg w v d
  | [], [], k, d, _, _, e => by cases e
  | [], _ :: _, _, _, e, _, _ => by cases e
  | _ :: _, [], _, _, e, _, _ => by cases e
  | (k1, v1) :: vs, (k2, d2) :: ds, k, d, ek, hd, e => by
    simp only [List.map_cons, List.cons.injEq] at ek
    obtain ⟨rfl, ek⟩ := ek
    cases hd with
    | cons h hs =>
      by_cases c : k1 = k
      · subst c
        simp only [valD, List.find?_cons, decide_true, Option.map_some, Option.some.injEq] at e
        subst e
        exact ⟨v1, valV_pos rfl, h⟩
      · rw [valV_neg c]
        refine valV_dt ek hs ?_
        unfold valD at e ⊢
        rw [List.find?_cons, decide_eq_false c] at e
        exact e
theorem keyOf_rr {v : V} {d : D} {k : Key} (h : Rr K mg w σ ρ v d) (e : keyOfD d = some k) : v = kV k := by
  cases d <;> first | (exfalso; simp [keyOfD] at e; done) | skip
  · cases e; exact rr_int h
  · cases e; exact rr_str h
def m_dget (mo mk : M D) : M D := mo.bind fun o => mk.bind fun k => M.lift fun ρ S => (rsv ρ S o).bind fun o' => dgetD o' k
theorem pd_dget (hu : X.A.units + 1 < cLine) (ho : PD X W z o mo) (hi : PD X W z e mk) (hs : NoSl e) : PD X W z (.Subscript o e pos) (m_dget mo mk) :=
  pe_mono (pe_dget hu ho hi hs) fun σ H Q h => by
    obtain ⟨w, ρ, S, h⟩ := h
    refine ⟨w, ρ, S, h.bind fun d v w1 H1 S1 st1 rd h1 => ⟨w1, ρ, S1, h1.bind fun k u w2 H2 S2 st2 rk h2 => ?_⟩⟩
    obtain ⟨y, e, kk⟩ := h2.lift
    have rd' : Rr X.K X.mg w2 σ ρ v d := Rr.mono st2.le rd
    cases q1 : rsv ρ S2 d with
    | none => rw [q1] at e; cases e
    | some d' =>
      rw [q1] at e
      simp only [Option.bind_some] at e
      have r := Rs.of h2.t h2.s rd' q1
      cases d' <;> first | (exfalso; simp [dgetD] at e; done) | skip
      obtain ⟨a, kvs, rfl, ha, ek, hd⟩ := r
      simp only [dgetD] at e
      cases q2 : keyOfD k with
      | none => rw [q2] at e; cases e
      | some key =>
        rw [q2] at e
        obtain rfl := keyOf_rr rk q2
        obtain ⟨v', e2, hv⟩ := valV_dt ek hd e
        exact ⟨a, v', rfl, .inl ⟨kvs, key, ha, rfl, e2.symm⟩, kk v' H2 w2 (Grow.refl h2.t.sub) (.inl hv)⟩
def putD (kvs : List (Key × D)) (k : Key) (v : D) : List (Key × D) :=
  if (kvs.any fun kv => decide (kv.1 = k)) = true then kvs.map (fun kv => if kv.1 = k then (kv.1, v) else kv) else kvs ++ [(k, v)]
def mergeD (kvs more : List (Key × D)) : List (Key × D) := more.foldl (fun acc kv => putD acc kv.1 kv.2) kvs
theorem put_dt {vs : List (Key × V)} {ds : List (Key × D)} {k : Key} {v : V} {d : D} (ek : vs.map (·.1) = ds.map (·.1)) (hd : DtA K mg w (vs.map (·.2)) (ds.map (·.2))) (h : Dt K mg w v d) :
    (putK vs k v).map (·.1) = (putD ds k d).map (·.1) ∧ DtA K mg w ((putK vs k v).map (·.2)) ((putD ds k d).map (·.2)) := by
  have ha : (vs.any fun kv => decide (kv.1 = k)) = (ds.any fun kv => decide (kv.1 = k)) := by
    have : ∀ {α : Type} (l : List (Key × α)), (l.any fun kv => decide (kv.1 = k)) = (l.map (·.1)).any fun x => decide (x = k) := fun l => by rw [List.any_map]; rfl
    rw [this, this, ek]
  unfold putK putD
  rw [ha]
  split
  · have hm : ∀ {vs : List (Key × V)} {ds : List (Key × D)}, vs.map (·.1) = ds.map (·.1) → DtA K mg w (vs.map (·.2)) (ds.map (·.2)) →
      (vs.map (fun kv => if kv.1 = k then (kv.1, v) else kv)).map (·.1) = (ds.map (fun kv => if kv.1 = k then (kv.1, d) else kv)).map (·.1) ∧
      DtA K mg w ((vs.map (fun kv => if kv.1 = k then (kv.1, v) else kv)).map (·.2)) ((ds.map (fun kv => if kv.1 = k then (kv.1, d) else kv)).map (·.2)) := by
      intro vs
      induction vs with
      | nil =>
        intro ds ek hd
        cases ds with
        | nil => exact ⟨rfl, .nil⟩
        | cons _ _ => cases ek
      | cons p vs ih =>
        intro ds ek hd
        cases ds with
        | nil => cases ek
        | cons p2 ds =>
          obtain ⟨k1, v1⟩ := p
          obtain ⟨k2, d2⟩ := p2
          simp only [List.map_cons, List.cons.injEq] at ek
          obtain ⟨rfl, ek⟩ := ek
          cases hd with
          | cons h1 hs =>
            obtain ⟨a, b⟩ := ih ek hs
            by_cases c : k1 = k
            · simp only [List.map_cons, c, if_true]
              exact ⟨by rw [a], .cons h b⟩
            · simp only [List.map_cons, c, if_false]
              exact ⟨by rw [a], .cons h1 b⟩
    exact hm ek hd
  · simp only [List.map_append, List.map_cons, List.map_nil]
    exact ⟨by rw [ek], hd.append (.cons h .nil)⟩
/-- the pairs of a display with texts for keys -/
def m_pairs : List (Str × M D) → M (List D)
  | [] => M.pure []
  | (k, m) :: r => m.bind fun d => (m_pairs r).bind fun ds => M.pure (d :: ds)
def m_disp (ps : List (Str × M D)) : M D := (m_pairs ps).bind fun ds => M.lift fun _ _ => if ds.all fixed = true ∧ ps.length ≤ 15 then some (.dct (mergeD [] ((ps.map fun p => (Sum.inr p.1 : Key)).zip ds))) else none
/-- each key a text, each value's meaning -/
inductive PDP (X : Cx) (W : WX) (z : Option Zi) (pos : Pos) : List (Option Expr) → List Expr → List (Str × M D) → Prop
  | nil : PDP X W z pos [] [] []
  | cons {k : Str} {j : Nat} {p : Pos} {v : Expr} {m : M D} {ks : List (Option Expr)} {vs : List Expr} {ps : List (Str × M D)} : PD X W z v m → PDP X W z pos ks vs ps → PDP X W z pos (some (.Constant (.str k) j p) :: ks) (v :: vs) ((k, m) :: ps)
theorem PDP.pps {ks : List (Option Expr)} {vs : List Expr} {ps : List (Str × M D)} (h : PDP X W z pos ks vs ps) : PPs X pos ks vs (ps.map fun p => (tC (.str p.1), tD X.K X.mg W z p.2)) := by
  induction h with
  | nil => exact pps_nil
  | cons h _ ih => exact pps_cons pe_str h ih
theorem merge_dt : ∀ {vs : List (Key × V)} {ds : List (Key × D)} {v0 : List (Key × V)} {d0 : List (Key × D)}, vs.map (·.1) = ds.map (·.1) → DtA K mg w (vs.map (·.2)) (ds.map (·.2)) → v0.map (·.1) = d0.map (·.1) → DtA K mg w (v0.map (·.2)) (d0.map (·.2)) →
    (mergeK v0 vs).map (·.1) = (mergeD d0 ds).map (·.1) ∧ DtA K mg w ((mergeK v0 vs).map (·.2)) ((mergeD d0 ds).map (·.2))
  | [], [], _, _, _, _, e, h => ⟨e, h⟩
  | [], _ :: _, _, _, e, _, _, _ => by cases e
  | _ :: _, [], _, _, e, _, _, _ => by cases e
  | (k1, v1) :: vs, (k2, d2) :: ds, v0, d0, ek, hd, e0, h0 => by
    simp only [List.map_cons, List.cons.injEq] at ek
    obtain ⟨rfl, ek⟩ := ek
    cases hd with
    | cons h hs =>
      obtain ⟨a, b⟩ := put_dt (k := k1) e0 h0 h
      exact merge_dt (vs := vs) (ds := ds) ek hs a b
/-- what is made while the display's dict stands empty -/
theorem pairs_go {ps : List (Str × M D)} : ∀ {Q : List (V × V) → Hp → Prop} {k : List V → Hp → Prop} {w : Wd} {H : Hp} {S : Sto}, Do K mg W z (relA K mg σ ρ) w σ H ρ S (m_pairs ps) k → (∀ vs H', vs.length = ps.length → k vs H' → Q ((ps.map fun p => V.str p.1).zip vs) H') →
    tPairs (ps.map fun p => (tC (.str p.1), tD K mg W z p.2)) σ H Q := by
  induction ps with
  | nil =>
    intro Q k w H S h hk
    exact hk [] H rfl (h.pure [] .nil)
  | cons p r ih =>
    intro Q k w H S h hk
    obtain ⟨x, m⟩ := p
    refine ⟨w, ρ, S, Do.bind (rel1 := relD K mg σ ρ) h fun d v w1 H1 S1 st rd h1 => ?_⟩
    have h2 : Do K mg W z (relA K mg σ ρ) w1 σ H1 ρ S1 (m_pairs r) fun vs H2 => k (v :: vs) H2 := Do.bind (rel1 := relA K mg σ ρ) h1 fun ds vs w2 H2 S2 st2 rds h2 => h2.pure (v :: vs) (.cons (Rr.mono st2.le rd) rds)
    exact ih h2 fun vs H' hl q => hk (v :: vs) H' (by simp [hl]) q
theorem Stp.under {p : Addr} {o o' : HO} (x : Stp w w1 (L2.upd H p o) H1) (n : H p = none) : Stp w w1 H (L2.upd H1 p o') := by
  have old : ∀ a, H a ≠ none → a ≠ p := fun a h e => h (by rw [e]; exact n)
  refine ⟨x.le, fun a u h na => ?_, fun a h na => ?_, fun a u h => ?_⟩
  · have ne := old a (by rw [h]; exact fun z => nomatch z)
    rw [upd_ne ne]
    exact x.fr a u (by rw [upd_ne ne]; exact h) na
  · have := x.nw a h na
    by_cases e : a = p
    · rw [e]; exact n
    · rwa [upd_ne e] at this
  · rcases x.gn a u h with z | z | z
    · exact .inl z
    · by_cases e : a = p
      · rw [e]; exact .inr (.inl n)
      · rw [upd_ne e] at z
        exact .inr (.inl z)
    · exact .inr (.inr z)
theorem zip_keys {ps : List (Str × M D)} {ds : List D} (h : ps.length = ds.length) : ((ps.map fun p => (Sum.inr p.1 : Key)).zip ds).map (·.1) = ps.map fun p => (Sum.inr p.1 : Key) := by
  rw [List.map_fst_zip]
  rw [List.length_map]; omega
theorem pairs_len : ∀ {ps : List (Str × M D)} {ds : List D} {ρ : Rho} {S S' : Sto}, m_pairs ps ρ S = some (.ok ds, S') → ds.length = ps.length
  | [], _, _, _, _, e => by cases e; rfl
  | (k, m) :: r, ds, ρ, S, S', e => by
    simp only [m_pairs, M.bind] at e
    cases q : m ρ S with
    | none => rw [q] at e; cases e
    | some x =>
      obtain ⟨r1, S1⟩ := x
      rw [q] at e
      cases r1 with
      | er c fs => cases e
      | ok d =>
        dsimp only at e
        cases q2 : m_pairs r ρ S1 with
        | none => rw [q2] at e; cases e
        | some x =>
          obtain ⟨r2, S2⟩ := x
          rw [q2] at e
          cases r2 with
          | er c fs => cases e
          | ok ds' =>
            cases e
            simp [pairs_len q2]
theorem pd_disp {keys : List (Option Expr)} {values : List Expr} {ps : List (Str × M D)} (h : PDP X W z pos keys values ps) (hall : keys.all (·.isSome) = true := by rfl) (hl : keys.length = values.length := by rfl) (h0 : keys ≠ [] := by simp)
    (h15 : keys.length ≤ 15 := by decide) : PD X W z (.Dict keys values pos) (m_disp ps) :=
  pe_mono (pe_disp h.pps hall hl h0 h15) fun σ H Q hq => by
    obtain ⟨w, ρ, S, t, s, r, S', e, k⟩ := hq
    intro p np
    obtain ⟨gp, ap⟩ := t.gone np
    unfold m_disp M.bind at e
    cases q : m_pairs ps ρ S with
    | none => rw [q] at e; cases e
    | some x =>
      obtain ⟨r1, S1⟩ := x
      rw [q] at e
      have st0 : Stp w w H (upd H p (.dK [])) := (Stp.refl _ _).upd np
      have hD : Do X.K X.mg W z (relA X.K X.mg σ ρ) w σ (upd H p (.dK [])) ρ S (m_pairs ps) (fun vs H2 => vs.length = ps.length → H2 p = some (.dK []) ∧ ∃ kvs : List (Key × V), (ps.map fun p => V.str p.1).zip vs = kvs.map (fun kv => (kV kv.1, kv.2)) ∧ kvs.length ≤ 15 ∧ Q (.ref p) (upd H2 p (.dK (mergeK [] kvs)))) := by
        refine ⟨t.upd gp ap, s.step st0, r1, S1, q, ?_⟩
        cases r1 with
        | er c fs =>
          cases e
          exact fun H' w' cls dx st' t' x => by
            have e1 : upd H' p (.dK []) = H' := by
              funext b
              by_cases z : b = p
              · rw [z, upd_same]; exact (st'.fr p _ upd_same ap).symm
              · rw [upd_ne z]
            have := st'.under (o' := .dK []) np
            rw [e1] at this
            exact k H' w' cls dx this t' x
        | ok ds =>
          unfold M.lift at e
          dsimp only at e
          split at e
          · rename_i y q2
            cases e
            split at q2
            · rename_i c
              cases q2
              intro vs H2 w2 st2 t2 rds hl2
              have hp2 : H2 p = some (.dK []) := st2.fr p _ upd_same ap
              have hd := RrA.fix rds c.1
              have hlen : ps.length = vs.length := hl2.symm
              have hlen2 : ps.length = ds.length := by rw [← hd.length]; exact hlen
              refine ⟨hp2, (ps.map fun p => (Sum.inr p.1 : Key)).zip vs, ?_, by rw [List.length_zip, List.length_map]; omega, ?_⟩
              · have : ∀ (ps : List (Str × M D)) (vs : List V), (ps.map fun p => V.str p.1).zip vs = ((ps.map fun p => (Sum.inr p.1 : Key)).zip vs).map (fun kv => (kV kv.1, kv.2)) := by
                  intro ps
                  induction ps with
                  | nil => intro vs; rfl
                  | cons p r ih =>
                    intro vs
                    cases vs with
                    | nil => rfl
                    | cons v vs =>
                      simp only [List.map_cons, List.zip_cons_cons, ih vs]
                      rfl
                exact this ps vs
              · have g2 : w2.G p = none := by
                  cases q : w2.G p with
                  | none => rfl
                  | some u =>
                    rcases st2.gn p u q with z | z | z
                    · rw [gp] at z; cases z
                    · rw [upd_same] at z; cases z
                    · exact absurd z ap
                have a2 : p ∉ w2.al := fun z => by
                  have := st2.nw p z ap
                  rw [upd_same] at this
                  cases this
                obtain ⟨m1, m2⟩ := merge_dt (K := X.K) (mg := X.mg) (w := w2) (vs := (ps.map fun p => (Sum.inr p.1 : Key)).zip vs) (ds := (ps.map fun p => (Sum.inr p.1 : Key)).zip ds) (v0 := []) (d0 := [])
                  (by rw [List.map_fst_zip (by rw [List.length_map]; omega), List.map_fst_zip (by rw [List.length_map]; omega)])
                  (by rw [List.map_snd_zip (by rw [List.length_map]; omega), List.map_snd_zip (by rw [List.length_map]; omega)]; exact hd) rfl .nil
                obtain ⟨st3, t3⟩ := keep_new (st2.under (o' := .dK (mergeK [] ((ps.map fun p => (Sum.inr p.1 : Key)).zip vs))) np) (t2.upd g2 a2) np g2 a2 upd_same
                have le : Le w2 (w2.new p (.dK (mergeK [] ((ps.map fun p => (Sum.inr p.1 : Key)).zip vs)))) := ⟨Ex.new g2, List.prefix_refl _⟩
                exact k _ _ _ st3 t3 (.inl (.dct (Rd.of upd_same) m1 (m2.mono le)))
            · cases q2
          · cases e
      exact pairs_go hD fun vs H' hl q => q hl
end
end Pd

/-! What changes: in slots, in the store. -/
namespace Pd
open PySem L2 Evl Hg
open PySem.Spec PyProof.Rows
section
variable {X : Cx} {W : WX} {z : Option Zi} {w0 : W0} {w w' w1 : Wd} {σ : L2.St} {H H' H1 : Hp} {ρ ρ' : Rho} {S S' S1 : Sto} {K : PySem.W.Frag} {mg : Str → Option Value} {Dn : Ends}
variable {e a b o value : Expr} {es : List Expr} {pos pos' apos cpos : Pos} {me ma mb mo mk mv : M D} {ms : M (List D)} {st : Stmt} {m : SM}
/-- what slot i holds changes -/
theorem StS.mutate {i : Nat} {o o' : Mo} {a : Addr} {u : HO} (s : StS X.K X.mg z w0 w σ H ρ S) (e : ρ[i]? = some (Sv.m o)) (e2 : σ[i]? = some (some (.ref a))) (hm : MoOk X.K X.mg w (upd H a u) a o') : StS X.K X.mg z w0 w σ (upd H a u) (ρ.set i (.m o')) S := by
  obtain ⟨b, eb, g, n, m⟩ := s.s.mt i o e
  rw [e2] at eb
  cases eb
  have h0 := s.lo i o a e e2
  refine ⟨s.t.upd g n, ⟨by simp [s.s.len], fun j d f => ?_, fun j o2 f => ?_, fun j k oj ok b f1 f2 f3 f4 => ?_, s.s.exc⟩, fun j o2 b f1 f2 => ?_, s.st.upd h0⟩
  · rcases set_get f with ⟨_, f⟩ | ⟨_, f⟩
    · cases f
    · exact s.s.dat j d f
  · rcases set_get f with ⟨rfl, f2⟩ | ⟨nj, f2⟩
    · cases f2
      exact ⟨a, e2, g, n, hm⟩
    · obtain ⟨b, f3, g3, n3, m3⟩ := s.s.mt j o2 f2
      refine ⟨b, f3, g3, n3, m3.stay (upd_ne ?_) (Le.refl _)⟩
      intro q
      subst q
      exact nj (s.s.sep j i o2 o b f2 e f3 e2)
  · have back : ∀ {l : Nat} {ol : Mo}, (ρ.set i (.m o'))[l]? = some (Sv.m ol) → ∃ o2, ρ[l]? = some (Sv.m o2) := fun {l ol} h => by
      rcases set_get h with ⟨rfl, _⟩ | ⟨_, h⟩
      · exact ⟨o, e⟩
      · exact ⟨_, h⟩
    obtain ⟨oj', f1⟩ := back f1
    obtain ⟨ok', f2⟩ := back f2
    exact s.s.sep j k _ _ b f1 f2 f3 f4
  · rcases set_get f1 with ⟨rfl, _⟩ | ⟨_, f1⟩
    · exact s.lo _ o b e f2
    · exact s.lo j o2 b f1 f2
/-- what slot i holds, and where -/
def slotM (i : Nat) (ρ : Rho) : Option Mo := match ρ[i]? with
  | some (.m o) => some o
  | _ => none
theorem slotM_eq {i : Nat} {o : Mo} (h : slotM i ρ = some o) : ρ[i]? = some (Sv.m o) := by
  unfold slotM at h
  split at h
  · rename_i o' e
    cases h
    exact e
  · cases h
/-- x.append(e) -/
def s_app (i : Nat) (me : M D) : SM := (M.lift fun ρ _ => slotM i ρ).toS fun o => match o with
  | .lst ds => me.toS fun d ρ S => if fixed d = true ∧ ds.length < sizeLine then some (.nx, ρ.set i (.m (.lst (ds ++ [d]))), S) else none
  | _ => fun _ _ => none
theorem pds_app {i : Nat} {x : Str} {xp : Pos} (ho : PE X (.Name x xp) (tVar i)) (he : PD X W z e me)
    (h : ∀ {te : TE}, PE X e te → PS X st (tDrop (tBM X.K "list" rAppend (tVar i) (tCons te tNil)))) : PDS X W z w0 st (s_app i me) :=
  ps_mono (h he) fun Dn σ H h => by
    obtain ⟨w, ρ, S, h⟩ := h
    obtain ⟨o, eo, h⟩ := h.liftB
    have eo := slotM_eq eo
    cases o with
    | dct _ => obtain ⟨_, _, _, _, e, _⟩ := h; cases e
    | ins _ _ => obtain ⟨_, _, _, _, e, _⟩ := h; cases e
    | lst ds =>
      obtain ⟨a, ea, g, n, xs, hx, hd⟩ := h.st.s.mt i _ eo
      refine ⟨_, ea, .inl ⟨rfl, xs, .inl (.inl hx)⟩, w, ρ, S, DoS.bind (rel := relD X.K X.mg σ ρ) h fun d v w1 H1 S1 x rd h1 => ?_⟩
      obtain ⟨st1, fl, ρ', S', e, p⟩ := h1
      split at e
      · rename_i c
        cases e
        have hx1 : H1 a = some (.lst xs) := x.fr a _ hx n
        refine ⟨a, xs, v, rfl, rfl, hx1, by rw [hd.length]; exact c.2, p σ _ w1 (Le.refl _) (st1.mutate eo ea ⟨xs ++ [v], upd_same, ?_⟩)⟩
        exact (hd.mono x.le).append (.cons (rd.dt c.1) .nil)
      · cases e
/-- x[k] = v, x a dict -/
def s_put (i : Nat) (mk mv : M D) : SM := mv.toS fun d => (M.lift fun ρ _ => slotM i ρ).toS fun o => match o with
  | .dct kvs => mk.toS fun k ρ S => match keyOfD k with
    | some key => if fixed d = true ∧ kvs.length < sizeLine then some (.nx, ρ.set i (.m (.dct (putD kvs key d))), S) else none
    | none => none
  | _ => fun _ _ => none
theorem map_len {α β : Type} {l : List (Key × α)} {l' : List (Key × β)} (h : l.map (·.1) = l'.map (·.1)) : l.length = l'.length := by
  have := congrArg List.length h
  simpa using this
theorem pds_put {i : Nat} (hv : PD X W z value mv) (hk : PD X W z e mk) (h : ∀ {tk tv : TE}, PE X e tk → PE X value tv → PS X st (sDPut (tVar i) tk tv)) : PDS X W z w0 st (s_put i mk mv) :=
  ps_mono (h hk hv) fun Dn σ H h => by
    obtain ⟨w, ρ, S, h⟩ := h
    refine ⟨w, ρ, S, DoS.bind (rel := relD X.K X.mg σ ρ) h fun d v w1 H1 S1 x rd h1 => ?_⟩
    obtain ⟨o, eo, h1⟩ := h1.liftB
    have eo := slotM_eq eo
    cases o with
    | lst _ => obtain ⟨_, _, _, _, e, _⟩ := h1; cases e
    | ins _ _ => obtain ⟨_, _, _, _, e, _⟩ := h1; cases e
    | dct kvs =>
      obtain ⟨a, ea, g, n, vs, hx, ek, hd⟩ := h1.st.s.mt i _ eo
      refine ⟨_, ea, w1, ρ, S1, DoS.bind (rel := relD X.K X.mg σ ρ) h1 fun k u w2 H2 S2 x2 rk h2 => ?_⟩
      obtain ⟨st2, fl, ρ', S', e, p⟩ := h2
      split at e
      · rename_i key q
        split at e
        · rename_i c
          cases e
          obtain rfl := keyOf_rr rk q
          have hx2 : H2 a = some (.dK vs) := x2.fr a _ hx n
          obtain ⟨m1, m2⟩ := put_dt (k := key) ek (hd.mono x2.le) ((rd.dt c.1).mono x2.le)
          exact ⟨a, _, rfl, .inl ⟨vs, key, hx2, rfl, by rw [map_len ek]; exact c.2, rfl⟩, p σ _ w2 (Le.refl _) (st2.mutate eo ea ⟨_, upd_same, m1, m2⟩)⟩
        · cases e
      · cases e
def putFD (f : Str) (d : D) : List (Str × D) → List (Str × D)
  | [] => [(f, d)]
  | (g, x) :: r => if g = f then (g, d) :: r else (g, x) :: putFD f d r
theorem putF_dt : ∀ {vs : List (Str × V)} {ds : List (Str × D)} {f : Str} {v : V} {d : D}, vs.map (·.1) = ds.map (·.1) → DtA K mg w (vs.map (·.2)) (ds.map (·.2)) → Dt K mg w v d →
    (putF f v vs).map (·.1) = (putFD f d ds).map (·.1) ∧ DtA K mg w ((putF f v vs).map (·.2)) ((putFD f d ds).map (·.2))
  | [], [], f, v, d, _, _, h => ⟨rfl, .cons h .nil⟩
  | [], _ :: _, _, _, _, e, _, _ => by cases e
  | _ :: _, [], _, _, _, e, _, _ => by cases e
  | (k1, v1) :: vs, (k2, d2) :: ds, f, v, d, ek, hd, h => by
    simp only [List.map_cons, List.cons.injEq] at ek
    obtain ⟨rfl, ek⟩ := ek
    cases hd with
    | cons h1 hs =>
      obtain ⟨a, b⟩ := putF_dt (f := f) ek hs h
      by_cases c : k1 = f
      · simp only [putF, putFD, c, if_true, List.map_cons]
        exact ⟨by rw [ek], .cons h hs⟩
      · simp only [putF, putFD, c, if_false, List.map_cons]
        exact ⟨by rw [a], .cons h1 b⟩
/-- self.f = v, self the instance that slot i holds -/
def s_attr (i : Nat) (c f : Str) (me : M D) : SM := me.toS fun d => (M.lift fun ρ _ => slotM i ρ).toS fun o ρ S => match o with
  | .ins c' fs => if fixed d = true ∧ fs.length < 1000 ∧ c' = c then some (.nx, ρ.set i (.m (.ins c (putFD f d fs))), S) else none
  | _ => none
theorem fld_len {α β : Type} {l : List (Str × α)} {l' : List (Str × β)} (h : l.map (·.1) = l'.map (·.1)) : l.length = l'.length := by
  have := congrArg List.length h
  simpa using this
theorem pds_attr {i : Nat} {c f : Str} (hc : ∀ C, X.mg c = some (.ref C) → L2.Cls X.K C ∧ NoAttr X.K C f) (h : PS X st (sFld X.K (tVar i) (tD X.K X.mg W z me) f)) : PDS X W z w0 st (s_attr i c f me) :=
  ps_mono h fun Dn σ H h => by
    obtain ⟨w, ρ, S, h⟩ := h
    refine ⟨w, ρ, S, DoS.bind (rel := relD X.K X.mg σ ρ) h fun d v w1 H1 S1 x rd h1 => ?_⟩
    obtain ⟨o, eo, h1⟩ := h1.liftB
    have eo := slotM_eq eo
    obtain ⟨st1, fl, ρ', S', e, p⟩ := h1
    cases o with
    | lst _ => cases e
    | dct _ => cases e
    | ins c' fs =>
      dsimp only at e
      split at e
      · rename_i cc
        obtain ⟨c1, c2, rfl⟩ := cc
        cases e
        obtain ⟨a, ea, g, n, C, dx, vs, em, hx, ek, hd⟩ := st1.s.mt i _ eo
        obtain ⟨k1, k2⟩ := hc C em
        obtain ⟨m1, m2⟩ := putF_dt (f := f) ek hd (rd.dt c1)
        exact ⟨_, ea, a, C, dx, vs, rfl, hx, k1, k2, by rw [fld_len ek]; exact c2, p σ _ w1 (Le.refl _) (st1.mutate eo ea ⟨C, dx, _, em, upd_same, m1, m2⟩)⟩
      · cases e
/-- e.f, of an instance of one of the classes cs -/
def m_fld (cs : List Str) (f : Str) (m : M D) : M D := m.bind fun d => M.lift fun ρ S => match rsv ρ S d with
  | some (.ins c fs) => if c ∈ cs then fs.lookup f else none
  | _ => none
theorem lookup_dt : ∀ {vs : List (Str × V)} {ds : List (Str × D)} {f : Str} {d : D}, vs.map (·.1) = ds.map (·.1) → DtA K mg w (vs.map (·.2)) (ds.map (·.2)) → ds.lookup f = some d → ∃ v, vs.lookup f = some v ∧ Dt K mg w v d
  | [], [], _, _, _, _, e => by cases e
  | [], _ :: _, _, _, e, _, _ => by cases e
  | _ :: _, [], _, _, e, _, _ => by cases e
  | (k1, v1) :: vs, (k2, d2) :: ds, f, d, ek, hd, e => by
    simp only [List.map_cons, List.cons.injEq] at ek
    obtain ⟨rfl, ek⟩ := ek
    cases hd with
    | cons h1 hs =>
      simp only [List.lookup] at e ⊢
      cases q : f == k1 with
      | true =>
        rw [q] at e
        cases e
        exact ⟨v1, rfl, h1⟩
      | false =>
        rw [q] at e
        exact lookup_dt ek hs e
theorem pd_fld {cs : List Str} {f : Str} (hc : ∀ c ∈ cs, ∀ C, X.mg c = some (.ref C) → L2.Cls X.K C ∧ NoAttr X.K C f) (he : PD X W z e me) (hb : attributeBase e f X.env (eval e X.env) = eval e X.env := by rfl) : PD X W z (.Attribute e f pos) (m_fld cs f me) :=
  pe_mono (pe_fld he hb) fun σ H Q h => by
    obtain ⟨w, ρ, S, h⟩ := h
    refine ⟨w, ρ, S, h.bind fun d v w1 H1 S1 st rd h1 => ?_⟩
    obtain ⟨y, e, k⟩ := h1.lift
    split at e
    · rename_i c fs q
      split at e
      · rename_i cm
        obtain ⟨a, C, dx, vs, rfl, em, hx, ek, hd⟩ := Rs.of h1.t h1.s rd q
        obtain ⟨k1, k2⟩ := hc c cm C em
        obtain ⟨v', e1, hv⟩ := lookup_dt ek hd e
        exact ⟨a, C, dx, vs, v', rfl, hx, k1, k2, e1, k v' H1 w1 (Grow.refl h1.t.sub) (.inl hv)⟩
      · cases e
    · cases e
/-! ### the store -/
theorem At.mutS {k : Nat} {o o' : Mo} {a : Addr} {u : HO} (t : At K mg w H S) (e1 : w.al[k]? = some a) (e2 : S[k]? = some o) (hm : MoOk K mg w (L2.upd H a u) a o') : At K mg w (L2.upd H a u) (S.set k o') := by
  have ha := List.mem_of_getElem? e1
  refine ⟨fun b v h => ?_, by simp [t.len], t.nd, t.off, fun j b o2 hj ho => ?_⟩
  · rw [upd_ne (ne_of_none h (t.off a ha))]
    exact t.sub b v h
  · rcases set_get ho with ⟨rfl, ho2⟩ | ⟨n, ho2⟩
    · cases ho2
      rw [e1] at hj
      cases hj
      exact hm
    · refine (t.obj j b o2 hj ho2).stay (upd_ne ?_) (Le.refl w)
      intro q
      subst q
      obtain ⟨h1, g1⟩ := List.getElem?_eq_some_iff.mp e1
      obtain ⟨h2, g2⟩ := List.getElem?_eq_some_iff.mp hj
      exact n ((List.getElem_inj t.nd).mp (g2.trans g1.symm))
theorem Stp.mutS {k : Nat} {a : Addr} {u : HO} (e1 : w.al[k]? = some a) : Stp w w H (L2.upd H a u) := by
  have ha := List.mem_of_getElem? e1
  refine ⟨Le.refl _, fun b v h n => ?_, fun b h n => absurd h n, fun b v h => .inl h⟩
  rw [upd_ne (fun q : b = a => n (by rw [q]; exact ha))]
  exact h
/-- the thing k of the store -/
theorem own_at {v : V} {k : Nat} {o : Mo} (t : At K mg w H S) (r : Rr K mg w σ ρ v (.own k)) (e : S[k]? = some o) : ∃ a, v = .ref a ∧ w.al[k]? = some a ∧ MoOk K mg w H a o := by
  rcases r with r | ⟨_, _, z, _⟩
  · cases r with
    | own h => exact ⟨_, rfl, h, t.obj k _ o h e⟩
  · cases z
/-- o.pop(), o a list of the store -/
def m_opop (mo : M D) : M D := mo.bind fun o _ S => match o with
  | .own k => match S[k]? with
    | some (.lst ds) => match ds[ds.length - 1]? with
      | some d => some (.ok d, S.set k (.lst ds.dropLast))
      | none => none
    | _ => none
  | _ => none
theorem dropLast_dt {vs : List V} {ds : List D} (h : DtA K mg w vs ds) : DtA K mg w vs.dropLast ds.dropLast := by
  rw [List.dropLast_eq_take, List.dropLast_eq_take, h.length]
  exact h.take _
theorem pd_opop (ho : PD X W z o mo) (hbase : attributeBase o "pop" X.env (eval o X.env) = eval o X.env := by rfl) (hline : (apos.endLine == cpos.line) = true := by rfl) : PD X W z (.Call (.Attribute o "pop" apos) [] [] cpos) (m_opop mo) :=
  pe_mono (pe_bm0 PySem.F.plainAttrs_list PySem.F.slot_list_pop PySem.F.type_list_pop mt_pop ho hbase hline) fun σ H Q h => by
    obtain ⟨w, ρ, S, h⟩ := h
    refine ⟨w, ρ, S, h.bind fun d v w1 H1 S1 st rd h1 => ?_⟩
    obtain ⟨t1, s1, r, S', e, p⟩ := h1
    cases d <;> first | (exfalso; simp at e; done) | skip
    rename_i k
    dsimp only at e
    split at e
    · rename_i ds q
      split at e
      · rename_i y q2
        cases e
        obtain ⟨a, rfl, ha, xs, hx, hd⟩ := own_at t1 rd q
        have hl := hd.length
        obtain ⟨y', e3, hy⟩ := hd.get q2
        refine ⟨.inl ⟨rfl, xs, .inl (.inl hx)⟩, a, xs, y', rfl, rfl, hx, by rw [hl]; exact e3, ?_⟩
        exact p y' _ w1 (Stp.mutS ha) (t1.mutS ha q ⟨_, upd_same, dropLast_dt hd⟩) (.inl hy)
      · cases e
    · cases e
/-- o.append(e), o a list of the store -/
def m_oapp (mo me : M D) : M D := mo.bind fun o => (M.lift fun _ S => match o with
  | .own k => match S[k]? with
    | some (.lst _) => some k
    | _ => none
  | _ => none).bind fun k => me.bind fun d _ S => match S[k]? with
    | some (.lst ds) => if fixed d = true ∧ ds.length < sizeLine then some (.ok .non, S.set k (.lst (ds ++ [d]))) else none
    | _ => none
theorem pd_oapp (ho : PD X W z o mo) (he : PD X W z e me) (h : ∀ {to te : TE}, PE X o to → PE X e te → PE X a (tBM X.K "list" rAppend to (tCons te tNil))) : PD X W z a (m_oapp mo me) :=
  pe_mono (h ho he) fun σ H Q h => by
    obtain ⟨w, ρ, S, h⟩ := h
    refine ⟨w, ρ, S, h.bind fun d v w1 H1 S1 st rd h1 => ?_⟩
    obtain ⟨k, ek, hk1⟩ := h1.liftB
    cases d <;> first | (exfalso; simp at ek; done) | skip
    dsimp only at ek
    split at ek
    · rename_i ds q
      cases ek
      obtain ⟨a, rfl, ha, xs, hx, hd⟩ := own_at hk1.t rd q
      refine ⟨.inl ⟨rfl, xs, .inl (.inl hx)⟩, w1, ρ, S1, Do.bind (rel1 := relD X.K X.mg σ ρ) hk1 fun d u w2 H2 S2 st2 ru h2 => ?_⟩
      obtain ⟨t2, s2, r, S', e, p⟩ := h2
      have ha2 := pre_get st2.le.a ha
      split at e
      · rename_i ds2 q2
        split at e
        · rename_i c
          cases e
          obtain ⟨xs2, hx2, hd2⟩ := t2.obj _ a _ ha2 q2
          refine ⟨a, xs2, u, rfl, rfl, hx2, by rw [hd2.length]; exact c.2, ?_⟩
          exact p .non _ w2 (Stp.mutS ha2) (t2.mutS ha2 q2 ⟨_, upd_same, hd2.append (.cons (ru.dt c.1) .nil)⟩) (.inl .non)
        · cases e
      · cases e
    · cases ek
/-- o[k] = v, o a dict of the store -/
def s_oput (mo mk mv : M D) : SM := mv.toS fun d => mo.toS fun o => mk.toS fun k ρ S => match o, keyOfD k with
  | .own j, some key => match S[j]? with
    | some (.dct kvs) => if fixed d = true ∧ kvs.length < sizeLine then some (.nx, ρ, S.set j (.dct (putD kvs key d))) else none
    | _ => none
  | _, _ => none
theorem pds_oput (ho : PD X W z o mo) (hv : PD X W z value mv) (hk : PD X W z e mk) (h : ∀ {to tk tv : TE}, PE X o to → PE X e tk → PE X value tv → PS X st (sDPut to tk tv)) : PDS X W z w0 st (s_oput mo mk mv) :=
  ps_mono (h ho hk hv) fun Dn σ H h => by
    obtain ⟨w, ρ, S, h⟩ := h
    refine ⟨w, ρ, S, DoS.bind (rel := relD X.K X.mg σ ρ) h fun d v w1 H1 S1 x1 rd h1 => ⟨w1, ρ, S1, DoS.bind (rel := relD X.K X.mg σ ρ) h1 fun od ov w2 H2 S2 x2 ro h2 => ⟨w2, ρ, S2, DoS.bind (rel := relD X.K X.mg σ ρ) h2 fun k u w3 H3 S3 x3 rk h3 => ?_⟩⟩⟩
    obtain ⟨st3, fl, ρ', S', e, p⟩ := h3
    split at e
    · rename_i j key q
      split at e
      · rename_i kvs q2
        split at e
        · rename_i c
          cases e
          have ro3 : Rr X.K X.mg w3 σ ρ ov (.own j) := Rr.mono x3.le ro
          obtain ⟨a, rfl, ha, vs, hx, ek, hd⟩ := own_at st3.t ro3 q2
          obtain rfl := keyOf_rr rk q
          obtain ⟨m1, m2⟩ := put_dt (k := key) ek hd ((rd.dt c.1).mono (x2.le.trans x3.le))
          exact ⟨a, _, rfl, .inl ⟨vs, key, hx, rfl, by rw [map_len ek]; exact c.2, rfl⟩, p σ _ w3 (Le.refl _) (st3.step (Stp.mutS ha) (st3.t.mutS ha q2 ⟨_, upd_same, m1, m2⟩))⟩
        · cases e
      · cases e
    · cases e
/-! ### what goes into the store -/
theorem publish {p : Addr} {o : Mo} (x : Stp w w1 H H1) (t : At K mg w1 H1 S1) (n : H p = none) (g : w1.G p = none) (a : p ∉ w1.al) (m : MoOk K mg w1 H1 p o) :
    Stp w ⟨w1.G, w1.al ++ [p]⟩ H H1 ∧ At K mg ⟨w1.G, w1.al ++ [p]⟩ H1 (S1 ++ [o]) ∧ Dt K mg ⟨w1.G, w1.al ++ [p]⟩ (.ref p) (.own S1.length) := by
  have le : Le w1 ⟨w1.G, w1.al ++ [p]⟩ := ⟨Ex.refl _, List.prefix_append _ _⟩
  refine ⟨⟨x.le.trans le, x.fr, fun b h nb => ?_, x.gn⟩, ⟨t.sub, by simp [t.len], ?_, fun b h => ?_, fun k b o' hk ho => ?_⟩, .own ?_⟩
  · rcases List.mem_append.mp h with h | h
    · exact x.nw b h nb
    · obtain rfl := List.mem_singleton.mp h
      exact n
  · refine List.nodup_append.mpr ⟨t.nd, by simp, fun b hb c hc e => ?_⟩
    obtain rfl := List.mem_singleton.mp hc
    exact a (e ▸ hb)
  · rcases List.mem_append.mp h with h | h
    · exact t.off b h
    · obtain rfl := List.mem_singleton.mp h
      exact g
  · by_cases hlt : k < w1.al.length
    · have hk' : w1.al[k]? = some b := by
        have hk2 : (w1.al ++ [p])[k]? = some b := hk
        rwa [List.getElem?_append_left hlt] at hk2
      rw [List.getElem?_append_left (by rw [← t.len]; exact hlt)] at ho
      exact (t.obj k b o' hk' ho).stay rfl le
    · have hk2 : (w1.al ++ [p])[k]? = some b := hk
      rw [List.getElem?_append_right (by omega)] at hk2
      rw [List.getElem?_append_right (by rw [← t.len]; omega)] at ho
      have e0 : k - w1.al.length = 0 := by
        have := (List.getElem?_eq_some_iff.mp hk2).1
        simp at this
        omega
      rw [e0] at hk2
      rw [← t.len, e0] at ho
      cases hk2
      cases ho
      exact m.stay rfl le
  · show (w1.al ++ [p])[S1.length]? = some p
    rw [← t.len, List.getElem?_append_right (Nat.le_refl _)]
    simp
def m_pub (m : M (List D)) : M D := m.bind fun ds _ S => some (.ok (.own S.length), S ++ [.lst ds])
theorem pd_pub {m : M (List D)} (h : PF X W z e m) : PD X W z e (m_pub m) := pe_mono h fun σ H Q h => by
  obtain ⟨w, ρ, S, t, s, r, S', e, k⟩ := h
  refine ⟨w, ρ, S, t, s, ?_⟩
  unfold m_pub M.bind at e
  cases q : m ρ S with
  | none => rw [q] at e; cases e
  | some x =>
    obtain ⟨r1, S1⟩ := x
    rw [q] at e
    refine ⟨r1, S1, rfl, ?_⟩
    cases r1 with
    | er c fs => cases e; exact k
    | ok ds =>
      cases e
      intro v H1 w1 st t1 rl
      obtain ⟨p, xs, rfl, n, g, a, e1, hd⟩ := rl
      obtain ⟨st2, t2, d2⟩ := publish (o := .lst ds) st t1 n g a ⟨xs, e1, hd⟩
      exact k (.ref p) H1 _ st2 t2 (.inl d2)
/-- t[::-1] -/
def mf_rev (m : M D) : M (List D) := m.bind fun d => M.lift fun ρ S => match rsv ρ S d with
  | some (.lst ds) => some ds.reverse
  | _ => none
theorem pf_rev {k : Nat} {p1 p2 p3 : Pos} (he : PD X W z e me) : PF X W z (.Subscript e (.Slice none none (some (.UnaryOp .USub (.Constant (.int 1) k p1) p2)) p3) pos) (mf_rev me) :=
  pe_mono (pe_revL he) fun σ H Q h => by
    obtain ⟨w, ρ, S, h⟩ := h
    refine ⟨w, ρ, S, h.bind fun d v w1 H1 S1 st rd h1 => ?_⟩
    obtain ⟨t1, s1, r, S', e, p⟩ := h1
    unfold M.lift at e
    dsimp only at e
    cases q : rsv ρ S1 d with
    | none => rw [q] at e; cases e
    | some d' =>
      rw [q] at e
      cases d' <;> first | (exfalso; simp at e; done) | skip
      cases e
      obtain ⟨a, xs, rfl, hx, hd⟩ := Rs.of t1 s1 rd q
      refine ⟨a, xs, rfl, .inl hx, fun b nb => ?_⟩
      obtain ⟨g, al⟩ := t1.gone nb
      exact p (.ref b) _ w1 ((Stp.refl _ _).upd nb) (t1.upd g al) ⟨b, _, rfl, st.fresh t1 nb, g, al, upd_same, hd.reverse⟩
end
end Pd

/-! Errors: raised, caught, read. -/
namespace Pd
open PySem L2 Evl Hg
open PySem.Spec PyProof.Rows
section
variable {X : Cx} {W : WX} {z : Option Zi} {w0 : W0} {w w' w1 : Wd} {σ : L2.St} {H H' H1 : Hp} {ρ ρ' : Rho} {S S' S1 : Sto} {K : PySem.W.Frag} {mg : Str → Option Value} {Dn : Ends}
variable {e a b o value : Expr} {es : List Expr} {pos pos' apos cpos : Pos} {me ma mb mo mk mv : M D} {ms : M (List D)} {st : Stmt} {m : SM}
/-! ### raise C(e), C keeps e under a name -/
def s_raise (c name : Str) (me : M D) : SM := me.toS fun d ρ S => if fixed d = true then some (.er c [(name, d)], ρ, S) else none
theorem pds_raise {c name : Str} {C : Addr} (hm : X.mg c = some (.ref C)) (he : PD X W z e me)
    (h : ∀ {te : TE}, PE X e te → PS X st (fun _ σ H => te σ H fun y H1 => ∀ d, H1 d = none → W (.ref C) (some d) σ (upd H1 d (.xd [(name, y)])))) : PDS X W z w0 st (s_raise c name me) :=
  ps_mono (h he) fun Dn σ H h => by
    obtain ⟨w, ρ, S, h⟩ := h
    refine ⟨w, ρ, S, DoS.bind (rel := relD X.K X.mg σ ρ) h fun d v w1 H1 S1 x rd h1 => ?_⟩
    obtain ⟨st1, fl, ρ', S', e, p⟩ := h1
    intro dx ndx
    split at e
    · rename_i f
      cases e
      have g := Grow.new (o := .xd [(name, v)]) st1.t.sub ndx
      refine p σ _ (w1.new dx (.xd [(name, v)])) (.ref C) (some dx) g.le (st1.grow g) ⟨⟨C, rfl, hm⟩, [(name, v)], upd_same, rfl, .cons ((rd.dt f).mono g.le) .nil⟩
    · cases e
/-- raise C(), C bears nothing -/
def s_raise0 (c : Str) : SM := fun ρ S => some (.er c [], ρ, S)
theorem pds_raise0 {c : Str} {C : Addr} (hm : X.mg c = some (.ref C)) (h : PS X st (fun _ σ H => W (.ref C) none σ H)) : PDS X W z w0 st (s_raise0 c) :=
  ps_mono h fun Dn σ H h => by
    obtain ⟨w, ρ, S, st1, fl, ρ', S', e, p⟩ := h
    cases e
    exact p σ H w (.ref C) none (Le.refl _) st1 ⟨⟨C, rfl, hm⟩, rfl⟩

/-! ### try: body, except C as n: suite -/
theorem Sl.un {z' : Option Zi} {i : Nat} {x : Option V} (s : Sl K mg z w H σ ρ) (hz : ∀ zi : Zi, z' = some zi → (σ.set i x)[zi.i]? = some (some (.ref zi.a)) ∧ Zok K mg w zi.dx zi.fs) : Sl K mg z' w H (σ.set i x) (ρ.set i .un) := by
  refine ⟨by simp [s.len], fun j d e => ?_, fun j o e => ?_, fun j k oj ok a e1 e2 e3 e4 => ?_, hz⟩
  · rcases set_get e with ⟨_, e⟩ | ⟨n, e⟩
    · cases e
    · obtain ⟨v, e2, h⟩ := s.dat j d e
      exact ⟨v, by rw [List.getElem?_set_ne (Ne.symm n)]; exact e2, h⟩
  · rcases set_get e with ⟨_, e⟩ | ⟨n, e⟩
    · cases e
    · obtain ⟨a, e2, h⟩ := s.mt j o e
      exact ⟨a, by rw [List.getElem?_set_ne (Ne.symm n)]; exact e2, h⟩
  · rcases set_get e1 with ⟨_, e⟩ | ⟨n1, e1⟩
    · cases e
    rcases set_get e2 with ⟨_, e⟩ | ⟨n2, e2⟩
    · cases e
    rw [List.getElem?_set_ne (Ne.symm n1)] at e3
    rw [List.getElem?_set_ne (Ne.symm n2)] at e4
    exact s.sep j k oj ok a e1 e2 e3 e4
theorem StS.un {z' : Option Zi} {i : Nat} {x : Option V} (s : StS K mg z w0 w σ H ρ S) (hz : ∀ zi : Zi, z' = some zi → (σ.set i x)[zi.i]? = some (some (.ref zi.a)) ∧ Zok K mg w zi.dx zi.fs) : StS K mg z' w0 w (σ.set i x) H (ρ.set i .un) S := by
  refine ⟨s.t, s.s.un hz, fun j o a e1 e2 => ?_, s.st⟩
  rcases set_get e1 with ⟨_, e⟩ | ⟨n, e1⟩
  · cases e
  rw [List.getElem?_set_ne (Ne.symm n)] at e2
  exact s.lo j o a e1 e2
def s_try (i : Nat) (errs : List Str) (sub : Str → Bool) (mb : SM) (ms : Str → List (Str × D) → SM) : SM := fun ρ S =>
  match mb ρ S with
  | some (.er c fs, ρ1, S1) => if i < ρ1.length ∧ c ∈ errs then
      if sub c = true then
        match ms c fs (ρ1.set i .un) S1 with
        | some (.er _ _, _, _) => none
        | some (fl, ρ2, S2) => some (fl, ρ2.set i .un, S2)
        | none => none
      else some (.er c fs, ρ1, S1)
    else none
  | r => r
theorem pds_try {errs : List Str} {sub : Str → Bool} {i : Nat} {mb : SM} {ms : Str → List (Str × D) → SM} {cv : Value} {tb : List Stmt} {suite : List Stmt}
    (hE : ∀ c ∈ errs, ∀ C, X.mg c = some (.ref C) → PySem.W.exmOne X.K (.ref C) cv = some (sub c))
    (h : ∀ {ts : Addr → Value → Option Addr → TS} {tb' : WX → TS}, (∀ (W' : WX) (pn : List (Addr × Obj)) (xe : Value → Shared → Prop), Takes (X.tr pn xe) W' → PassesOwn (model X.prog X.w) X.A X.env xe → PSs (X.tr pn xe) tb (tb' W')) →
      (∀ (a : Addr) (oe : Obj) (cls : Value) (d : Option Addr) (pn : List (Addr × Obj)), Zc cls d oe → (∃ vs, oe.data = .fields vs) → PSs (X.suite a ((a, oe) :: pn)) suite (ts a cls d)) → PS X st (fun D σ H => tb' (wAs X.K cv i ts W D) D σ H))
    (hb : ∀ (W' : WX) (pn : List (Addr × Obj)) (xe : Value → Shared → Prop), Takes (X.tr pn xe) W' → PassesOwn (model X.prog X.w) X.A X.env xe → PSs (X.tr pn xe) tb (tS X.K X.mg W' none w0 mb))
    (hsu : ∀ (a : Addr) (oe : Obj) (C : Addr) (d : Option Addr) (pn : List (Addr × Obj)) (c : Str) (fs : List (Str × D)), Zc (.ref C) d oe → (∃ vs, oe.data = .fields vs) → X.mg c = some (.ref C) → c ∈ errs → sub c = true →
      PSs (X.suite a ((a, oe) :: pn)) suite (tS X.K X.mg WNo (some ⟨i, a, d, fs⟩) w0 (ms c fs))) : PDS X W none w0 st (s_try i errs sub mb ms) :=
  ps_mono (h (ts := fun a cls d Dn σ H => ∃ c fs, (∃ C, cls = .ref C ∧ X.mg c = some (.ref C)) ∧ c ∈ errs ∧ sub c = true ∧ tS X.K X.mg WNo (some ⟨i, a, d, fs⟩) w0 (ms c fs) Dn σ H) hb
    (fun a oe cls d pn z f => ⟨fun pins s σ H D I q => by
      obtain ⟨c, fs, ⟨C, rfl, hm⟩, hc, hs, q⟩ := q
      exact (hsu a oe C d pn c fs z f hm hc hs).run pins s σ H D I q⟩)) fun Dn σ H hq => by
    obtain ⟨w, ρ, S, st1, fl, ρ', S', e, p⟩ := hq
    unfold s_try at e
    cases q : mb ρ S with
    | none => rw [q] at e; cases e
    | some x =>
      obtain ⟨f1, ρ1, S1⟩ := x
      rw [q] at e
      refine ⟨w, ρ, S, st1, f1, ρ1, S1, q, ?_⟩
      cases f1 with
      | nx => cases e; exact p
      | bk => cases e; exact p
      | ct => cases e; exact p
      | rt d => cases e; exact p
      | er c fs =>
        dsimp only at e
        split at e
        · rename_i cc
          obtain ⟨hi, cm⟩ := cc
          intro σ2 H2 w2 cls dx l2 st2 xr
          obtain ⟨⟨C, rfl, hm⟩, zk⟩ := xr
          refine ⟨sub c, hE c cm C hm, fun hs a na => ?_, fun hs => ?_⟩
          · rw [if_pos hs] at e
            have hlen : i < σ2.length := by rw [st2.s.len]; exact hi
            have st3 : StS X.K X.mg (some ⟨i, a, dx, fs⟩) w0 w2 (σ2.set i (some (.ref a))) H2 (ρ1.set i .un) S1 := st2.un fun zi e => by
              cases e
              exact ⟨List.getElem?_set_self hlen, zk⟩
            have back : ∀ {σ' H' w' ρ'' S''}, StS X.K X.mg (some ⟨i, a, dx, fs⟩) w0 w' σ' H' ρ'' S'' → StS X.K X.mg none w0 w' (σ'.set i none) H' (ρ''.set i .un) S'' := fun s => s.un fun zi e => nomatch e
            cases q2 : ms c fs (ρ1.set i .un) S1 with
            | none => rw [q2] at e; cases e
            | some y =>
              obtain ⟨f4, ρ4, S4⟩ := y
              rw [q2] at e
              refine ⟨c, fs, ⟨C, rfl, hm⟩, cm, hs, w2, _, S1, st3, f4, ρ4, S4, q2, ?_⟩
              cases f4 with
              | nx => cases e; exact fun σ' H' w' l s => p _ H' w' (l2.trans l) (back s)
              | bk => cases e; exact fun σ' H' w' l s => p _ H' w' (l2.trans l) (back s)
              | ct => cases e; exact fun σ' H' w' l s => p _ H' w' (l2.trans l) (back s)
              | rt d => cases e; exact fun v σ' H' w' l s hd => p v _ H' w' (l2.trans l) (back s) hd
              | er c' fs' => cases e
          · rw [if_neg (by rw [hs]; exact Bool.false_ne_true)] at e
            cases e
            exact p σ2 H2 w2 _ dx l2 st2 ⟨⟨C, rfl, hm⟩, zk⟩
        · cases e
/-! ### the caught error -/
/-- e.f -/
def m_xf (i : Nat) (fs : List (Str × D)) (f : Str) : M D := M.lift fun _ _ => fs.lookup f
theorem pd_xf {i : Nat} {a' C : Addr} {oe : Obj} {d : Option Addr} {pn : List (Addr × Obj)} {n x : Str} {fs : List (Str × D)} {p : Pos} (T : XfC X.K C) (hno : PySem.W.findIn X.K (.ref C) n = some none) (hz : Zc (.ref C) d oe) (hf : ∃ vs, oe.data = .fields vs)
    (he : PE (X.suite a' ((a', oe) :: pn)) (.Name x p) (tVar i)) : PE (X.suite a' ((a', oe) :: pn)) (.Attribute (.Name x p) n pos) (tD X.K X.mg WNo (some ⟨i, a', d, fs⟩) (m_xf i fs n)) :=
  pe_mono (pe_xf T hno hz hf he) fun σ H Q h => by
    obtain ⟨w, ρ, S, h⟩ := h
    obtain ⟨y, e, k⟩ := h.lift
    obtain ⟨e1, zk⟩ := h.s.exc _ rfl
    refine ⟨_, e1, rfl, rfl, ?_⟩
    cases d with
    | none =>
      have zk : fs = [] := zk
      subst zk
      cases e
    | some dd =>
      obtain ⟨vs, g, ek, hd⟩ := zk
      obtain ⟨v, e2, hv⟩ := lookup_dt ek hd e
      exact ⟨dd, vs, v, rfl, h.t.sub _ _ g, e2, k v H w (Grow.refl h.t.sub) (.inl hv)⟩
end
end Pd

/-! isinstance of a caught error that has its dict. -/
namespace Pd
open PySem L2 Evl Hg
open PySem.Spec PyProof.Rows
/-- isinstance(e, c), e the error that the suite holds -/
def rIsX (K : PySem.W.Frag) (D a : Addr) (d : Option Addr) : List V → Hp → VK → Prop := fun xs H Q => ∃ (c : V) (cv : Value) (b : Bool), xs = [.ref a, c] ∧ (∀ u, RelV c u → u = cv) ∧ PySem.W.kitOne K (.ref D) cv = some b ∧ (∀ dd, d = some dd → ∃ fs, H dd = some (.xd fs)) ∧ Q (.bl b) H
theorem call_isX {X : Cx} {a D : Addr} {oe : Obj} {d : Option Addr} {pn : List (Addr × Obj)} (C : ExcC X.K D) (hz : Zc (.ref D) d oe) (hf : ∃ vs, oe.data = .fields vs) : CallR (X.suite a ((a, oe) :: pn)) (.builtin "isinstance") (rIsX X.K D a d) := by
  intro pins s σ H xs us Q I r h
  obtain ⟨c, cv, b, rfl, hcv, e, hd, q⟩ := h
  cases r with
  | cons rx rr =>
    cases rr with
    | cons rt rr =>
      cases rr
      cases rx
      have ec := hcv _ rt
      subst ec
      obtain ⟨hget, _⟩ := I.pin (a, oe) (List.mem_append.mpr (.inl List.mem_cons_self))
      obtain ⟨vs, hv⟩ := hf
      have J : ∃ od, PySem.W.InstAt s.heap a oe D od := by
        obtain ⟨oc, od, oda, osl⟩ := oe
        obtain ⟨h1, h2⟩ := hz
        dsimp only at h1 h2 hv
        subst h1 h2 hv
        cases od with
        | none => exact ⟨none, hget, rfl, rfl, trivial⟩
        | some dd =>
          obtain ⟨fs, ea⟩ := hd dd rfl
          have hx : ObjOk X.prog X.w H s.heap dd (.xd fs) := I.hok dd _ ea
          obtain ⟨mA, hns, hr⟩ := hx
          obtain ⟨od, ho, hl⟩ := lookIn_ns hns
          exact ⟨some od, hget, rfl, rfl, ho⟩
      obtain ⟨od, J⟩ := J
      obtain ⟨cd, hc, _⟩ := PySem.W.any_some C.hd
      exact PySem.W.kia_one (PySem.W.kitx_exc (od := od) (by rw [hc]; rfl) C.hg C.hk C.hs C.ha C.hn C.ht C.hm) I.kIn J e (fun z => nomatch z) fun tk => ⟨.bl b, H, I.kept (t' := tk) fun _ _ z => z, rfl, q⟩
theorem pd_isE {X : Cx} {i : Nat} {a' C Cv : Addr} {oe : Obj} {d : Option Addr} {pn : List (Addr × Obj)} {x cn : Str} {fs : List (Str × D)} {b : Bool} {p p1 p2 pos : Pos} (T : ExcC X.K C) (hz : Zc (.ref C) d oe) (hf : ∃ vs, oe.data = .fields vs)
    (hk : PySem.W.kitOne X.K (.ref C) (.ref Cv) = some b) (hgi : Gl (X.suite a' ((a', oe) :: pn)) "isinstance") (hmi : X.mg "isinstance" = none) (hgc : Gl (X.suite a' ((a', oe) :: pn)) cn) (hmc : X.mg cn = some (.ref Cv))
    (he : PE (X.suite a' ((a', oe) :: pn)) (.Name x p1) (tVar i)) (hdb : (cn == ("__debug__" : Str)) = false := by decide) :
    PE (X.suite a' ((a', oe) :: pn)) (.Call (.Name "isinstance" p) [.Name x p1, .Name cn p2] [] pos) (tD X.K X.mg WNo (some ⟨i, a', d, fs⟩) (m_c (.bl b))) :=
  pe_mono (pe_callB (call_isX T hz hf) hgi hmi (by rfl) (pa_cons he (pa_cons (pe_glob (v := .ref Cv) hgc hmc rfl hdb) pa_nil))) fun σ H Q h => by
    obtain ⟨w, ρ, S, h⟩ := h
    obtain ⟨e1, zk⟩ := h.s.exc _ rfl
    refine ⟨_, e1, ?_⟩
    refine ⟨.ref Cv, .ref Cv, b, rfl, fun u hu => hu, hk, fun dd ed => ?_, h.pure _ (.inl (.bl b))⟩
    subst ed
    obtain ⟨vs, g, _, _⟩ := zk
    exact ⟨vs, h.t.sub _ _ g⟩
end Pd

/-! Own classes: made, their methods. -/
namespace Pd
open PySem L2 Evl Hg
open PySem.Spec PyProof.Rows
section
variable {X : Cx} {W : WX} {z : Option Zi} {w0 : W0} {w w' w1 : Wd} {σ : L2.St} {H H' H1 : Hp} {ρ ρ' : Rho} {S S' S1 : Sto} {K : PySem.W.Frag} {mg : Str → Option Value} {Dn : Ends}
variable {e a b o value : Expr} {es : List Expr} {pos pos' apos cpos p : Pos} {me ma mb mo mk mv : M D} {ms : M (List D)} {st : Stmt} {m : SM}
/-- what a new instance's `__init__` promises -/
def spI (K : PySem.W.Frag) (mg : Str → Option Value) (c : Str) (n : Nat) (F : List D → Sto → Option (R D × Sto)) : Sp := fun vs H2 Q E =>
  ∃ x dx C H w S vs' ds, vs = V.ref x :: vs' ∧ mg c = some (.ref C) ∧ H2 = upd (upd H dx (.own x)) x (.ins C dx []) ∧ H x = none ∧ H dx = none ∧ dx ≠ x ∧ At K mg w H S ∧ DtA K mg w vs' ds ∧ ds.length = n ∧ ∃ r S', F ds S = some (r, S') ∧
    (∀ d, r = .ok d → ∀ H' w', Stp w w' H H' → At K mg w' H' S' → Dt K mg w' (.ref x) d → Q .non H') ∧
    (∀ c fs, r = .er c fs → ∀ H' w' cls dx, Stp w w' H H' → At K mg w' H' S' → Xr K mg w' cls dx c fs → E cls dx H')
def endI (c : Str) (ρ' : Rho) (S' : Sto) : Option (R D × Sto) := match ρ'[0]? with
  | some (Sv.m (Mo.ins c' fs)) => if c' = c then some (.ok (.ins c fs), S') else none
  | _ => none
def runI (c : Str) (n : Nat) (body : SM) : List D → Sto → Option (R D × Sto) := fun ds S =>
  match body (Sv.m (.ins c []) :: (ds.map Sv.d ++ List.replicate (n - (ds.length + 1)) .un)) S with
  | some (.nx, ρ', S') => endI c ρ' S'
  | some (.rt .non, ρ', S') => endI c ρ' S'
  | some (.er c fs, _, S') => some (.er c fs, S')
  | _ => none
theorem new_at {x dx C : Addr} {c : Str} (t : At K mg w H S) (hx : H x = none) (hdx : H dx = none) (hne : dx ≠ x) (hm : mg c = some (.ref C)) :
    At K mg w (L2.upd (L2.upd H dx (.own x)) x (.ins C dx [])) S ∧ Stp w w H (L2.upd (L2.upd H dx (.own x)) x (.ins C dx [])) ∧ w.G x = none ∧ x ∉ w.al := by
  obtain ⟨g1, a1⟩ := t.gone hdx
  obtain ⟨g2, a2⟩ := t.gone hx
  have t1 := t.upd (o := .own x) g1 a1
  have nx : L2.upd H dx (.own x) x = none := by rw [upd_ne (Ne.symm hne)]; exact hx
  exact ⟨t1.upd g2 a2, ((Stp.refl w H).upd hdx).upd hx, g2, a2⟩
theorem new_sl {x dx C : Addr} {c : Str} {N : List Str} {vs : List V} {ds : List D} (t : At K mg w H S) (h : DtA K mg w vs ds) (hx : H x = none) (hdx : H dx = none) (hne : dx ≠ x) (hm : mg c = some (.ref C)) :
    Sl K mg (some ⟨0, x, none, []⟩) w (L2.upd (L2.upd H dx (.own x)) x (.ins C dx [])) (L2.start N (V.ref x :: vs)) (Sv.m (.ins c []) :: (ds.map Sv.d ++ List.replicate (N.length - (ds.length + 1)) .un)) := by
  obtain ⟨t1, x1, g1, a1⟩ := new_at t hx hdx hne hm
  have hl := h.length
  have one : ∀ (i : Nat) (o : Mo), (Sv.m (.ins c []) :: (ds.map Sv.d ++ List.replicate (N.length - (ds.length + 1)) .un))[i]? = some (Sv.m o) → i = 0 ∧ o = .ins c [] := by
    intro i o e
    cases i with
    | zero => cases e; exact ⟨rfl, rfl⟩
    | succ i =>
      rw [List.getElem?_cons_succ] at e
      rcases List.mem_append.mp (List.mem_of_getElem? e) with h | h
      · obtain ⟨_, _, h⟩ := List.mem_map.mp h
        cases h
      · cases (List.mem_replicate.mp h).2
  refine ⟨by simp [L2.start, hl], fun i d e => ?_, fun i o e => ?_, fun i j oi oj a e1 e2 _ _ => ?_, fun zi e => ?_⟩
  · cases i with
    | zero => cases e
    | succ i =>
      rw [List.getElem?_cons_succ] at e
      by_cases hi : i < ds.length
      · rw [List.getElem?_append_left (by simpa using hi), List.getElem?_map] at e
        cases q : ds[i]? with
        | none => rw [q] at e; cases e
        | some d' =>
          rw [q] at e
          cases e
          obtain ⟨v, ev, hv⟩ := h.get q
          refine ⟨v, ?_, hv⟩
          unfold L2.start
          rw [List.getElem?_append_left (by simp [hl, hi]), List.getElem?_map, List.getElem?_cons_succ, ev]
          rfl
      · rw [List.getElem?_append_right (by simpa using hi)] at e
        cases (List.mem_replicate.mp (List.mem_of_getElem? e)).2
  · obtain ⟨rfl, rfl⟩ := one i o e
    exact ⟨x, rfl, g1, a1, C, dx, [], hm, upd_same, rfl, .nil⟩
  · rw [(one i oi e1).1, (one j oj e2).1]
  · cases e
    exact ⟨rfl, rfl⟩
/-- what stands in slot 0 behind `__init__` -/
theorem end_go {x : Addr} {c : Str} {d : D} {R' : R D} (s : StS K mg (some ⟨0, x, none, []⟩) w0 w σ H ρ S) (e : endI c ρ S = some (R', S')) : S' = S ∧ ∃ fs w', R' = .ok (.ins c fs) ∧ Le w w' ∧ Stp w0.w w' w0.h H ∧ At K mg w' H S ∧ Dt K mg w' (.ref x) (.ins c fs) := by
  unfold endI at e
  split at e
  · rename_i c' fs q
    split at e
    · rename_i ec
      subst ec
      cases e
      obtain ⟨w', le, s'⟩ := s.freeze (i := 0)
      have hr : frz1 0 ρ = ρ.set 0 (.d (.ins c' fs)) := by unfold frz1; rw [q]; rfl
      have h0 : (frz1 0 ρ)[0]? = some (Sv.d (.ins c' fs)) := by
        rw [hr]
        exact List.getElem?_set_self (List.getElem?_eq_some_iff.mp q).1
      obtain ⟨v, e1, hd⟩ := s'.s.dat 0 _ h0
      obtain ⟨e2, _⟩ := s'.s.exc _ rfl
      rw [e2] at e1
      cases e1
      exact ⟨rfl, fs, w', rfl, le, s'.st, s'.t, hd⟩
    · cases e
  · cases e
section
variable {P : Program} {wo : World} {base : Heap}
theorem fnI {k : Nat} {f : Addr} {x q c : Str} {fd : FuncData} {N : List Str} {p0 : Str} {ps : List Str} {body : SM}
    (F : Fun K x q st f fd) (Sc : FnScope N (p0 :: ps) (defScope st))
    (hb : ∀ (cdv : Value) (A : Around) (out : List Env) (s : Shared) (H : Hp) (E : XK) (w0 : W0) (a : Addr), Quiet A → Room k (A.deeper (envOfC q (defScope st) s.heap.objs.size f cdv)) →
      PDSs (cxOf (L2.CX P wo) P wo K mg base N q (defScope st) f cdv A out s H E) (WE0 E) (some ⟨0, a, none, []⟩) w0 (defBody st) body) :
    FnG P wo K mg base (L2.CX P wo) (k + 1) f fd (p0 :: ps) (spI K mg c ps.length (runI c N.length body)) := by
  refine fnG F Sc (fun vs H Q E h => ?_) fun cdv A out s H vs Q E qa hr h => ?_
  · obtain ⟨x, dx, C, H0, w, S, vs', ds, rfl, _, _, _, _, _, _, hd, hl, _⟩ := h
    simp [hd.length, hl]
  · obtain ⟨x, dx, C, H0, w, S, vs', ds, rfl, hm, rfl, hx, hdx, hne, t, hd, hl, r, S', e, k1, k2⟩ := h
    refine ⟨_, hb cdv A out s _ E ⟨w, H0⟩ x qa hr, ?_⟩
    obtain ⟨t1, x1, g1, a1⟩ := new_at t hx hdx hne hm
    have sl := new_sl (N := N) t hd hx hdx hne hm
    unfold runI at e
    have st0 : StS K mg (some ⟨0, x, none, []⟩) ⟨w, H0⟩ w (L2.start N (V.ref x :: vs')) (L2.upd (L2.upd H0 dx (.own x)) x (.ins C dx [])) (Sv.m (.ins c []) :: (ds.map Sv.d ++ List.replicate (N.length - (ds.length + 1)) .un)) S := by
      refine ⟨t1, sl, fun i o a e1 e2 => ?_, x1⟩
      obtain ⟨b, f1, f2, f3, f4⟩ := sl.mt i o e1
      rw [f1] at e2
      cases e2
      cases i with
      | zero => cases f1; exact hx
      | succ i =>
        exfalso
        rw [List.getElem?_cons_succ] at e1
        rcases List.mem_append.mp (List.mem_of_getElem? e1) with h | h
        · obtain ⟨_, _, h⟩ := List.mem_map.mp h
          cases h
        · cases (List.mem_replicate.mp h).2
    cases q2 : body (Sv.m (.ins c []) :: (ds.map Sv.d ++ List.replicate (N.length - (ds.length + 1)) .un)) S with
    | none => rw [q2] at e; cases e
    | some y =>
      obtain ⟨fl, ρ1, S1⟩ := y
      rw [q2] at e
      refine ⟨_, _, S, st0, fl, ρ1, S1, q2, ?_⟩
      cases fl with
      | nx =>
        intro σ' H' w' l s'
        obtain ⟨rfl, fs, w2, rfl, _, st2, t2, d2⟩ := end_go (d := .non) s' e
        exact k1 _ rfl H' w2 st2 t2 d2
      | rt d =>
        cases d <;> first | (cases e; done) | skip
        intro v σ' H' w' l s' hd'
        obtain ⟨rfl, fs, w2, rfl, _, st2, t2, d2⟩ := end_go (d := .non) s' e
        cases hd'
        exact k1 _ rfl H' w2 st2 t2 d2
      | er c fs =>
        cases e
        exact fun σ' H' w' cls dx l s' x => k2 c fs rfl H' w' cls dx s'.st s'.t x
      | bk => cases e
      | ct => cases e
end
end
end Pd

/-! C(e, ..), C(k = v, ..) of own classes. -/
namespace Pd
open PySem L2 Evl Hg
open PySem.Spec PyProof.Rows
section
variable {X : Cx} {W : WX} {z : Option Zi} {w0 : W0} {w w' w1 : Wd} {σ : L2.St} {H H' H1 : Hp} {ρ ρ' : Rho} {S S' S1 : Sto} {K : PySem.W.Frag} {mg : Str → Option Value} {Dn : Ends}
variable {e a b o value : Expr} {es : List Expr} {pos pos' apos cpos p : Pos} {me ma mb mo mk mv : M D} {ms : M (List D)} {st : Stmt} {m : SM}
variable {CX : CXT} {k j n : Nat} {f C : Addr} {fd : FuncData} {ps ks : List Str} {sp : Sp} {E : L2.St → XK} {x c : Str} {kws : List Keyword} {t tk : TA} {F : List D → Sto → Option (R D × Sto)}
theorem Quiet.make {A : Around} (g : Quiet A) (C : Addr) (us : List Value) (kw : List (Str × Value)) : Quiet (A.under (.builtin "type.__call__" ⟨.ref C :: us, kw⟩)) := g
/-- what a new instance asks -/
def AskN (C : Addr) (sp : Sp) (E : XK) (Q : VK) (vs : List V) (H : Hp) : Prop := ∀ x dx, H x = none → H dx = none → dx ≠ x → sp (.ref x :: vs) (upd (upd H dx (.own x)) x (.ins C dx [])) (fun v H2 => v = .non ∧ Q (.ref x) H2) E
theorem run_mkG {pins : List (Addr × Obj)} {s : Shared} {Q : VK} {us zs : List Value} {vs : List V} {kw : List (Str × Value)} (M : Mk X.K C f) (F : FnG X.prog X.w X.K X.mg X.base CX k f fd ps sp) (g : Quiet X.A) (hr : Room (k + 1) X.A) (hx : PassesAt CX X σ (E σ))
    (hb : ∀ (s : Shared) (y : Value), X.K.In s.heap → BindsTo s fd ⟨y :: us, kw⟩ (ps.zip (y :: zs))) (I : Inv X pins σ H s) (r : Vals vs zs) (h : AskN C sp (E σ) Q vs H) :
    wpAny (model X.prog X.w) X.A (call (.ref C) us kw) (EP X pins σ Q) X.xe s := by
  have hq := h (s.heap.objs.size + 1) s.heap.objs.size (I.hok.fresh (Nat.le_succ _)) (I.hok.fresh (Nat.le_refl _)) (Nat.ne_of_lt (Nat.lt_succ_self _))
  have I2 := Inv.made (C := C) I
  have r2 : Vals (V.ref (s.heap.objs.size + 1) :: vs) (Value.ref (s.heap.objs.size + 1) :: zs) := .cons rfl r
  refine wpAny_call (make_map (f := f) I.kIn M.makes M.init (beq_iff_eq.mp M.fn) (codeAny_mono (F.go _ X.stack _ _ ⟨Value.ref (s.heap.objs.size + 1) :: us, kw⟩ (Value.ref (s.heap.objs.size + 1) :: zs) _ _ (E σ) (Quiet.make g C us kw) (hr.make C us kw)
    (I2.env0.make C us kw) (hb _ _ I2.kIn) r2 hq) fun r s' hq' => ?_))
  cases r with
  | error e => exact hx pins _ _ e s' I2 hq'
  | ok fl =>
    cases fl with
    | ret u =>
      obtain ⟨v, H', I3, rv, ev, q3⟩ := I2.after hq'
      subst ev
      exact ⟨rv, ⟨V.ref (s.heap.objs.size + 1), H', I3, rfl, q3⟩⟩
    | next => exact False.elim hq'
    | brk => exact False.elim hq'
    | cont => exact False.elim hq'
/-- a class of the module that may be called by its name -/
structure MkG (P : Program) (w : World) (K : PySem.W.Frag) (mg : Str → Option Value) (base : Heap) (CX : CXT) (k : Nat) (c : Str) (ps : List Str) (sp : Sp) : Prop where
  ex : ∃ (C f : Addr) (fd : FuncData) (p0 : Str), Mk K C f ∧ FnG P w K mg base CX k f fd (p0 :: ps) sp ∧ mg c = some (.ref C) ∧ Binds K fd (p0 :: ps) [] ∧ True
theorem pe_mkG (hc : MkG X.prog X.w X.K X.mg X.base CX k c ps sp) (g : Quiet X.A) (hr : Room (j + 1) X.A) (hk : k ≤ j) (hg : Gl X c) (hx : ∀ σ, PassesAt CX X σ (E σ)) (ha : PA X (e :: es) t)
    (hdb : (c == ("__debug__" : Str)) = false := by decide) (he : starEach (e :: es) X.env = (false, eval e X.env) :: starEach es X.env := by rfl) (hpl : (backTo pos (starEach es X.env)).any (·.1) = false := by rfl) :
    PE X (.Call (.Name c p) (e :: es) [] pos) (fun σ H Q => t σ H fun vs H1 => vs.length = ps.length ∧ ∃ C, X.mg c = some (.ref C) ∧ AskN C sp (E σ) Q vs H1) := by
  obtain ⟨C, f, fd, p0, M, F, hm, b, _⟩ := hc.ex
  refine ⟨fun pins s σ H Q I h => wpAny_Call_Name_kw (ld_glob I hg hm ?_ hdb)⟩
  refine PySem.W.callWith_K (h₀ := X.base) I.ok.mod.kin M.kp (thn (ha.run pos pins s σ H _ I h) ?_) he hpl
  rintro us s1 ⟨vs, H1, I1, r, hl, C2, hm2, q⟩
  rw [hm] at hm2
  cases hm2
  refine ⟨I1.kIn, run_mkG (zs := us) M F g (hr.mono (Nat.succ_le_succ hk)) (hx σ) (fun s y hK => ?_) I1 r q⟩
  have := b s (y :: us) hK (by simp [← r.length, hl])
  rw [List.append_nil] at this
  exact this
def pick {α : Type} : List Nat → List α → List α
  | [], _ => []
  | i :: r, l => match l[i]? with
    | some a => a :: pick r l
    | none => pick r l
theorem pick_dt {vs : List V} {ds : List D} (h : DtA K mg w vs ds) : ∀ pm : List Nat, DtA K mg w (pick pm vs) (pick pm ds)
  | [] => .nil
  | i :: r => by
    have ih := pick_dt h r
    simp only [pick]
    cases q : ds[i]? with
    | none =>
      have : vs[i]? = none := by
        rw [List.getElem?_eq_none_iff] at q ⊢
        rw [h.length]
        exact q
      rw [this]
      exact ih
    | some d =>
      obtain ⟨v, e, hv⟩ := h.get q
      rw [e]
      exact .cons hv ih
theorem vals_get : ∀ {vs : List V} {us : List Value} (i : Nat), Vals vs us → (∃ v u, vs[i]? = some v ∧ us[i]? = some u ∧ RelV v u) ∨ (vs[i]? = none ∧ us[i]? = none)
  | _, _, _, .nil => .inr ⟨rfl, rfl⟩
  | _, _, 0, .cons h _ => .inl ⟨_, _, rfl, rfl, h⟩
  | _, _, i + 1, .cons _ hs => by simpa using vals_get i hs
theorem pick_vals {vs : List V} {us : List Value} (h : Vals vs us) : ∀ pm : List Nat, Vals (pick pm vs) (pick pm us)
  | [] => .nil
  | i :: r => by
    have ih := pick_vals h r
    simp only [pick]
    rcases vals_get i h with ⟨v, u, e1, e2, hr⟩ | ⟨e1, e2⟩
    · rw [e1, e2]; exact .cons hr ih
    · rw [e1, e2]; exact ih
/-- .. and all by keywords ks; pm: where each parameter's value stands among them -/
structure MkK (P : Program) (w : World) (K : PySem.W.Frag) (mg : Str → Option Value) (base : Heap) (CX : CXT) (k : Nat) (c : Str) (ps ks : List Str) (pm : List Nat) (sp : Sp) : Prop where
  ex : ∃ (C f : Addr) (fd : FuncData) (p0 : Str), Mk K C f ∧ FnG P w K mg base CX k f fd (p0 :: ps) sp ∧ mg c = some (.ref C) ∧ ∀ (s : Shared) (y : Value) (ws : List Value), K.In s.heap → ws.length = ks.length → BindsTo s fd ⟨[y], ks.zip ws⟩ ((p0 :: ps).zip (y :: pick pm ws))
theorem pe_mkK {pm : List Nat} (hc : MkK X.prog X.w X.K X.mg X.base CX k c ps ks pm sp) (g : Quiet X.A) (hr : Room (j + 1) X.A) (hk : k ≤ j) (hg : Gl X c) (hx : ∀ σ, PassesAt CX X σ (E σ)) (hkw : PK X kws tk)
    (hall : (backToKw pos (keywordEach kws X.env)).all (·.1.isSome) = true := by rfl) (hks : (backToKw pos (keywordEach kws X.env)).filterMap (·.1) = ks := by rfl) (hdb : (c == ("__debug__" : Str)) = false := by decide)
    (hpl : ((backTo pos (starEach [] X.env)).any (·.1) || (backToKw pos (keywordEach kws X.env)).any (·.1.isNone)) = false := by rfl) :
    PE X (.Call (.Name c p) [] kws pos) (fun σ H Q => tk σ H fun zs H1 => zs.length = ks.length ∧ ∃ C, X.mg c = some (.ref C) ∧ AskN C sp (E σ) Q (pick pm zs) H1) := by
  obtain ⟨C, f, fd, p0, M, F, hm, b⟩ := hc.ex
  refine ⟨fun pins s σ H Q I h => ?_⟩
  refine wpAny_Call_Name_kw (ld_glob I hg hm ?_ hdb)
  refine PySem.W.callWith_KW0 (h₀ := X.base) I.ok.mod.kin M.kp hall ?_ hpl
  refine thn (hkw.run pos pins s σ H _ I h) fun ws s2 ⟨zs, H2, I2, rz, hl, C2, hm2, q⟩ => ⟨I2.kIn, ?_⟩
  rw [hm] at hm2
  cases hm2
  rw [hks]
  exact run_mkG (us := []) (zs := pick pm ws) M F g (hr.mono (Nat.succ_le_succ hk)) (hx σ) (fun s y hK => b s y ws hK (by rw [← rz.length, hl])) I2 (pick_vals rz pm) q
/-! ### on data -/
abbrev PDK (X : Cx) (W : WX) (z : Option Zi) (kws : List Keyword) (m : M (List D)) : Prop := PK X kws (tA X.K X.mg W z m)
theorem pk_mono {t t' : TA} (h : PK X kws t) (k : ∀ σ H Q, t' σ H Q → t σ H Q) : PK X kws t' := ⟨fun p pins s σ H Q I w => h.run p pins s σ H Q I (k σ H Q w)⟩
def m_callK (n : Nat) (pm : List Nat) (F : List D → Sto → Option (R D × Sto)) (ms : M (List D)) : M D := ms.bind fun ds _ S => if ds.all fixed = true ∧ ds.length = n then F (pick pm ds) S else none
theorem ask_go {vs : List V} {ds : List D} {r : R D} {Q : VK} {E : XK} (hm : mg c = some (.ref C)) (t : At K mg w H S) (hd : DtA K mg w vs ds) (hl : ds.length = n) (e : F ds S = some (r, S'))
    (k1 : ∀ d, r = .ok d → ∀ v H' w', Stp w w' H H' → At K mg w' H' S' → Dt K mg w' v d → Q v H') (k2 : ∀ c fs, r = .er c fs → ∀ H' w' cls dx, Stp w w' H H' → At K mg w' H' S' → Xr K mg w' cls dx c fs → E cls dx H') :
    AskN C (spI K mg c n F) E Q vs H := by
  intro x dx hx hdx hne
  exact ⟨x, dx, C, H, w, S, vs, ds, rfl, hm, rfl, hx, hdx, hne, t, hd, hl, r, S', e, fun d hr H' w' st t' hd' => ⟨rfl, k1 d hr _ H' w' st t' hd'⟩, k2⟩
theorem mk_go {Q : VK} (hm : mg c = some (.ref C)) (h : tD K mg W z (m_call n F ms) σ H Q) : tA K mg W z ms σ H fun vs H1 => vs.length = n ∧ ∃ C, mg c = some (.ref C) ∧ AskN C (spI K mg c n F) (WE W σ) Q vs H1 := by
  obtain ⟨w, ρ, S, h⟩ := h
  refine ⟨w, ρ, S, h.bind (rel1 := relA K mg σ ρ) fun ds vs w1 H1 S1 st rds h1 => ?_⟩
  obtain ⟨t1, s1, r, S', e, p⟩ := h1
  split at e
  · rename_i cc
    have hd := rds.fix cc.1
    refine ⟨by rw [hd.length]; exact cc.2, C, hm, ask_go hm t1 hd cc.2 e (fun d hr v H' w' st' t' hv => ?_) fun c fs hr H' w' cls dx st' t' x => ?_⟩
    · subst hr
      exact p v H' w' st' t' (.inl hv)
    · subst hr
      exact p H' w' cls dx st' t' x
  · cases e
theorem mkK_go {pm : List Nat} {q : Nat} {Q : VK} (hpm : ∀ ds : List D, ds.length = q → (pick pm ds).length = n) (hm : mg c = some (.ref C)) (h : tD K mg W z (m_callK q pm F ms) σ H Q) : tA K mg W z ms σ H fun zs H1 => zs.length = q ∧ ∃ C, mg c = some (.ref C) ∧ AskN C (spI K mg c n F) (WE W σ) Q (pick pm zs) H1 := by
  obtain ⟨w, ρ, S, h⟩ := h
  refine ⟨w, ρ, S, h.bind (rel1 := relA K mg σ ρ) fun ds vs w1 H1 S1 st rds h1 => ?_⟩
  obtain ⟨t1, s1, r, S', e, p⟩ := h1
  split at e
  · rename_i cc
    have hd := rds.fix cc.1
    refine ⟨by rw [hd.length]; exact cc.2, C, hm, ask_go hm t1 (pick_dt hd pm) (hpm ds cc.2) e (fun d hr v H' w' st' t' hv => ?_) fun c fs hr H' w' cls dx st' t' x => ?_⟩
    · subst hr
      exact p v H' w' st' t' (.inl hv)
    · subst hr
      exact p H' w' cls dx st' t' x
  · cases e
theorem pd_make (hc : MkG X.prog X.w X.K X.mg X.base (L2.CX X.prog X.w) k c ps (spI X.K X.mg c n F)) (hn : ps.length = n) (g : Quiet X.A) (hr : Room (j + 1) X.A) (hk : k ≤ j) (hg : Gl X c) (tk : Takes X W) (ha : PDA X W z (e :: es) ms)
    (hdb : (c == ("__debug__" : Str)) = false := by decide) (he : starEach (e :: es) X.env = (false, eval e X.env) :: starEach es X.env := by rfl) (hpl : (backTo pos (starEach es X.env)).any (·.1) = false := by rfl) :
    PD X W z (.Call (.Name c p) (e :: es) [] pos) (m_call n F ms) :=
  pe_mono (pe_mkG (E := WE W) hc g hr hk hg (fun σ => passAt tk σ) ha hdb he hpl) fun σ H Q h => by
    obtain ⟨C, f, fd, p0, M, F, hm, b, _⟩ := hc.ex
    rw [hn]
    exact mk_go hm h
theorem pd_makeK {pm : List Nat} (hc : MkK X.prog X.w X.K X.mg X.base (L2.CX X.prog X.w) k c ps ks pm (spI X.K X.mg c n F)) (hpm : ∀ ds : List D, ds.length = ks.length → (pick pm ds).length = n) (g : Quiet X.A) (hr : Room (j + 1) X.A) (hk : k ≤ j) (hg : Gl X c) (tk : Takes X W) (hkw : PDK X W z kws ms)
    (hall : (backToKw pos (keywordEach kws X.env)).all (·.1.isSome) = true := by rfl) (hks : (backToKw pos (keywordEach kws X.env)).filterMap (·.1) = ks := by rfl) (hdb : (c == ("__debug__" : Str)) = false := by decide)
    (hpl : ((backTo pos (starEach [] X.env)).any (·.1) || (backToKw pos (keywordEach kws X.env)).any (·.1.isNone)) = false := by rfl) :
    PD X W z (.Call (.Name c p) [] kws pos) (m_callK ks.length pm F ms) :=
  pe_mono (pe_mkK (E := WE W) hc g hr hk hg (fun σ => passAt tk σ) hkw hall hks hdb hpl) fun σ H Q h => by
    obtain ⟨C, f, fd, p0, M, F, hm, b⟩ := hc.ex
    exact mkK_go hpm hm h
end
end Pd

/-! == and != by an own `__eq__`, whatever stands on the right. -/
namespace PySem.W
open PySem PySem.Spec PySem.Calls PyProof.Rows Builtin
section
variable {prog : Program} {w : World} {A : Around} {E : Value → Shared → Prop} {s : Shared} {K : Frag} {x C L f : Addr} {h₀ : Heap} {m : Str → Option Value} {ox : Obj} {od : Option Obj} {name : Str} {b tb : Value}
theorem ifBound_B {M : Model} {id : String} {args : List Value} {Q : Option Value → Shared → Prop} (X : K.In s.heap) (I : InstAt s.heap x ox C od) (hs : findIn K (.ref C) name = some (some (.builtin id))) (hb : ∀ self, bindSpecial (.builtin id) self = pure (.builtin id, [self]))
    (h : wpAny M A (call (.builtin id) (.ref x :: args)) (fun v => Q (some v)) E s) : wpAny M A (callSpecialIfBound? (.ref x) name args) Q E s := by
  simp only [callSpecialIfBound?, bindSpecialIfBound?]
  refine wpAny_holding (wpAny_bind (wpAny_bind (wpAny_bind (I.type.here ((looks_findIn X hs).here ?_)))))
  simp only [hb]
  refine wpAny_bind (wpAny_askSetting (wpAny_ite ?_))
  have fin : wpAny M A (call (.builtin id) ([.ref x] ++ args) >>= fun v => pure (some v)) Q E s := wpAny_bind (wpAny_mono h (fun v s' h' => wpAny_pure h') fun _ _ h' => h')
  split
  · exact wpAny_bind (wpAny_pure (wpAny_pure (by exact fin)))
  · exact wpAny_tryCatch (wpAny_bind (wpAny_pure (wpAny_pure (by exact fin))))
theorem ne_entryK (X : K.In s.heap) (I : InstAt s.heap x ox C od) (he : findIn K (.ref C) "__eq__" = some (some (.ref f))) (hf : isFn K (.ref f) = true) (hu : A.units < cLine) {Q : Fin → Shared → Prop}
    (hcall : wpAny (model prog w) A (call (.ref f) [.ref x, b]) (fun v s' => ∃ k, v = .bool k ∧ Q (.done (.ret (.bool (!k)))) s') E s) :
    wpAny (model prog w) A (Builtin.«object.__ne__» ⟨[.ref x, b], []⟩) Q E s := by
  have hcb : wpAny (model prog w) A (callSpecialIfBound? (.ref x) (Str.ofString "__eq__") [b]) (fun r s' => ∃ k, r = some (.bool k) ∧ Q (.done (.ret (.bool (!k)))) s') E s :=
    ifBound_K X I he hf (wpAny_mono hcall (fun v s' hv => by obtain ⟨k, rfl, q⟩ := hv; exact ⟨k, rfl, q⟩) fun _ _ e => e)
  obtain ⟨hp, g, d, t, os⟩ := s
  unfold Builtin.«object.__ne__»
  repeat (first
    | with_reducible refine wpAny_cRoomFor hu ?_
    | (refine wpAny_bind (m := callSpecialIfBound? (.ref x) (Str.ofString "__eq__") [b]) (wpAny_mono hcb (fun r s' hr => by
          obtain ⟨k, rfl, hq⟩ := hr
          repeat (first | exact hq | exact wpAny_pure hq | exact wpAny_truthy_bool hq | (refine wpAny_bind (m := truthy (.bool _)) (wpAny_truthy_bool ?_)) | wp_step)) fun _ _ e => e))
    | wp_step)
theorem ne_K {Q : Value → Shared → Prop} (hu : A.units + 1 < cLine) (FR : Fr h₀ L s.heap m) (X₀ : K.In h₀) (I : InstAt s.heap x ox C od) (hb : Looks (model prog w) s.heap (typeOf b) tb) (hn : notFirst K C tb = true)
    (hne : findIn K (.ref C) "__ne__" = some (some (.builtin "object.__ne__"))) (he : findIn K (.ref C) "__eq__" = some (some (.ref f))) (hf : isFn K (.ref f) = true) (hsub : subIn K (.ref C) (.type "object") = some true)
    (h : wpAny (model prog w) A.in1 (call (.ref f) [.ref x, b]) (fun v s' => ∃ k, v = .bool k ∧ Q (.bool (!k)) s') E s) : wpAny (model prog w) A (richCompare .NotEq (.ref x) b) Q E s := by
  have X := X₀.keeps FR.keep
  have one : wpAny (model prog w) A (tryCompare (.ref x) "__ne__" b) (fun r s' => ∃ v, r = some v ∧ Q v s') E s := by
    simp only [tryCompare]
    have L0 := I.type (M := model prog w)
    have sub : Looks (model prog w) s.heap (isInstance (.ref x) (.type "object")) true := L0.andThen (looks_subIn X hsub)
    refine wpAny_bind (ifBound_B X I hne (F.cmp_object.ne.bind) (wpAny_call (codeAny_call_builtin F.cmp_object.ne.plain F.cmpEntry_ne
      (check_slot F.cmpKind_ne F.cmpSplit_ne sub (F.cmpArgs_ne _ _) (ne_entryK (A := A.in1) X I he hf hu (wpAny_mono h (fun v s' hv => ?_) fun _ _ e => e))))))
    obtain ⟨k, rfl, hq⟩ := hv
    first | exact ⟨k, rfl, wpAny_pure ⟨_, rfl, hq⟩⟩ | exact ⟨k, rfl, wpAny_pure (wpAny_pure ⟨_, rfl, hq⟩)⟩
  unfold richCompare
  simp only [oneThing_ref]
  refine wpAny_holding (wpAny_bind (wpAny_cRoomFor (Nat.lt_of_succ_lt hu) ?_))
  rw [cmpInfo_NotEq]
  dsimp only
  refine wpAny_bind (I.type.here (wpAny_bind (hb.here ?_)))
  split
  · rename_i q
    have e : subIn K tb (.ref C) = some false := by
      rcases Bool.or_eq_true_iff.mp hn with e | e
      · rw [beq_iff_eq.mp e] at q; simp at q
      · exact beq_iff_eq.mp e
    refine wpAny_bind ((looks_subIn X e).here ?_)
    simp only [Bool.false_eq_true, if_false]
    refine wpAny_bind (wpAny_mono one (fun r s' z => ?_) fun _ _ e => e)
    obtain ⟨v, rfl, hq⟩ := z
    exact wpAny_pure hq
  · refine wpAny_bind (wpAny_pure ?_)
    simp only [Bool.false_eq_true, if_false]
    refine wpAny_bind (wpAny_mono one (fun r s' z => ?_) fun _ _ e => e)
    obtain ⟨v, rfl, hq⟩ := z
    exact wpAny_pure hq
end
end PySem.W

namespace Pd
open PySem L2 Evl Hg
open PySem.Spec PyProof.Rows
section
variable {X : Cx} {W : WX} {z : Option Zi} {w0 : W0} {w w' w1 : Wd} {σ : L2.St} {H H' H1 : Hp} {ρ ρ' : Rho} {S S' S1 : Sto} {K : PySem.W.Frag} {mg : Str → Option Value} {Dn : Ends}
variable {e a b o value : Expr} {es : List Expr} {pos pos' apos cpos p : Pos} {me ma mb mo mk mv : M D} {ms : M (List D)} {st : Stmt} {m : SM}
variable {CX : CXT} {k j n : Nat} {f C : Addr} {fd : FuncData} {ps ks : List Str} {sp : Sp} {E : XK} {x c : Str} {F : List D → Sto → Option (R D × Sto)}
theorem Quiet.in1 {A : Around} (g : Quiet A) : Quiet A.in1 := g
/-- a call below the running body -/
theorem run_below {A : Around} {pins : List (Addr × Obj)} {s : Shared} {Q : VK} {us : List Value} {vs : List V} (hA : A.frames = X.A.frames) (F : FnG X.prog X.w X.K X.mg X.base CX k f fd ps sp) (g : Quiet A) (hr : Room k A) (hb : Binds X.K fd ps []) (hx : Passes CX X E)
    (I : Inv X pins σ H s) (r : Vals vs us) (h : sp vs H Q E) : wpAny (model X.prog X.w) A (call (.ref f) us) (EP X pins σ Q) X.xe s := by
  have hl : (us ++ []).length = ps.length := by rw [List.append_nil, ← r.length]; exact F.len vs H Q E h
  have b := hb s us I.kIn hl
  rw [List.append_nil] at b
  have e0 : Env0 X.prog X.w X.K X.mg X.base A X.stack s H := by
    have e := I.env0
    exact ⟨by rw [hA]; exact e.frames, e.mod, e.bs, e.bsz, e.funs, e.frf, e.hok, e.bare⟩
  refine wpAny_call (codeAny_mono (F.go A X.stack s H ⟨us, []⟩ us vs Q E g hr e0 b r h) ?_)
  intro res s' hq
  match res, hq with
  | .error er, hq => exact hx pins σ H s er s' I hq
  | .ok (.ret u), hq => exact I.after hq
  | .ok .next, hq => exact hq.elim
  | .ok .brk, hq => exact hq.elim
  | .ok .cont, hq => exact hq.elim
/-- a class with an own `__eq__` -/
structure OwnQ (P : Program) (w : World) (K : PySem.W.Frag) (mg : Str → Option Value) (base : Heap) (CX : CXT) (k : Nat) (c : Str) (sp : Sp) : Prop where
  ex : ∃ (C f : Addr) (fd : FuncData) (ps : List Str), FnG P w K mg base CX k f fd ps sp ∧ mg c = some (.ref C) ∧ Binds K fd ps [] ∧ PySem.W.findIn K (.ref C) "__eq__" = some (some (.ref f)) ∧ PySem.W.isFn K (.ref f) = true
  ne : ∀ C, mg c = some (.ref C) → PySem.W.findIn K (.ref C) "__ne__" = some (some (.builtin "object.__ne__")) ∧ PySem.W.subIn K (.ref C) (.type "object") = some true
/-- on values -/
def rOwn (X : Cx) (c : Str) (sp : Sp) (ng : Bool → Bool) : R2 := fun x y H Q => ∃ (a C dx : Addr) (fs : List (Str × V)) (t : Value), x = .ref a ∧ X.mg c = some (.ref C) ∧ H a = some (.ins C dx fs) ∧ TyX X.K H y t ∧ PySem.W.notFirst X.K C t = true ∧
  sp [.ref a, y] H (fun v H' => ∃ b, v = .bl b ∧ Q (.bl (ng b)) H') (fun _ _ _ => False)
theorem op_own (ho : OwnQ X.prog X.w X.K X.mg X.base CX k c sp) (g : Quiet X.A) (hr : Room j X.A) (hk : k ≤ j) (hx : Passes CX X (fun _ _ _ => False)) : OpR X (compareOp .Eq) (rOwn X c sp fun b => b) := by
  intro pins s σ H x y v u Q I rx ry hq
  obtain ⟨a, C, dx, fs, t, rfl, hm, ha, ty, hn, h⟩ := hq
  obtain ⟨C2, f, fd, ps, F, hm2, hb, he, hf⟩ := ho.ex
  rw [hm] at hm2
  cases hm2
  obtain rfl : v = Value.ref a := rx
  obtain ⟨P, kt, hp, _⟩ := kit_of I ry ty
  obtain ⟨mA, J, _⟩ := ins_get I.hok ha
  obtain ⟨od, J, _⟩ := J.look
  obtain ⟨m, hF⟩ := I.fr
  show wpAny (model X.prog X.w) X.A (richCompare .Eq (.ref a) u) (EP X pins σ Q) X.xe s
  refine PySem.W.cmp_K (op := .Eq) (tb := t) hr.units0 hF I.ok.mod.kin J (kt.ty _ _ I.kIn hp) hn he hf ?_
  refine wpAny_mono (run_below (us := [.ref a, u]) (vs := [.ref a, y]) rfl F g (hr.mono hk) hb hx I (.cons rfl (.cons ry .nil)) h) (fun r s' q => ?_) fun _ _ e => e
  obtain ⟨v, H', I', rv, b, rfl, q⟩ := q
  cases rv
  exact ⟨.bl b, H', I', rfl, q⟩
theorem op_ownN (ho : OwnQ X.prog X.w X.K X.mg X.base CX k c sp) (g : Quiet X.A) (hr : Room (j + 1) X.A) (hk : k ≤ j) (hx : Passes CX X (fun _ _ _ => False)) : OpR X (compareOp .NotEq) (rOwn X c sp fun b => !b) := by
  intro pins s σ H x y v u Q I rx ry hq
  obtain ⟨a, C, dx, fs, t, rfl, hm, ha, ty, hn, h⟩ := hq
  obtain ⟨C2, f, fd, ps, F, hm2, hb, he, hf⟩ := ho.ex
  rw [hm] at hm2
  cases hm2
  obtain ⟨hne, hsub⟩ := ho.ne C hm
  obtain rfl : v = Value.ref a := rx
  obtain ⟨P, kt, hp, _⟩ := kit_of I ry ty
  obtain ⟨mA, J, _⟩ := ins_get I.hok ha
  obtain ⟨od, J, _⟩ := J.look
  obtain ⟨m, hF⟩ := I.fr
  show wpAny (model X.prog X.w) X.A (richCompare .NotEq (.ref a) u) (EP X pins σ Q) X.xe s
  refine PySem.W.ne_K (tb := t) (by have := hr.un; omega) hF I.ok.mod.kin J (kt.ty _ _ I.kIn hp) hn hne he hf hsub ?_
  refine wpAny_mono (run_below (A := X.A.in1) (us := [.ref a, u]) (vs := [.ref a, y]) rfl F (Quiet.in1 g) (hr.in1.mono hk) hb hx I (.cons rfl (.cons ry .nil)) h) (fun r s' q => ?_) fun _ _ e => e
  obtain ⟨v, H', I', rv, b, rfl, q⟩ := q
  cases rv
  exact ⟨b, rfl, .bl (!b), H', I', rfl, q⟩
end
end Pd

/-! == and != of own classes, on data; isinstance of own classes; len by an own `__len__`; methods. -/
namespace Pd
open PySem L2 Evl Hg
open PySem.Spec PyProof.Rows
section
variable {X : Cx} {W : WX} {z : Option Zi} {w0 : W0} {w w' w1 : Wd} {σ : L2.St} {H H' H1 : Hp} {ρ ρ' : Rho} {S S' S1 : Sto} {K : PySem.W.Frag} {mg : Str → Option Value} {Dn : Ends}
variable {e a b o value : Expr} {es : List Expr} {pos pos' apos cpos p : Pos} {me ma mb mo mk mv : M D} {ms : M (List D)} {st : Stmt} {m : SM}
variable {CX : CXT} {k j n : Nat} {f C : Addr} {fd : FuncData} {ps ks cs : List Str} {sp : Sp} {E : XK} {x c : Str} {F : List D → Sto → Option (R D × Sto)}
abbrev tyNs : List String := ["NoneType", "bool", "int", "str", "tuple", "list", "dict"]
theorem tyN_mem {d : D} {n : String} (e : tyN d = some n) : n ∈ tyNs := by
  cases d <;> first | (exfalso; simp [tyN] at e; done) | (cases e; simp)
/-- what the own classes of the text must have -/
structure Clss (K : PySem.W.Frag) (mg : Str → Option Value) (cs : List Str) : Prop where
  ins : ∀ c ∈ cs, ∀ C, mg c = some (.ref C) → C8.InsC K C
  ty : ∀ c ∈ cs, ∀ C, mg c = some (.ref C) → ∀ n ∈ tyNs, PySem.W.notFirst K C (.type n) = true ∧ PySem.W.kitOne K (.type n) (.ref C) = some false
  own : ∀ c ∈ cs, ∀ C, mg c = some (.ref C) → ∀ c' ∈ cs, ∀ C', mg c' = some (.ref C') → PySem.W.notFirst K C (.ref C') = true ∧ PySem.W.kitOne K (.ref C') (.ref C) = some (decide (c' = c))
def insIn (cs : List Str) : D → Bool
  | .ins c _ => decide (c ∈ cs)
  | _ => false
def tyOk (cs : List Str) (d : D) : Bool := (tyN d).isSome || insIn cs d
theorem ty_any {v : V} {d : D} (T : Clss K mg cs) (s : Ex w.G H) (h : Rs K mg w H v d) (e : tyOk cs d = true) : ∃ t, TyX K H v t ∧ ((∃ n, tyN d = some n ∧ t = .type n) ∨ ∃ c C fs, d = .ins c fs ∧ c ∈ cs ∧ mg c = some (.ref C) ∧ t = .ref C) := by
  cases q : tyN d with
  | some n => exact ⟨_, tyN_ok s h q, .inl ⟨n, rfl, rfl⟩⟩
  | none =>
    rw [tyOk, q, Option.isSome_none, Bool.false_or] at e
    cases d <;> first | (exfalso; simp [insIn] at e; done) | skip
    rename_i c fs
    have cm : c ∈ cs := of_decide_eq_true e
    obtain ⟨a, C, dx, vs, rfl, hm, ha, _⟩ := h
    have i := T.ins c cm C hm
    exact ⟨.ref C, .base (.ins ha i.cl i.ha i.hn i.htk i.hm), .inr ⟨c, C, fs, rfl, cm, hm, rfl⟩⟩
def m_eqO (c : Str) (cs : List Str) (F : List D → Sto → Option (R D × Sto)) (ng : Bool → Bool) (ma mb : M D) : M D := ma.bind fun a => mb.bind fun b _ S => match a with
  | .ins c' _ => if c' = c ∧ fixed b = true ∧ tyOk cs b = true then match F [a, b] S with
    | some (.ok (.bl k), S') => some (.ok (.bl (ng k)), S')
    | _ => none
    else none
  | _ => none
theorem rs_dt {v : V} {d : D} (t : At K mg w H S) (h : Dt K mg w v d) (f : fixed d = true) (ty : tyOk cs d = true) : Rs K mg w H v d := by
  refine Rs.of_dt t.sub h fun k e => ?_
  subst e
  simp [tyOk, tyN, insIn] at ty
theorem eqO_go {ng : Bool → Bool} (T : Clss X.K X.mg cs) (hc : c ∈ cs) {Q : VK} (h : tD X.K X.mg W z (m_eqO c cs F ng ma mb) σ H Q) : tOp (rOwn X c (spD X.K X.mg 2 F) ng) (tD X.K X.mg W z ma) (tD X.K X.mg W z mb) σ H Q := by
  obtain ⟨w, ρ, S, h⟩ := h
  refine ⟨w, ρ, S, h.bind fun a v w1 H1 S1 st1 ra h1 => ⟨w1, ρ, S1, h1.bind fun b u w2 H2 S2 st2 rb h2 => ?_⟩⟩
  obtain ⟨t2, s2, r, S', e, p⟩ := h2
  have ra' : Rr X.K X.mg w2 σ ρ v a := Rr.mono st2.le ra
  cases a <;> first | (exfalso; simp at e; done) | skip
  rename_i c' fs
  dsimp only at e
  split at e
  · rename_i cc
    obtain ⟨rfl, fb, tb⟩ := cc
    split at e
    · rename_i q S3 q2
      cases e
      have da : Dt X.K X.mg w2 v (.ins c' fs) := ra'.dt rfl
      have db : Dt X.K X.mg w2 u b := rb.dt fb
      obtain ⟨t, ty, tt⟩ := ty_any T t2.sub (rs_dt t2 db fb tb) tb
      obtain ⟨aa, C, dx, vs, rfl, hm, ha, _⟩ := Rs.of_dt t2.sub da (fun k z => nomatch z)
      have nf : PySem.W.notFirst X.K C t = true := by
        rcases tt with ⟨n, q1, rfl⟩ | ⟨c2, C2, fs2, _, hc2, hm2, rfl⟩
        · exact (T.ty c' hc C hm n (tyN_mem q1)).1
        · exact (T.own c' hc C hm c2 hc2 C2 hm2).1
      refine ⟨aa, C, dx, vs, t, rfl, hm, ha, ty, nf, w2, S2, [.ins c' fs, b], t2, .cons da (.cons db .nil), rfl, _, _, q2, fun d hd v' H' w' st' t' hv => ?_, fun _ _ z => nomatch z⟩
      cases hd
      cases hv
      exact ⟨_, rfl, p _ H' w' st' t' (.inl (.bl _))⟩
    · cases e
  · cases e
theorem pass_no (tk : Takes X W) : Passes (L2.CX X.prog X.w) X (fun _ _ _ => False) := passes_call tk fun _ _ _ _ h => h.elim
theorem pd_eqO (T : Clss X.K X.mg cs) (hc : c ∈ cs) (ho : OwnQ X.prog X.w X.K X.mg X.base (L2.CX X.prog X.w) k c (spD X.K X.mg 2 F)) (g : Quiet X.A) (hr : Room j X.A) (hk : k ≤ j) (tk : Takes X W) (ha : PD X W z a ma) (hb : PD X W z b mb) (hm : behindInMarks .Eq b = false := by with_unfolding_all rfl) :
    PD X W z (.Compare a [.Eq] [b] pos) (m_eqO c cs F (fun b => b) ma mb) := pe_mono (pe_cmpR (op_own ho g hr hk (pass_no tk)) ha hb hm) fun _ _ _ h => eqO_go T hc h
theorem pd_neO (T : Clss X.K X.mg cs) (hc : c ∈ cs) (ho : OwnQ X.prog X.w X.K X.mg X.base (L2.CX X.prog X.w) k c (spD X.K X.mg 2 F)) (g : Quiet X.A) (hr : Room (j + 1) X.A) (hk : k ≤ j) (tk : Takes X W) (ha : PD X W z a ma) (hb : PD X W z b mb) (hm : behindInMarks .NotEq b = false := by with_unfolding_all rfl) :
    PD X W z (.Compare a [.NotEq] [b] pos) (m_eqO c cs F (fun b => !b) ma mb) := pe_mono (pe_cmpR (op_ownN ho g hr hk (pass_no tk)) ha hb hm) fun _ _ _ h => eqO_go T hc h
theorem pdt_eqO (T : Clss X.K X.mg cs) (hc : c ∈ cs) (ho : OwnQ X.prog X.w X.K X.mg X.base (L2.CX X.prog X.w) k c (spD X.K X.mg 2 F)) (g : Quiet X.A) (hr : Room j X.A) (hk : k ≤ j) (tk : Takes X W) (ha : PD X W z a ma) (hb : PD X W z b mb) (hm : behindInMarks .Eq b = false := by with_unfolding_all rfl) :
    PDT X W z (.Compare a [.Eq] [b] pos) (m_isT (m_eqO c cs F (fun b => b) ma mb)) := pt_mono (pt_cmpR (op_own ho g hr hk (pass_no tk)) ha hb hm) fun _ _ _ h => eqO_go T hc (test_go h)
theorem pdt_neO (T : Clss X.K X.mg cs) (hc : c ∈ cs) (ho : OwnQ X.prog X.w X.K X.mg X.base (L2.CX X.prog X.w) k c (spD X.K X.mg 2 F)) (g : Quiet X.A) (hr : Room (j + 1) X.A) (hk : k ≤ j) (tk : Takes X W) (ha : PD X W z a ma) (hb : PD X W z b mb) (hm : behindInMarks .NotEq b = false := by with_unfolding_all rfl) :
    PDT X W z (.Compare a [.NotEq] [b] pos) (m_isT (m_eqO c cs F (fun b => !b) ma mb)) := pt_mono (pt_cmpR (op_ownN ho g hr hk (pass_no tk)) ha hb hm) fun _ _ _ h => eqO_go T hc (test_go h)
/-! ### isinstance(e, C) -/
def isO (c : Str) (cs : List Str) (d : D) : Option Bool := match d with
  | .ins c' _ => if c' ∈ cs then some (decide (c' = c)) else none
  | d => (tyN d).map fun _ => false
def m_isO (c : Str) (cs : List Str) (m : M D) : M D := m.bind fun d => M.lift fun ρ S => ((rsv ρ S d).bind (isO c cs)).map D.bl
theorem pd_isO {p2 : Pos} (T : Clss X.K X.mg cs) (hc : c ∈ cs) (hmc : X.mg c = some (.ref C)) (hg : Gl X "isinstance") (hm : X.mg "isinstance" = none) (hgc : Gl X c) (he : PD X W z e me) (hdb : (c == ("__debug__" : Str)) = false := by decide)
    (h1 : starEach [e, .Name c p2] X.env = (false, eval e X.env) :: starEach [.Name c p2] X.env := by rfl) (h2 : starEach [.Name c p2] X.env = (false, eval (.Name c p2) X.env) :: starEach [] X.env := by rfl)
    (hpl : (backTo pos (starEach [.Name c p2] X.env)).any (·.1) = false := by rfl) : PD X W z (.Call (.Name "isinstance" p) [e, .Name c p2] [] pos) (m_isO c cs me) :=
  pe_mono (pe_callB call_isi hg hm (by decide +kernel) (pa_cons he (pa_cons (pe_glob (v := .ref C) hgc hmc rfl hdb) pa_nil h2) h1) (by decide) (by decide) h1 hpl) fun σ H Q h => by
    obtain ⟨w, ρ, S, h⟩ := h
    refine ⟨w, ρ, S, h.bind fun d v w1 H1 S1 st rd h1 => ?_⟩
    obtain ⟨y, e, kk⟩ := h1.lift
    cases q1 : rsv ρ S1 d with
    | none => rw [q1] at e; cases e
    | some d' =>
      rw [q1] at e
      have rs := Rs.of h1.t h1.s rd q1
      cases q2 : isO c cs d' with
      | none => rw [Option.bind_some, q2] at e; cases e
      | some r =>
        rw [Option.bind_some, q2] at e
        cases e
        have ok : tyOk cs d' = true := by
          unfold isO at q2
          split at q2
          · rename_i c' fs
            split at q2
            · simp [tyOk, insIn, *]
            · cases q2
          · cases q3 : tyN d' with
            | none => rw [q3] at q2; cases q2
            | some n => simp [tyOk, q3]
        obtain ⟨t, ty, tt⟩ := ty_any T h1.t.sub rs ok
        have kt : PySem.W.kitOne X.K t (.ref C) = some r := by
          rcases tt with ⟨n, q3, rfl⟩ | ⟨c2, C2, fs2, rfl, hc2, hm2, rfl⟩
          · rw [(T.ty c hc C hmc n (tyN_mem q3)).2]
            cases d' <;> first | (exfalso; simp [tyN] at q3; done) | (simp [isO, tyN] at q2; rw [q2])
          · rw [(T.own c hc C hmc c2 hc2 C2 hm2).2]
            simp only [isO, hc2, if_true] at q2
            exact q2
        exact ⟨v, .ref C, _, _, r, rfl, .own C, ty, kt, kk _ H1 w1 (Grow.refl h1.t.sub) (.inl (.bl r))⟩
end
end Pd

/-! len by an own `__len__`; methods of own classes. -/
namespace Pd
open PySem L2 Evl Hg
open PySem.Spec PyProof.Rows
section
variable {X : Cx} {W : WX} {z : Option Zi} {w0 : W0} {w w' w1 : Wd} {σ : L2.St} {H H' H1 : Hp} {ρ ρ' : Rho} {S S' S1 : Sto} {K : PySem.W.Frag} {mg : Str → Option Value} {Dn : Ends}
variable {e a b o value : Expr} {es : List Expr} {pos pos' apos cpos p : Pos} {me ma mb mo mk mv : M D} {ms : M (List D)} {st : Stmt} {m : SM}
variable {CX : CXT} {k j n : Nat} {f C : Addr} {fd : FuncData} {ps ks cs : List Str} {sp : Sp} {E : XK} {x c mn : Str} {F : List D → Sto → Option (R D × Sto)}
/-- a class whose method mn is an own def -/
structure OwnM (P : Program) (w : World) (K : PySem.W.Frag) (mg : Str → Option Value) (base : Heap) (CX : CXT) (k : Nat) (c mn : Str) (sp : Sp) : Prop where
  ex : ∃ (C f : Addr) (fd : FuncData) (ps : List Str), FnG P w K mg base CX k f fd ps sp ∧ mg c = some (.ref C) ∧ Binds K fd ps [] ∧ Meth K C mn f ∧ Cls K C
def rLenO (X : Cx) (c : Str) (sp : Sp) : List V → Hp → VK → Prop := fun xs H Q => ∃ (a C dx : Addr) (fs : List (Str × V)), xs = [.ref a] ∧ X.mg c = some (.ref C) ∧ H a = some (.ins C dx fs) ∧ sp [.ref a] H (fun v H' => ∃ n : Int, v = .int n ∧ 0 ≤ n ∧ n < 2 ^ 63 ∧ Q (.int n) H') (fun _ _ _ => False)
theorem call_lenO (ho : OwnM X.prog X.w X.K X.mg X.base CX k c "__len__" sp) (g : Quiet X.A) (hr : Room (j + 1) X.A) (hk : k ≤ j) (hx : Passes CX X (fun _ _ _ => False)) : CallR X (.builtin "len") (rLenO X c sp) := by
  intro pins s σ H xs us Q I r hq
  obtain ⟨a, C, dx, fs, rfl, hm, ha, h⟩ := hq
  obtain ⟨C2, f, fd, ps, F, hm2, hb, M, _⟩ := ho.ex
  rw [hm] at hm2
  cases hm2
  cases r with
  | cons rx rr =>
    cases rr
    cases rx
    obtain ⟨mA, J, _⟩ := ins_get I.hok ha
    obtain ⟨od, J, _⟩ := J.look
    obtain ⟨m, hF⟩ := I.fr
    refine PySem.W.len_K hF I.ok.mod.kin J M.at_ M.fn ?_
    refine wpAny_mono (run_below (A := X.A.in1) (us := [.ref a]) (vs := [.ref a]) rfl F (Quiet.in1 g) (hr.in1.mono hk) hb hx I (.cons rfl .nil) h) (fun r s' q => ?_) fun _ _ e => e
    obtain ⟨v, H', I', rv, n, rfl, h0, h1, q⟩ := q
    obtain ⟨t, rfl⟩ := rv
    exact ⟨⟨h0, h1⟩, .int n, H', I'.tok _, ⟨_, rfl⟩, q⟩
def m_lenO (c : Str) (F : List D → Sto → Option (R D × Sto)) (m : M D) : M D := m.bind fun d _ S => match d with
  | .ins c' _ => if c' = c then match F [d] S with
    | some (.ok (.int n), S') => if 0 ≤ n ∧ n < 2 ^ 63 then some (.ok (.int n), S') else none
    | _ => none
    else none
  | _ => none
theorem pd_lenO (ho : OwnM X.prog X.w X.K X.mg X.base (L2.CX X.prog X.w) k c "__len__" (spD X.K X.mg 1 F)) (g : Quiet X.A) (hr : Room (j + 1) X.A) (hk : k ≤ j) (tk : Takes X W) (hg : Gl X "len") (hm : X.mg "len" = none) (he : PD X W z e me)
    (h1 : starEach [e] X.env = (false, eval e X.env) :: starEach [] X.env := by rfl) (hpl : (backTo pos (starEach [] X.env)).any (·.1) = false := by rfl) : PD X W z (.Call (.Name "len" p) [e] [] pos) (m_lenO c F me) :=
  pe_mono (pe_callB (call_lenO ho g hr hk (pass_no tk)) hg hm (by decide +kernel) (pa_cons he pa_nil h1) (by decide) (by decide) h1 hpl) fun σ H Q h => by
    obtain ⟨w, ρ, S, h⟩ := h
    refine ⟨w, ρ, S, h.bind fun d v w1 H1 S1 st rd h1 => ?_⟩
    obtain ⟨t2, s2, r, S', e, p⟩ := h1
    cases d <;> first | (exfalso; simp at e; done) | skip
    rename_i c' fs
    dsimp only at e
    split at e
    · rename_i cc
      subst cc
      split at e
      · rename_i n S3 q2
        split at e
        · rename_i nn
          cases e
          have da : Dt X.K X.mg w1 v (.ins c' fs) := rd.dt rfl
          obtain ⟨aa, C, dx, vs, rfl, hm, ha, _⟩ := Rs.of_dt t2.sub da (fun k z => nomatch z)
          refine ⟨aa, C, dx, vs, rfl, hm, ha, w1, S1, [.ins c' fs], t2, .cons da .nil, rfl, _, _, q2, fun d hd v' H' w' st' t' hv => ?_, fun _ _ z => nomatch z⟩
          cases hd
          cases hv
          exact ⟨n, rfl, nn.1, nn.2, p _ H' w' st' t' (.inl (.int n))⟩
        · cases e
      · cases e
    · cases e
/-! ### o.m(e, ..) -/
/-- o.m(..): m runs on o and the further arguments -/
def tMeG (X : Cx) (c mn : Str) (sp : Sp) (E : L2.St → XK) (to : TE) (t : TA) : TE := fun σ H Q => to σ H fun x H1 => ∃ (a C dx : Addr) (fs : List (Str × V)), x = .ref a ∧ X.mg c = some (.ref C) ∧ H1 a = some (.ins C dx fs) ∧ fs.lookup mn = none ∧ t σ H1 fun vs H2 => sp (.ref a :: vs) H2 Q (E σ)
theorem pe_meG {pl : Sem Bool} {to : TE} {t : TA} {E : L2.St → XK} (he : PE X o to) (ho : OwnM X.prog X.w X.K X.mg X.base CX k c mn sp) (g : Quiet X.A) (hr : Room j X.A) (hk : k ≤ j) (hx : ∀ σ, PassesAt CX X σ (E σ)) (ha : PA X (e :: es) t)
    (hst : starEach (e :: es) X.env = (false, eval e X.env) :: starEach es X.env := by rfl) (hpl : (backTo pos (starEach es X.env)).any (·.1) = false := by rfl)
    (ht : eval (.Call (.Attribute o mn apos) (e :: es) [] pos) X.env = (do
      let ov ← eval o X.env
      standAt apos.atName
      let (f, first) ← holding [ov] (getMethod ov mn pl)
      callWith pos f first (backTo pos (starEach (e :: es) X.env)) (backToKw pos (keywordEach [] X.env))) := by rfl) :
    PE X (.Call (.Attribute o mn apos) (e :: es) [] pos) (tMeG X c mn sp E to t) := by
  obtain ⟨C, f, fd, ps, F, hm, b, M, cl⟩ := ho.ex
  refine ⟨fun pins s σ H Q I h => ?_⟩
  refine PySem.W.methodCall_KW (pl := pl) (thn (he.run pins s σ H _ I h) fun u s1 ⟨x, H1, I1, rx, a, C2, dx, fs, ex, hm2, ea, l, q⟩ => ?_) ht
  subst ex
  rw [hm] at hm2
  cases hm2
  obtain rfl : u = Value.ref a := rx
  refine getmeth_ok I1 ea cl M l ?_
  refine PySem.W.callWith_K (first := [.ref a]) (h₀ := X.base) I.ok.mod.kin M.kp (thn (ha.run pos pins s1 σ H1 _ I1 q) fun us s2 ⟨vs, H2, I2, r, q2⟩ => ⟨I2.kIn, ?_⟩) hst hpl
  exact runGS (us := .ref a :: us) (vs := .ref a :: vs) F g (hr.mono hk) b (hx σ) I2 (.cons rfl r) q2
theorem pe_meG0 {pl : Sem Bool} {to : TE} {E : L2.St → XK} (he : PE X o to) (ho : OwnM X.prog X.w X.K X.mg X.base CX k c mn sp) (g : Quiet X.A) (hr : Room j X.A) (hk : k ≤ j) (hx : ∀ σ, PassesAt CX X σ (E σ))
    (ht : eval (.Call (.Attribute o mn apos) [] [] pos) X.env = (do
      let ov ← eval o X.env
      standAt apos.atName
      let (f, first) ← holding [ov] (getMethod ov mn pl)
      callWith pos f first (backTo pos (starEach [] X.env)) (backToKw pos (keywordEach [] X.env))) := by rfl) :
    PE X (.Call (.Attribute o mn apos) [] [] pos) (tMeG X c mn sp E to tNil) := by
  obtain ⟨C, f, fd, ps, F, hm, b, M, cl⟩ := ho.ex
  refine ⟨fun pins s σ H Q I h => ?_⟩
  refine PySem.W.methodCall_KW (pl := pl) (thn (he.run pins s σ H _ I h) fun u s1 ⟨x, H1, I1, rx, a, C2, dx, fs, ex, hm2, ea, l, q⟩ => ?_) ht
  subst ex
  rw [hm] at hm2
  cases hm2
  obtain rfl : u = Value.ref a := rx
  refine getmeth_ok I1 ea cl M l ?_
  exact PySem.W.callWith_K0 (first := [.ref a]) I1.kIn M.kp (runGS (us := [.ref a]) (vs := [.ref a]) F g (hr.mono hk) b (hx σ) I1 (.cons rfl .nil) q)
def m_meth (c mn : Str) (n : Nat) (F : List D → Sto → Option (R D × Sto)) (mo : M D) (ms : M (List D)) : M D := mo.bind fun d => (M.lift fun _ _ => match d with
  | .ins c' fs => if c' = c ∧ fs.lookup mn = none then some () else none
  | _ => none).bind fun _ => ms.bind fun ds _ S => if ds.all fixed = true ∧ ds.length + 1 = n then F (d :: ds) S else none
theorem lookup_no : ∀ {vs : List (Str × V)} {ds : List (Str × D)} {f : Str}, vs.map (·.1) = ds.map (·.1) → ds.lookup f = none → vs.lookup f = none
  | [], [], _, _, _ => rfl
  | [], _ :: _, _, e, _ => by cases e
  | _ :: _, [], _, e, _ => by cases e
  | (k1, v1) :: vs, (k2, d2) :: ds, f, ek, e => by
    simp only [List.map_cons, List.cons.injEq] at ek
    obtain ⟨rfl, ek⟩ := ek
    simp only [List.lookup] at e ⊢
    cases q : f == k1 with
    | true => rw [q] at e; cases e
    | false =>
      rw [q] at e
      exact lookup_no ek e
theorem meth_go {Q : VK} (h : tD X.K X.mg W z (m_meth c mn n F mo ms) σ H Q) : tMeG X c mn (spD X.K X.mg n F) (WE W) (tD X.K X.mg W z mo) (tA X.K X.mg W z ms) σ H Q := by
  obtain ⟨w, ρ, S, h⟩ := h
  refine ⟨w, ρ, S, h.bind fun d v w1 H1 S1 st rd h0 => ?_⟩
  obtain ⟨u, eu, h1⟩ := h0.liftB
  clear h0
  cases d <;> first | (exfalso; simp at eu; done) | skip
  rename_i c' fs
  dsimp only at eu
  split at eu
  · rename_i cc
    obtain ⟨rfl, hl⟩ := cc
    have da : Dt X.K X.mg w1 v (.ins c' fs) := rd.dt rfl
    obtain ⟨aa, C, dx, vs, rfl, hm, ha, ek, hd⟩ := Rs.of_dt h1.t.sub da (fun k z => nomatch z)
    refine ⟨aa, C, dx, vs, rfl, hm, ha, lookup_no ek hl, w1, ρ, S1, h1.bind (rel1 := relA X.K X.mg σ ρ) fun ds us w2 H2 S2 st2 rds h2 => ?_⟩
    obtain ⟨t2, s2, r, S', e, p⟩ := h2
    split at e
    · rename_i c2
      refine ⟨w2, S2, _, t2, .cons (da.mono st2.le) (rds.fix c2.1), c2.2, r, S', e, fun d hd v H' w' st' t' hv => ?_, fun c fs hd H' w' cls dx st' t' x => ?_⟩
      · subst hd
        exact p v H' w' st' t' (.inl hv)
      · subst hd
        exact p H' w' cls dx st' t' x
    · cases e
  · cases eu
end
end Pd

/-! A dict display that goes into the store. -/
namespace Pd
open PySem L2 Evl Hg
open PySem.Spec PyProof.Rows
section
variable {X : Cx} {W : WX} {z : Option Zi} {w0 : W0} {w w' w1 : Wd} {σ : L2.St} {H H' H1 : Hp} {ρ ρ' : Rho} {S S' S1 : Sto} {K : PySem.W.Frag} {mg : Str → Option Value} {Dn : Ends}
variable {e a b o value : Expr} {es : List Expr} {pos pos' apos cpos p : Pos} {me ma mb mo mk mv : M D} {ms : M (List D)} {st : Stmt} {m : SM}
def m_dispO (ps : List (Str × M D)) : M D := (m_pairs ps).bind fun ds _ S => if ds.all fixed = true ∧ ps.length ≤ 15 then some (.ok (.own S.length), S ++ [.dct (mergeD [] ((ps.map fun p => (Sum.inr p.1 : Key)).zip ds))]) else none
theorem pd_dispO {keys : List (Option Expr)} {values : List Expr} {ps : List (Str × M D)} (h : PDP X W z pos keys values ps) (hall : keys.all (·.isSome) = true := by rfl) (hl : keys.length = values.length := by rfl) (h0 : keys ≠ [] := by simp)
    (h15 : keys.length ≤ 15 := by decide) : PD X W z (.Dict keys values pos) (m_dispO ps) :=
  pe_mono (pe_disp h.pps hall hl h0 h15) fun σ H Q hq => by
    obtain ⟨w, ρ, S, t, s, r, S', e, k⟩ := hq
    intro p np
    obtain ⟨gp, ap⟩ := t.gone np
    unfold m_dispO M.bind at e
    cases q : m_pairs ps ρ S with
    | none => rw [q] at e; cases e
    | some x =>
      obtain ⟨r1, S1⟩ := x
      rw [q] at e
      have st0 : Stp w w H (upd H p (.dK [])) := (Stp.refl _ _).upd np
      have hD : Do X.K X.mg W z (relA X.K X.mg σ ρ) w σ (upd H p (.dK [])) ρ S (m_pairs ps) (fun vs H2 => vs.length = ps.length → H2 p = some (.dK []) ∧ ∃ kvs : List (Key × V), (ps.map fun p => V.str p.1).zip vs = kvs.map (fun kv => (kV kv.1, kv.2)) ∧ kvs.length ≤ 15 ∧ Q (.ref p) (upd H2 p (.dK (mergeK [] kvs)))) := by
        refine ⟨t.upd gp ap, s.step st0, r1, S1, q, ?_⟩
        cases r1 with
        | er c fs =>
          cases e
          exact fun H' w' cls dx st' t' x => by
            have e1 : upd H' p (.dK []) = H' := by
              funext b
              by_cases z : b = p
              · rw [z, upd_same]; exact (st'.fr p _ upd_same ap).symm
              · rw [upd_ne z]
            have := st'.under (o' := .dK []) np
            rw [e1] at this
            exact k H' w' cls dx this t' x
        | ok ds =>
          dsimp only at e
          split at e
          · rename_i c
            · cases e
              intro vs H2 w2 st2 t2 rds hl2
              have hp2 : H2 p = some (.dK []) := st2.fr p _ upd_same ap
              have hd := RrA.fix rds c.1
              have hlen : ps.length = vs.length := hl2.symm
              have hlen2 : ps.length = ds.length := by rw [← hd.length]; exact hlen
              refine ⟨hp2, (ps.map fun p => (Sum.inr p.1 : Key)).zip vs, ?_, by rw [List.length_zip, List.length_map]; omega, ?_⟩
              · have : ∀ (ps : List (Str × M D)) (vs : List V), (ps.map fun p => V.str p.1).zip vs = ((ps.map fun p => (Sum.inr p.1 : Key)).zip vs).map (fun kv => (kV kv.1, kv.2)) := by
                  intro ps
                  induction ps with
                  | nil => intro vs; rfl
                  | cons p r ih =>
                    intro vs
                    cases vs with
                    | nil => rfl
                    | cons v vs =>
                      simp only [List.map_cons, List.zip_cons_cons, ih vs]
                      rfl
                exact this ps vs
              · have g2 : w2.G p = none := by
                  cases q : w2.G p with
                  | none => rfl
                  | some u =>
                    rcases st2.gn p u q with z | z | z
                    · rw [gp] at z; cases z
                    · rw [upd_same] at z; cases z
                    · exact absurd z ap
                have a2 : p ∉ w2.al := fun z => by
                  have := st2.nw p z ap
                  rw [upd_same] at this
                  cases this
                obtain ⟨m1, m2⟩ := merge_dt (K := X.K) (mg := X.mg) (w := w2) (vs := (ps.map fun p => (Sum.inr p.1 : Key)).zip vs) (ds := (ps.map fun p => (Sum.inr p.1 : Key)).zip ds) (v0 := []) (d0 := [])
                  (by rw [List.map_fst_zip (by rw [List.length_map]; omega), List.map_fst_zip (by rw [List.length_map]; omega)])
                  (by rw [List.map_snd_zip (by rw [List.length_map]; omega), List.map_snd_zip (by rw [List.length_map]; omega)]; exact hd) rfl .nil
                obtain ⟨st3, t3, d3⟩ := publish (o := .dct (mergeD [] ((ps.map fun p => (Sum.inr p.1 : Key)).zip ds))) (st2.under (o' := .dK (mergeK [] ((ps.map fun p => (Sum.inr p.1 : Key)).zip vs))) np) (t2.upd g2 a2) np g2 a2 ⟨_, upd_same, m1, m2⟩
                exact k _ _ _ st3 t3 (.inl d3)
          · cases e
      exact pairs_go hD fun vs H' hl q => q hl
end
end Pd

/-! Errors of own classes as values. -/
namespace Pd
open PySem L2 Evl Hg
open PySem.Spec PyProof.Rows
section
variable {X : Cx} {W : WX} {z : Option Zi} {w0 : W0} {w w' w1 : Wd} {σ : L2.St} {H H' H1 : Hp} {ρ ρ' : Rho} {S S' S1 : Sto} {K : PySem.W.Frag} {mg : Str → Option Value} {Dn : Ends}
variable {e a b o value ec : Expr} {es : List Expr} {pos pos' apos cpos p : Pos} {me ma mb mo mk mv : M D} {ms : M (List D)} {st : Stmt} {m : SM}
/-- an error object with its dict is known from now on -/
theorem exc_new {aa d C : Addr} {c name : Str} {v : V} {y : D} (x : Stp w w1 H H1) (t : At K mg w1 H1 S1) (na : H1 aa = none) (nd : H1 d = none) (ne : d ≠ aa) (hm : mg c = some (.ref C)) (hv : Dt K mg w1 v y) :
    ∃ w2, Stp w w2 H (L2.upd (L2.upd H1 d (exd d [(name, v)])) aa (exo aa C (some d))) ∧ At K mg w2 (L2.upd (L2.upd H1 d (exd d [(name, v)])) aa (exo aa C (some d))) S1 ∧ Dt K mg w2 (.ref aa) (.exc c [(name, y)]) := by
  have g1 := Grow.new (w := w1) (o := exd d [(name, v)]) t.sub nd
  have nx : L2.upd H1 d (exd d [(name, v)]) aa = none := by rw [upd_ne (Ne.symm ne)]; exact na
  have g2 := Grow.new (w := w1.new d (exd d [(name, v)])) (o := exo aa C (some d)) g1.sub nx
  have g := g1.trans g2
  refine ⟨_, x.trans g.stp, t.grow g, .exc (vs := [(name, v)]) hm upd_same (?_) rfl (.cons (hv.mono g.le) .nil)⟩
  show L2.upd (L2.upd w1.G d (exd d [(name, v)])) aa (exo aa C (some d)) d = _
  rw [upd_ne ne, upd_same]
/-- C(e), C(k = e) -/
def m_exc (c name : Str) (me : M D) : M D := me.bind fun d _ S => if fixed d = true then some (.ok (.exc c [(name, d)]), S) else none
theorem exc_go {c name : Str} {C : Addr} (hm : mg c = some (.ref C)) {Q : VK} (h : tD K mg W z (m_exc c name me) σ H Q) : tD K mg W z me σ H fun y H1 => Hx.AskE C name y Q H1 := by
  obtain ⟨w, ρ, S, h⟩ := h
  refine ⟨w, ρ, S, h.bind fun d v w1 H1 S1 st rd h1 => ?_⟩
  obtain ⟨t1, s1, r, S', e, p⟩ := h1
  split at e
  · rename_i f
    cases e
    intro aa dx na nd ne
    obtain ⟨w2, x2, t2, d2⟩ := exc_new (name := name) (Stp.refl w1 H1) t1 na nd ne hm (rd.dt f)
    exact p _ _ w2 x2 t2 (.inl d2)
  · cases e
theorem pd_exc {c name : Str} {C : Addr} (hm : X.mg c = some (.ref C)) (he : PD X W z e me) (h : ∀ {te : TE}, PE X e te → PE X a (fun σ H Q => te σ H fun y H1 => Hx.AskE C name y Q H1)) : PD X W z a (m_exc c name me) :=
  pe_mono (h he) fun σ H Q h => exc_go hm h
/-- C() -/
theorem pd_exc0 {c : Str} {C : Addr} (hm : X.mg c = some (.ref C)) (h : PE X a (fun _ H Q => ∀ p, H p = none → Q (.ref p) (upd H p (exo p C none)))) : PD X W z a (m_c (.exc c [])) :=
  pe_mono h fun σ H Q h => by
    obtain ⟨w, ρ, S, t, s, r, S', e, p⟩ := h
    cases e
    intro q nq
    have g := Grow.new (w := w) (o := exo q C none) t.sub nq
    exact p _ _ _ g.stp (t.grow g) (.inl (.exc0 hm upd_same))
/-- isinstance(e, c), e an error that is held -/
def m_isX (f : Str → Option Bool) (m : M D) : M D := m.bind fun d => M.lift fun _ _ => match d with
  | .exc c _ => (f c).map D.bl
  | _ => none
theorem pd_isX {f : Str → Option Bool} {cval : V} {cv : Value} (hf : ∀ c b, f c = some b → ∀ C, X.mg c = some (.ref C) → ExcC X.K C ∧ PySem.W.kitOne X.K (.ref C) cv = some b) (hcv : ∀ u, RelV cval u → u = cv) (hg : Gl X "isinstance") (hm : X.mg "isinstance" = none)
    (he : PD X W z e me) (hce : PE X ec (tC cval)) (h1 : starEach [e, ec] X.env = (false, eval e X.env) :: starEach [ec] X.env := by rfl) (h2 : starEach [ec] X.env = (false, eval ec X.env) :: starEach [] X.env := by rfl)
    (hpl : (backTo pos (starEach [ec] X.env)).any (·.1) = false := by rfl) : PD X W z (.Call (.Name "isinstance" p) [e, ec] [] pos) (m_isX f me) :=
  pe_mono (pe_callB Hx.call_isV hg hm (by decide +kernel) (pa_cons he (pa_cons hce pa_nil h2) h1) (by decide) (by decide) h1 hpl) fun σ H Q h => by
    obtain ⟨w, ρ, S, h⟩ := h
    refine ⟨w, ρ, S, h.bind fun d v w1 H1 S1 st rd h1 => ?_⟩
    obtain ⟨y, e, k⟩ := h1.lift
    cases d <;> first | (exfalso; simp at e; done) | skip
    rename_i c fs
    dsimp only at e
    cases q : f c with
    | none => rw [q] at e; cases e
    | some b =>
      rw [q] at e
      cases e
      obtain ⟨aa, C, od, rfl, hm, ha, hd⟩ := Rs.of_dt h1.t.sub (rd.dt rfl) (fun k z => nomatch z)
      obtain ⟨h3, h4⟩ := hf c b q C hm
      refine ⟨aa, C, od, cval, cv, b, rfl, ha, fun dd ed => ?_, h3, hcv, h4, k _ H1 w1 (Grow.refl h1.t.sub) (.inl (.bl b))⟩
      rcases hd with ⟨rfl, _⟩ | ⟨d, vs, rfl, h5, _⟩
      · cases ed
      · cases ed
        exact ⟨vs, h5⟩
/-- e.f, e an error that is held -/
def m_fldX (cs : List Str) (f : Str) (m : M D) : M D := m.bind fun d => M.lift fun _ _ => match d with
  | .exc c fs => if c ∈ cs then fs.lookup f else none
  | _ => none
theorem pd_fldX {cs : List Str} {f : Str} (hc : ∀ c ∈ cs, ∀ C, X.mg c = some (.ref C) → XfC X.K C ∧ PySem.W.findIn X.K (.ref C) f = some none) (he : PD X W z e me) (hb : attributeBase e f X.env (eval e X.env) = eval e X.env := by rfl) : PD X W z (.Attribute e f pos) (m_fldX cs f me) :=
  pe_mono (Hx.pe_fldV he hb) fun σ H Q h => by
    obtain ⟨w, ρ, S, h⟩ := h
    refine ⟨w, ρ, S, h.bind fun d v w1 H1 S1 st rd h1 => ?_⟩
    obtain ⟨y, e, k⟩ := h1.lift
    cases d <;> first | (exfalso; simp at e; done) | skip
    rename_i c fs
    dsimp only at e
    split at e
    · rename_i cm
      obtain ⟨aa, C, od, rfl, hm, ha, hd⟩ := Rs.of_dt h1.t.sub (rd.dt rfl) (fun k z => nomatch z)
      obtain ⟨h3, h4⟩ := hc c cm C hm
      rcases hd with ⟨_, rfl⟩ | ⟨d, vs, rfl, h5, ek, hd⟩
      · cases e
      · obtain ⟨v', e2, hv⟩ := lookup_dt ek hd e
        exact ⟨aa, C, d, vs, v', rfl, ha, h5, h3, h4, e2, k v' H1 w1 (Grow.refl h1.t.sub) (.inl hv)⟩
    · cases e
end
end Pd

/-! text * n; dict(pairs). -/
namespace Pd
open PySem L2 Evl Hg
open PySem.Spec PyProof.Rows
section
variable {X : Cx} {W : WX} {z : Option Zi} {w0 : W0} {w w' w1 : Wd} {σ : L2.St} {H H' H1 : Hp} {ρ ρ' : Rho} {S S' S1 : Sto} {K : PySem.W.Frag} {mg : Str → Option Value} {Dn : Ends}
variable {e a b o value ec : Expr} {es : List Expr} {pos pos' apos cpos p : Pos} {me ma mb mo mk mv : M D} {ms : M (List D)} {st : Stmt} {m : SM}
def repS (x : Str) (n : Nat) : Str := ⟨(List.replicate n x.cps).foldl (· ++ ·) #[]⟩
def rMulS : R2 := fun x y H Q => ∃ (i : Str) (n : Nat), x = .str i ∧ y = .int (n : Int) ∧ 2 ≤ n ∧ n ≤ 1000 ∧ 1 ≤ i.length ∧ i.length ≤ 1000 ∧ (repS i n).length ≤ sizeLine ∧ Q (.str (repS i n)) H
theorem op_mulS : OpR X (binaryOp .Mult) rMulS := by
  intro pins s σ H x y v u Q I rx ry h
  obtain ⟨i, n, rfl, rfl, n1, n2, l1, l2, hz, q⟩ := h
  obtain ⟨t, rfl⟩ := rx
  obtain ⟨t', rfl⟩ := ry
  have hn : ¬ (n : Int) < 1 := by omega
  have hone : ((n : Int) == 1 || i.length == 0) = false := by
    rw [Bool.or_eq_false_iff]
    exact ⟨beq_eq_false_iff_ne.mpr (by omega), beq_eq_false_iff_ne.mpr (by omega)⟩
  have hprod : i.length * n ≤ 1000 * 1000 := Nat.mul_le_mul l2 n2
  refine PySem.P.mul_str (by rw [Bool.or_eq_false_iff]; exact ⟨decide_eq_false (by omega), decide_eq_false (by omega)⟩) (fun _ _ => ?_) (fun _ _ => ?_) ?_
  · intro hgt
    have h3 : ((2 : Int) ^ 63 - 1) / (n : Int) ≥ 1000 := by
      rw [ge_iff_le, Int.le_ediv_iff_mul_le (by omega)]
      omega
    omega
  · rw [Int.toNat_natCast]
    unfold Builtin.Str.tooLong
    simp only [sizeLine_eq, decide_eq_false_iff_not]
    omega
  · rw [if_neg hn, if_neg (by rw [hone]; exact Bool.false_ne_true), Int.toNat_natCast]
    exact ⟨hz, .str (repS i n), H, I.tok _, ⟨_, rfl⟩, q⟩
def mulSD : D → D → Option D
  | .str x, .int n => if 2 ≤ n ∧ n ≤ 1000 ∧ 1 ≤ x.length ∧ x.length ≤ 1000 ∧ (repS x n.toNat).length ≤ sizeLine then some (.str (repS x n.toNat)) else none
  | _, _ => none
theorem o2_mulS : Op2 X rMulS mulSD := by
  intro w H x y a b d s ra rb e Q q
  cases a <;> cases b <;> first | (exfalso; simp [mulSD] at e; done) | skip
  cases ra; cases rb
  rename_i x n
  simp only [mulSD] at e
  split at e
  · rename_i c
    cases e
    obtain ⟨c1, c2, c3, c4, c5⟩ := c
    have hn : n = ((n.toNat : Nat) : Int) := (Int.toNat_of_nonneg (by omega)).symm
    exact ⟨x, n.toNat, rfl, by rw [← hn], by omega, by omega, c3, c4, c5, q _ _ _ (Grow.refl s) (.str _)⟩
  · cases e
theorem pd_mulS (ha : PD X W z a ma) (hb : PD X W z b mb) : PD X W z (.BinOp a .Mult b pos) (m_op mulSD ma mb) := pd_op op_mulS o2_mulS ha hb
/-! ### dict(pairs) -/
def pairsD : List D → Option (List (Key × D))
  | [] => some []
  | .tup [k, v] :: r => match keyOfD k, pairsD r with
    | some k', some r' => some ((k', v) :: r')
    | _, _ => none
  | _ => none
theorem keyOf_dt {v : V} {d : D} {k : Key} (h : Dt K mg w v d) (e : keyOfD d = some k) : v = kV k := by
  cases d <;> first | (exfalso; simp [keyOfD] at e; done) | skip
  · cases e; cases h; rfl
  · cases e; cases h; rfl
theorem pairs_dt : ∀ {vs : List V} {ds : List D} {kds : List (Key × D)}, DtA K mg w vs ds → pairsD ds = some kds →
    ∃ (ps : List Addr) (kvs : List (Key × V)), vs = ps.map V.ref ∧ Paired (fun p kv => SqT K w.G p [kV kv.1, kv.2]) ps kvs ∧ kvs.map (·.1) = kds.map (·.1) ∧ DtA K mg w (kvs.map (·.2)) (kds.map (·.2))
  | _, _, _, .nil, e => by
    cases e
    exact ⟨[], [], rfl, .nil, rfl, .nil⟩
  | _, _, _, .cons (d := d) (ds := ds) h hs, e => by
    cases d <;> first | (exfalso; simp [pairsD] at e; done) | skip
    rename_i xs
    match xs, e, h with
    | [], e, _ => cases e
    | [_], e, _ => cases e
    | _ :: _ :: _ :: _, e, _ => cases e
    | [k, v], e, h =>
      simp only [pairsD] at e
      split at e
      · rename_i k' r' q1 q2
        cases e
        obtain ⟨ps, kvs, rfl, hp, hk, hd⟩ := pairs_dt hs q2
        cases h with
        | tup ht ha =>
          cases ha with
          | cons h1 ha =>
            cases ha with
            | cons h2 ha =>
              cases ha
              obtain rfl := keyOf_dt h1 q1
              exact ⟨_ :: ps, (k', _) :: kvs, rfl, .cons ht hp, by simp [hk], .cons h2 hd⟩
      · cases e
def dictD : List D → Option D
  | [.lst ds] => (pairsD ds).map fun kds => .dct (mergeD [] kds)
  | _ => none
theorem paired_mono {α β : Type} {R R' : α → β → Prop} (h : ∀ a b, R a b → R' a b) : ∀ {xs : List α} {ys : List β}, Paired R xs ys → Paired R' xs ys
  | _, _, .nil => .nil
  | _, _, .cons a b => .cons (h _ _ a) (paired_mono h b)
theorem oa_dict : OpA X (fun xs H Q => ∃ (a : Addr) (ps : List Addr) (kvs : List (Key × V)), xs = [.ref a] ∧ SqL X.K H a (ps.map V.ref) ∧ Paired (fun p kv => SqT X.K H p [kV kv.1, kv.2]) ps kvs ∧ ∀ p, H p = none → Q (.ref p) (upd H p (.dK (mergeK [] kvs)))) dictD := by
  intro w H vs ds d s rs e Q q
  cases rs with
  | nil => cases e
  | cons h hs =>
    cases hs with
    | cons _ _ => simp [dictD] at e
    | nil =>
      rename_i v d0
      cases d0 <;> first | (exfalso; simp [dictD] at e; done) | skip
      simp only [dictD] at e
      cases q1 : pairsD _ with
      | none => rw [q1] at e; cases e
      | some kds =>
        rw [q1] at e
        cases e
        obtain ⟨a, xs, rfl, ha, hx⟩ := h
        obtain ⟨ps, kvs, rfl, hp, hk, hd⟩ := pairs_dt hx q1
        refine ⟨a, ps, kvs, rfl, .inl ha, paired_mono (fun _ _ h => ex_t s h) hp, fun p np => ?_⟩
        obtain ⟨m1, m2⟩ := merge_dt (v0 := []) (d0 := []) hk hd rfl .nil
        have g := Grow.new (w := w) (o := .dK (mergeK [] kvs)) s np
        exact q _ _ _ g (.dct (Rd.of upd_same) m1 (m2.mono g.le))
end
end Pd

/-! What a program's text gives to the layer: errors of own classes, small rules. -/
namespace Pd
open PySem L2 Evl Hg
open PySem.Spec PyProof.Rows
abbrev neF (a b : D) : Option Bool := (eqF a b).map (!·)
abbrev ninF (a b : D) : Option Bool := (inD a b).map (!·)
abbrev isnF (a b : D) : Option Bool := (isNonD a b).map (!·)
theorem takesNo {X : Cx} : Takes X WNo := fun _ _ ⟨_, _, _, _, _, _, _, _, _, _, _, _, _, _, _, _, w⟩ => w.elim
theorem HU {j : Nat} {A : Around} (hr : Room j A) : A.units + 1 < cLine := by have := hr.un; omega
section
variable {X : Cx} {W : WX} {z : Option Zi} {w0 : W0} {w w' w1 : Wd} {σ : L2.St} {H H' H1 : Hp} {ρ ρ' : Rho} {S S' S1 : Sto} {Dn : Ends}
variable {e a b o value ec : Expr} {es : List Expr} {pos pos' apos cpos kpos p : Pos} {me ma mb mo mk mv : M D} {ms : M (List D)} {st : Stmt} {m : SM} {k j : Nat} {c name pn : Str} {C : Addr}
theorem pd_dnil : PD X W z (.Dict [] [] pos) (m_c (.dct [])) := pe_mono pe_dnewK fun σ H Q h => by
  obtain ⟨w, ρ, S, t, s, r, S', e, p⟩ := h
  cases e
  intro q nq
  have g := Grow.new (w := w) (o := .dK []) t.sub nq
  exact p _ _ _ g.stp (t.grow g) (.inl (.dct (Rd.of upd_same) rfl .nil))
/-- an error class of the text, whose `__init__` keeps its one argument -/
structure ErrG (P : Program) (wo : World) (K : PySem.W.Frag) (mg : Str → Option Value) (base : Heap) (k : Nat) (c name pn : Str) : Prop where
  ex : ∃ (C f : Addr) (fd : FuncData) (ps : List Str), mg c = some (.ref C) ∧ Hx.Err K C f ∧ PySem.W.takerIn K C name = some none ∧ FnOk P wo K mg base CX0 k f fd ps (Hx.spKeep K name) ∧ ps.length = 2 ∧ Binds K fd ps [] ∧
    ∀ (s : Shared) (y z : Value), K.In s.heap → BindsTo s fd ⟨[y], [(pn, z)]⟩ (ps.zip [y, z])
theorem pd_excC (G : ErrG X.prog X.w X.K X.mg X.base k c name pn) (hr : Room j X.A) (hk : k + 1 ≤ j) (hg : Gl X c) (he : PD X W z e me) (hdb : (c == ("__debug__" : Str)) = false := by decide) (hst : starEach [e] X.env = (false, eval e X.env) :: starEach [] X.env := by rfl)
    (hpl : (backTo pos (starEach [] X.env)).any (·.1) = false := by rfl) : PD X W z (.Call (.Name c p) [e] [] pos) (m_exc c name me) := by
  obtain ⟨C, f, fd, ps, hm, T, no, F, hl, hb, _⟩ := G.ex
  exact pd_exc hm he fun h => Hx.pe_val T no F (hr.mono hk) hl hb pass0 hg hm h hdb hst hpl
theorem pd_excKw (G : ErrG X.prog X.w X.K X.mg X.base k c name pn) (hr : Room j X.A) (hk : k + 1 ≤ j) (hg : Gl X c) (he : PD X W z e me) (hdb : (c == ("__debug__" : Str)) = false := by decide)
    (hall : (backToKw pos (keywordEach [⟨some pn, e, kpos⟩] X.env)).all (·.1.isSome) = true := by rfl) (hks : (backToKw pos (keywordEach [⟨some pn, e, kpos⟩] X.env)).filterMap (·.1) = [pn] := by rfl)
    (hpl : ((backTo pos (starEach [] X.env)).any (·.1) || (backToKw pos (keywordEach [⟨some pn, e, kpos⟩] X.env)).any (·.1.isNone)) = false := by rfl) : PD X W z (.Call (.Name c p) [] [⟨some pn, e, kpos⟩] pos) (m_exc c name me) := by
  obtain ⟨C, f, fd, ps, hm, T, no, F, hl, _, hb⟩ := G.ex
  exact pd_exc hm he fun h => Hx.pe_valK T no F (hr.mono hk) hb pass0 hg hm h hdb hall hks hpl
theorem pds_raiseG (hc : X.calm = true) (tk : Takes X W) (G : ErrG X.prog X.w X.K X.mg X.base k c name pn) (hr : Room j X.A) (hk : k + 1 ≤ j) (hg : Gl X c) (he : PD X W z e me) (hdb : (c == ("__debug__" : Str)) = false := by decide) (hst : starEach [e] X.env = (false, eval e X.env) :: starEach [] X.env := by rfl)
    (hpl : (backTo pos (starEach [] X.env)).any (·.1) = false := by rfl) : PDS X W z w0 (.Raise (some (.Call (.Name c p) [e] [] pos)) none pos') (s_raise c name me) := by
  obtain ⟨C, f, fd, ps, hm, T, no, F, hl, hb, _⟩ := G.ex
  exact pds_raise hm he fun h => Hx.ps_err hc tk T no F (hr.mono hk) hb pass0 hg hm h hdb hst hpl
/-- an error class that has no `__init__` of its own -/
structure Err0 (K : PySem.W.Frag) (mg : Str → Option Value) (c : Str) : Prop where
  ex : ∃ C, mg c = some (.ref C) ∧ PySem.W.excIn K C Hx.exLast "Exception.__new__" = true ∧ PySem.W.keepIn K (.ref C) = true
theorem pd_excN (G : Err0 X.K X.mg c) (hg : Gl X c) (hdb : (c == ("__debug__" : Str)) = false := by decide) : PD X W z (.Call (.Name c p) [] [] pos) (m_c (.exc c [])) := by
  obtain ⟨C, hm, q, kC⟩ := G.ex
  exact pd_exc0 hm (Hx.pe_val0 PySem.F.excBase_Exception q hm kC hg hdb)
/-! ### the classes of the text that are errors -/
/-- the class c stands at C, over the class at CW, upon Exception -/
structure EC (K : PySem.W.Frag) (c : Str) (C : Addr) (up : List Value) : Prop where
  at_ : ∃ od bs ns qn sn sub ab col dl sl, K.lookup C = some ⟨.type "type", od, .cls ⟨c, bs, .ref C :: up, ns, qn, true, sn, sub, ab, col, dl⟩, sl⟩
  ga : PySem.W.findIn K (.ref C) "__getattribute__" = some (some (.builtin "BaseException.__getattribute__"))
  gg : PySem.W.findIn K (.ref C) "__getattr__" = some none
  ha : PySem.W.findIn K (.ref C) "__class__" = some (some (.builtin "object.__class__"))
theorem EC.cls {K : PySem.W.Frag} {c : Str} {C : Addr} {up : List Value} (h : EC K c C up) : ∃ cd, PySem.W.clsIn K C = some cd ∧ cd.name = c ∧ cd.mro = .ref C :: up ∧ cd.hasDict = true := by
  obtain ⟨od, bs, ns, qn, sn, sub, ab, col, dl, sl, e⟩ := h.at_
  exact ⟨_, by unfold PySem.W.clsIn; rw [e], rfl, rfl, rfl⟩
theorem EC.sub {K : PySem.W.Frag} {c : Str} {C : Addr} {up : List Value} (h : EC K c C up) (v : Value) : PySem.W.subIn K (.ref C) v = some ((Value.ref C :: up).contains v) := by
  obtain ⟨cd, e, _, hm, _⟩ := h.cls
  show PySem.W.mroIn K C v = _
  unfold PySem.W.mroIn
  rw [e, Option.bind_some, hm]
  rfl
theorem EC.dict {K : PySem.W.Frag} {c : Str} {C : Addr} {up : List Value} (h : EC K c C up) : PySem.W.hasDictIn K C = true := by
  obtain ⟨cd, e, _, _, hd⟩ := h.cls
  unfold PySem.W.hasDictIn
  rw [e]
  exact hd
theorem EC.ty {K : PySem.W.Frag} {c : Str} {C : Addr} {up : List Value} (h : EC K c C up) : PySem.W.typeIn K (.ref C) = some (.type "type") := by
  obtain ⟨od, bs, ns, qn, sn, sub, ab, col, dl, sl, e⟩ := h.at_
  show (K.lookup C).map (·.cls) = _
  rw [e]
  rfl
theorem EC.ne {K : PySem.W.Frag} {c c' : Str} {C C' : Addr} {up up' : List Value} (h : EC K c C up) (h' : EC K c' C' up') (n : c ≠ c') : C ≠ C' := by
  intro e
  subst e
  obtain ⟨cd, e, hn, _⟩ := h.cls
  obtain ⟨cd', e', hn', _⟩ := h'.cls
  rw [e] at e'
  cases e'
  exact n (hn.symm.trans hn')
theorem EC.excC {K : PySem.W.Frag} {c : Str} {C : Addr} {up : List Value} (h : EC K c C up) (hu : up.contains (.type "BaseException") = true) (ho : up.contains (.type "object") = true)
    (hn : PySem.W.specialIn K (.builtin "object.__class__") "__get__" = some (some (.builtin "getset_descriptor.__get__"))) (ht : PySem.W.takesIn K (.builtin "object.__class__") = some true) : ExcC K C :=
  ⟨h.ga, h.gg, by rw [h.sub, List.contains_cons, hu, Bool.or_true], h.dict, h.ha, hn, ht, by
    have := h.sub (.type "object")
    rw [List.contains_cons, ho, Bool.or_true] at this
    exact this⟩
theorem EC.xfC {K : PySem.W.Frag} {c : Str} {C : Addr} {up : List Value} (h : EC K c C up) (hu : up.contains (.type "BaseException") = true) : XfC K C :=
  ⟨h.ga, h.gg, by rw [h.sub, List.contains_cons, hu, Bool.or_true], h.dict⟩
theorem EC.kit {K : PySem.W.Frag} {c c' : Str} {C C' : Addr} {up up' : List Value} (h : EC K c C up) (h' : EC K c' C' up') : PySem.W.kitOne K (.ref C) (.ref C') = some (decide (C = C') || up.contains (.ref C')) := by
  unfold PySem.W.kitOne
  by_cases e : C = C'
  · subst e
    rw [if_pos (beq_self_eq_true _)]
    simp
  · have ne : (Value.ref C == Value.ref C') = false := beq_eq_false_iff_ne.mpr fun z => e (Value.ref.inj z)
    rw [if_neg (by rw [ne]; exact Bool.false_ne_true)]
    unfold PySem.W.kitCls
    obtain ⟨cd, e2, _⟩ := h'.cls
    have hcond : ((PySem.W.clsIn K C').isSome && PySem.W.typeIn K (.ref C') == some (.type "type")) = true := by
      rw [e2, h'.ty]
      simp
    dsimp only
    rw [if_pos hcond, h.sub, List.contains_cons]
    have ne2 : (Value.ref C' == Value.ref C) = false := beq_eq_false_iff_ne.mpr fun z => e (Value.ref.inj z).symm
    rw [ne2]
    simp [e]
theorem EC.kitT {K : PySem.W.Frag} {c : Str} {C : Addr} {up : List Value} {T : String} (h : EC K c C up) (hT : PySem.W.kitMeta T = true) : PySem.W.kitOne K (.ref C) (.type T) = some (up.contains (.type T)) := by
  unfold PySem.W.kitOne
  rw [if_neg (by simp)]
  unfold PySem.W.kitCls
  dsimp only
  rw [if_pos hT, h.sub, List.contains_cons]
  have : (Value.type T == Value.ref C) = false := rfl
  rw [this, Bool.false_or]
theorem EC.exm {K : PySem.W.Frag} {c c' : Str} {C C' : Addr} {up up' : List Value} (h : EC K c C up) (h' : EC K c' C' up') (hu : up'.contains (.type "BaseException") = true) : PySem.W.exmOne K (.ref C) (.ref C') = some (decide (C = C') || up.contains (.ref C')) := by
  refine PySem.W.exm_ref (by rw [h'.sub, List.contains_cons, hu, Bool.or_true]) h'.dict h'.ty ?_
  rw [h.sub, List.contains_cons]
  congr 2
  by_cases e : C = C'
  · subst e; simp
  · have ne2 : (Value.ref C' == Value.ref C) = false := beq_eq_false_iff_ne.mpr fun z => e (Value.ref.inj z).symm
    rw [ne2]
    simp [e]
theorem names_of {x : Str} {c : Value} (h : X.mg x = some c) (hg : Gl X x) (hdb : (x == ("__debug__" : Str)) = false := by decide) : Names X x c := ⟨hg, hdb, .inl h⟩
end
end Pd

/-! Facts of a text's error classes, all at once. -/
namespace Pd
open PySem L2 Evl Hg
open PySem.Spec PyProof.Rows
theorem takesCx {P : Program} {wo : World} {K : PySem.W.Frag} {mg : Str → Option Value} {base : Heap} {N : List Str} {q : Str} {sc : Scope} {f : Addr} {cdv : Value} {A : Around} {out : List Env} {s : Shared} {H : Hp} {E : XK} :
    Takes (cxOf (L2.CX P wo) P wo K mg base N q sc f cdv A out s H E) (WE0 E) := takes_of rfl rfl rfl rfl
theorem passesCx {CX : CXT} {P : Program} {wo : World} {K : PySem.W.Frag} {mg : Str → Option Value} {base : Heap} {N : List Str} {q : Str} {sc : Scope} {f : Addr} {cdv : Value} {A : Around} {out : List Env} {s : Shared} {H : Hp} {E : XK} :
    PassesOwn (model P wo) (cxOf CX P wo K mg base N q sc f cdv A out s H E).A (cxOf CX P wo K mg base N q sc f cdv A out s H E).env (cxOf CX P wo K mg base N q sc f cdv A out s H E).xe := passes_of rfl
/-- an error class: its name, its attribute (none: it bears nothing) -/
abbrev ErrL := List (Str × Option Str)
def upOf (ad : Str → Addr) (root c : Str) : List Value := if c = root then Hx.exLast else .ref (ad root) :: Hx.exLast
/-- the error classes L of a text, all over root -/
structure Errs (K : PySem.W.Frag) (mg : Str → Option Value) (ad : Str → Addr) (root : Str) (L : List Str) (A : List (Str × Str)) : Prop where
  c : ∀ x ∈ L, mg x = some (.ref (ad x))
  ec : ∀ x ∈ L, EC K x (ad x) (upOf ad root x)
  rt : root ∈ L
  at_ : ∀ p ∈ A, PySem.W.findIn K (.ref (ad p.1)) p.2 = some none
  hn : PySem.W.specialIn K (.builtin "object.__class__") "__get__" = some (some (.builtin "getset_descriptor.__get__"))
  ht : PySem.W.takesIn K (.builtin "object.__class__") = some true
section
variable {K : PySem.W.Frag} {mg : Str → Option Value} {ad : Str → Addr} {root : Str} {L : List Str} {A : List (Str × Str)}
theorem ex_base : Hx.exLast.contains (.type "BaseException") = true := by decide +kernel
theorem ex_obj : Hx.exLast.contains (.type "object") = true := by decide +kernel
theorem up_has (v : Value) (h : Hx.exLast.contains v = true) (x : Str) : (upOf ad root x).contains v = true := by
  unfold upOf
  split
  · exact h
  · rw [List.contains_cons, h, Bool.or_true]
theorem ex_ref (a : Addr) : Hx.exLast.contains (.ref a) = false := by rfl
def isErr (root : Str) (L : List Str) (cn c : Str) : Option Bool := if c ∈ L then some (decide (c = cn) || decide (cn = root)) else none
def isErrB (L : List Str) (b : Bool) (c : Str) : Option Bool := if c ∈ L then some b else none
theorem Errs.exc (T : Errs K mg ad root L A) {x : Str} (h : x ∈ L) : ExcC K (ad x) := (T.ec x h).excC (up_has _ ex_base x) (up_has _ ex_obj x) T.hn T.ht
theorem Errs.inj (T : Errs K mg ad root L A) {x y : Str} (hx : x ∈ L) (hy : y ∈ L) : decide (ad x = ad y) = decide (x = y) := by
  by_cases e : x = y
  · subst e; simp
  · rw [decide_eq_false e, decide_eq_false ((T.ec x hx).ne (T.ec y hy) e)]
theorem Errs.up (T : Errs K mg ad root L A) {x y : Str} (hx : x ∈ L) (hy : y ∈ L) : (decide (ad x = ad y) || (upOf ad root x).contains (.ref (ad y))) = (decide (x = y) || decide (y = root)) := by
  rw [T.inj hx hy]
  unfold upOf
  split
  · rename_i e
    subst e
    rw [ex_ref, Bool.or_false]
    by_cases e : x = y
    · subst e; simp
    · rw [decide_eq_false e, decide_eq_false (Ne.symm e)]
      rfl
  · rw [List.contains_cons, ex_ref, Bool.or_false]
    congr 1
    have : (Value.ref (ad y) == Value.ref (ad root)) = decide (ad y = ad root) := by
      by_cases e : ad y = ad root
      · rw [e]; simp
      · rw [decide_eq_false e]
        exact beq_eq_false_iff_ne.mpr fun z => e (Value.ref.inj z)
    rw [this, T.inj hy T.rt]
theorem Errs.i (T : Errs K mg ad root L A) (cn : Str) (hc : cn ∈ L) : ∀ c b, isErr root L cn c = some b → ∀ C, mg c = some (.ref C) → ExcC K C ∧ PySem.W.kitOne K (.ref C) (.ref (ad cn)) = some b := by
  intro c b e C hm
  unfold isErr at e
  split at e
  · rename_i h
    rw [T.c c h] at hm
    cases hm
    cases e
    refine ⟨T.exc h, ?_⟩
    rw [(T.ec c h).kit (T.ec cn hc), T.up h hc]
  · cases e
theorem Errs.iT (T : Errs K mg ad root L A) (Ty : String) (b : Bool) (hT : PySem.W.kitMeta Ty = true) (hb : Hx.exLast.contains (.type Ty) = b) : ∀ c b', isErrB L b c = some b' → ∀ C, mg c = some (.ref C) → ExcC K C ∧ PySem.W.kitOne K (.ref C) (.type Ty) = some b' := by
  intro c b' e C hm
  unfold isErrB at e
  split at e
  · rename_i h
    rw [T.c c h] at hm
    cases hm
    cases e
    refine ⟨T.exc h, ?_⟩
    rw [(T.ec c h).kitT hT]
    unfold upOf
    split
    · rw [hb]
    · rw [List.contains_cons, hb]
      have : (Value.type Ty == Value.ref (ad root)) = false := rfl
      rw [this, Bool.false_or]
  · cases e
theorem Errs.f (T : Errs K mg ad root L A) (cs : List Str) (at_ : Str) (h : (cs.all fun c => decide (c ∈ L) && decide ((c, at_) ∈ A)) = true) : ∀ c ∈ cs, ∀ C, mg c = some (.ref C) → XfC K C ∧ PySem.W.findIn K (.ref C) at_ = some none := by
  intro c hc C hm
  have z := List.all_eq_true.mp h c hc
  rw [Bool.and_eq_true, decide_eq_true_eq, decide_eq_true_eq] at z
  rw [T.c c z.1] at hm
  cases hm
  exact ⟨(T.ec c z.1).xfC (up_has _ ex_base c), T.at_ _ z.2⟩
theorem Errs.tr (T : Errs K mg ad root L A) (errs : List Str) (h : (errs.all fun c => decide (c ∈ L)) = true) : ∀ c ∈ errs, ∀ C, mg c = some (.ref C) → PySem.W.exmOne K (.ref C) (.ref (ad root)) = some ((fun _ => true) c) := by
  intro c hc C hm
  have z := of_decide_eq_true (List.all_eq_true.mp h c hc)
  rw [T.c c z] at hm
  cases hm
  rw [(T.ec c z).exm (T.ec root T.rt) (up_has _ ex_base root), T.up z T.rt]
  simp
end
end Pd

/-! law_k01_errors: each def of the text, as a function of data. -/
namespace K1
open PySem L2 Evl Hg Pd
open PySem.Spec PyProof.Rows
def top (i : Nat) : PySem.Stmt := PySem.Challenge.pw_housewardens_k01_errors.main.body.getD i (.Pass ⟨0, 0, 0, 0⟩)

def errL : List Str := ["WardError", "BadBook", "BadDevice", "BadWard", "BadGuest", "BadOnlooker", "BadText", "BadChoice", "TooMany", "CannotCome", "Refused", "NeverSure", "NeverStays", "Uncaught", "BadName", "NameTaken", "NoWard", "NotHeard", "NotAlike", "Harmful", "OtherFaces", "NothingToUndo", "NothingToRedo", "InvalidCommand"]
def atL : List (Str × Str) := [("BadBook", "part"), ("BadDevice", "part"), ("BadWard", "part"), ("BadGuest", "part"), ("BadOnlooker", "part"), ("BadText", "line"), ("BadChoice", "choice"), ("TooMany", "most"), ("CannotCome", "place"), ("Refused", "paper"), ("NeverSure", "paper"), ("NeverStays", "number"), ("Uncaught", "paper"), ("BadName", "name"), ("NameTaken", "name"), ("NoWard", "name"), ("NotHeard", "heard"), ("NotAlike", "log"), ("Harmful", "paper")]
structure T1 (K : PySem.W.Frag) (mg : Str → Option Value) (ad : Str → Addr) : Prop extends Errs K mg ad "WardError" errL atL where
  b_isinstance : mg "isinstance" = none
  b_int : mg "int" = none
  b_list : mg "list" = none
  b_len : mg "len" = none
  b_repr : mg "repr" = none
  b_tuple : mg "tuple" = none
  b_dict : mg "dict" = none
  b_range : mg "range" = none
  b_enumerate : mg "enumerate" = none
  b_Exception : mg "Exception" = none
  b_ValueError : mg "ValueError" = none
theorem tm_one {c : Str} (hc : c ∈ [("TooMany" : Str)]) : isErr "WardError" errL "TooMany" c = some true := by
  rw [List.mem_singleton.mp hc]
  decide +kernel
section
variable {P : Program} {wo : World} {K : PySem.W.Frag} {mg : Str → Option Value} {base : Heap} {ad : Str → Addr}
abbrev s_law_deck : PySem.Stmt := top 26
abbrev N_law_deck : List Str := ["_law_script", "_law_cells", "_law_mixed", "_law_cell"]
theorem sc_law_deck : FnScope N_law_deck ["_law_script"] (defScope s_law_deck) := ⟨rfl, rfl, rfl, by decide +kernel, rfl, by decide +kernel, by decide +kernel⟩
def B_law_deck : SM := (s_seq (s_par 1 2 (ma_cons (m_cb listD (ma_cons (m_slice (m_var 0) mo_none (mo_some (m_c (.int 63)))) ma_nil)) (ma_cons (m_c (.int 10867001)) ma_nil)))
  (s_seq (s_for (mi_of (m_var 1)) (g_name 3) (s_asg (g_name 2) (m_op modD (m_cb intOf (ma_cons (m_op addD (m_op addD (m_op mulD (m_var 2) (m_c (.int 39373))) (m_op modD (m_cb intOf (ma_cons (m_var 3) ma_nil)) (m_c (.int 2147483629)))) (m_c (.int 201))) ma_nil)) (m_c (.int 2147483587)))))
  (s_ret (m_dispO [("cells", (m_pub (mf_rev (m_var 1)))), ("mixed", (m_var 2)), ("draws", (m_c (.int 0)))]))))
def F_law_deck : List D → Sto → Option (R D × Sto) := runD 4 B_law_deck
theorem ok_law_deck {f : Addr} {fd : FuncData} (F : Fun K "_law_deck" "_law_deck" s_law_deck f fd) (T : T1 K mg ad) : FnG P wo K mg base (L2.CX P wo) 1 f fd ["_law_script"] (spD K mg 1 F_law_deck) :=
  fnD F sc_law_deck fun cdv A out s H E w0 hq hr =>
  (pds_cons (pds_par (i := 1) (j := 2) (ps_par (by rfl) sc_law_deck.nd (i := 1) (j := 2) rfl rfl (by decide) rfl rfl (pda_cons (pd_callTy call_list_of oa_list rfl T.b_list (by decide +kernel) (pda_cons (pd_slice (pd_var (pv 0)) pdo_none (pdo_some pd_int)) pda_nil)) (pda_cons pd_int pda_nil)) (by rfl)) (by intro zi h; cases h))
  (pds_cons (pds_for passesCx rfl (pdi_any (pd_var (pv 1))) (pdg_name (i := 3) (pg_name (i := 3) sc_law_deck.nd rfl (Or.inl rfl)) (by intro zi h; first | (cases h; done) | (cases h; simp))) (pds_onE (pds_set (i := 2) (ps_set (i := 2) sc_law_deck.nd rfl (Or.inl rfl) (pd_mod (pd_callTy call_int1 oa_int rfl T.b_int (by decide +kernel) (pda_cons (pd_add (pd_add (pd_mul (pd_var (pv 2)) pd_int) (pd_mod (pd_callTy call_int1 oa_int rfl T.b_int (by decide +kernel) (pda_cons (pd_var (pv 3)) pda_nil)) pd_int)) pd_int) pda_nil)) pd_int)) (by intro zi h; first | (cases h; done) | (cases h; simp)))))
  (pds_onE (pds_ret (pd_dispO (PDP.cons (pd_pub (pf_rev (pd_var (pv 1)))) (PDP.cons (pd_var (pv 2)) (PDP.cons pd_int PDP.nil))))))))
abbrev s_law_draw : PySem.Stmt := top 27
abbrev N_law_draw : List Str := ["_law_deck_here", "_law_below", "_law_turn_now", "_law_figure", "_law_cell"]
theorem sc_law_draw : FnScope N_law_draw ["_law_deck_here", "_law_below"] (defScope s_law_draw) := ⟨rfl, rfl, rfl, by decide +kernel, rfl, by decide +kernel, by decide +kernel⟩
def B_law_draw : SM := (s_seq (s_oput (m_var 0) (m_c (.str "draws")) (m_op addD (m_dget (m_var 0) (m_c (.str "draws"))) (m_c (.int 1))))
  (s_seq (s_par 2 3 (ma_cons (m_dget (m_var 0) (m_c (.str "draws"))) (ma_cons (m_dget (m_var 0) (m_c (.str "mixed"))) ma_nil)))
  (s_seq (s_if (m_cmpT neF (m_dget (m_var 0) (m_c (.str "cells"))) (m_lst ma_nil)) (s_seq (s_asg (g_name 4) (m_cb intOf (ma_cons (m_opop (m_dget (m_var 0) (m_c (.str "cells")))) ma_nil)))
  (s_seq (s_if (m_cmpT geD (m_var 4) (m_op powD (m_c (.int 10)) (m_c (.int 18)))) (s_seq (s_ex (m_oapp (m_dget (m_var 0) (m_c (.str "cells"))) (m_op fdivD (m_var 4) (m_var 1))))
  (s_ret (m_op modD (m_var 4) (m_var 1)))) s_nx)
  (s_asg (g_name 3) (m_op addD (m_var 3) (m_op modD (m_var 4) (m_c (.int 2147483563))))))) s_nx)
  (s_seq (s_asg (g_name 3) (m_op modD (m_op mulD (m_cb intOf (ma_cons (m_op addD (m_op addD (m_op modD (m_cb intOf (ma_cons (m_var 3) ma_nil)) (m_c (.int 2147483629))) (m_op mulD (m_op mulD (m_c (.int 60623)) (m_var 2)) (m_var 2))) (m_c (.int 201))) ma_nil)) (m_c (.int 40692))) (m_c (.int 2147483647))))
  (s_seq (s_asg (g_name 3) (m_op modD (m_cb intOf (ma_cons (m_op addD (m_op addD (m_op mulD (m_var 3) (m_var 3)) (m_op mulD (m_c (.int 69621)) (m_var 2))) (m_c (.int 201))) ma_nil)) (m_c (.int 2147483579))))
  (s_ret (m_op modD (m_op fdivD (m_op modD (m_cb intOf (ma_cons (m_op mulD (m_var 3) (m_c (.int 39373))) ma_nil)) (m_c (.int 2147483549))) (m_c (.int 64))) (m_var 1))))))))
def F_law_draw : List D → Sto → Option (R D × Sto) := runD 5 B_law_draw
theorem ok_law_draw {f : Addr} {fd : FuncData} (F : Fun K "_law_draw" "_law_draw" s_law_draw f fd) (T : T1 K mg ad) : FnG P wo K mg base (L2.CX P wo) 1 f fd ["_law_deck_here", "_law_below"] (spD K mg 2 F_law_draw) :=
  fnD F sc_law_draw fun cdv A out s H E w0 hq hr =>
  (pds_cons (pds_oput (pd_var (pv 0)) (pd_add (pd_dget (HU hr) (pd_var (pv 0)) pd_str (fun _ _ => rfl)) pd_int) pd_str (fun to tk tv => ps_dput (HU hr) to tk tv rfl))
  (pds_cons (pds_par (i := 2) (j := 3) (ps_par (by rfl) sc_law_draw.nd (i := 2) (j := 3) rfl rfl (by decide) rfl rfl (pda_cons (pd_dget (HU hr) (pd_var (pv 0)) pd_str (fun _ _ => rfl)) (pda_cons (pd_dget (HU hr) (pd_var (pv 0)) pd_str (fun _ _ => rfl)) pda_nil)) (by rfl)) (by intro zi h; cases h))
  (pds_cons (pds_if (pdt_cmp (op_neF hr.units) c2_ne (pd_dget (HU hr) (pd_var (pv 0)) pd_str (fun _ _ => rfl)) (pd_lst pda_nil) (nomark _)) (pds_cons (pds_set (i := 4) (ps_set (i := 4) sc_law_draw.nd rfl (Or.inl rfl) (pd_callTy call_int1 oa_int rfl T.b_int (by decide +kernel) (pda_cons (pd_opop (pd_dget (HU hr) (pd_var (pv 0)) pd_str (fun _ _ => rfl))) pda_nil))) (by intro zi h; first | (cases h; done) | (cases h; simp)))
  (pds_cons (pds_if (pdt_cmp op_ge c2_ge (pd_var (pv 4)) (pd_pow pd_int pd_int) (nomark _)) (pds_cons (pds_expr (pd_oapp (pd_dget (HU hr) (pd_var (pv 0)) pd_str (fun _ _ => rfl)) (pd_fdiv (pd_var (pv 4)) (pd_var (pv 1))) (fun to te => pe_bm PySem.F.plainAttrs_list PySem.F.slot_list_append PySem.F.type_list_append mt_append to (pa_cons te pa_nil))))
  (pds_onE (pds_ret (pd_mod (pd_var (pv 4)) (pd_var (pv 1)))))) pds_nil)
  (pds_onE (pds_set (i := 3) (ps_set (i := 3) sc_law_draw.nd rfl (Or.inl rfl) (pd_add (pd_var (pv 3)) (pd_mod (pd_var (pv 4)) pd_int))) (by intro zi h; first | (cases h; done) | (cases h; simp)))))) pds_nil)
  (pds_cons (pds_set (i := 3) (ps_set (i := 3) sc_law_draw.nd rfl (Or.inl rfl) (pd_mod (pd_mul (pd_callTy call_int1 oa_int rfl T.b_int (by decide +kernel) (pda_cons (pd_add (pd_add (pd_mod (pd_callTy call_int1 oa_int rfl T.b_int (by decide +kernel) (pda_cons (pd_var (pv 3)) pda_nil)) pd_int) (pd_mul (pd_mul pd_int (pd_var (pv 2))) (pd_var (pv 2)))) pd_int) pda_nil)) pd_int) pd_int)) (by intro zi h; first | (cases h; done) | (cases h; simp)))
  (pds_cons (pds_set (i := 3) (ps_set (i := 3) sc_law_draw.nd rfl (Or.inl rfl) (pd_mod (pd_callTy call_int1 oa_int rfl T.b_int (by decide +kernel) (pda_cons (pd_add (pd_add (pd_mul (pd_var (pv 3)) (pd_var (pv 3))) (pd_mul pd_int (pd_var (pv 2)))) pd_int) pda_nil)) pd_int)) (by intro zi h; first | (cases h; done) | (cases h; simp)))
  (pds_onE (pds_ret (pd_mod (pd_fdiv (pd_mod (pd_callTy call_int1 oa_int rfl T.b_int (by decide +kernel) (pda_cons (pd_mul (pd_var (pv 3)) pd_int) pda_nil)) pd_int) pd_int) (pd_var (pv 1))))))))))
abbrev s_law_pick : PySem.Stmt := top 28
abbrev N_law_pick : List Str := ["_law_deck_here", "_law_some"]
theorem sc_law_pick : FnScope N_law_pick ["_law_deck_here", "_law_some"] (defScope s_law_pick) := ⟨rfl, rfl, rfl, by decide +kernel, rfl, by decide +kernel, by decide +kernel⟩
def B_law_pick : SM := (s_ret (m_op ixD (m_var 1) (m_call 2 F_law_draw (ma_cons (m_var 0) (ma_cons (m_cb lenD (ma_cons (m_var 1) ma_nil)) ma_nil)))))
def F_law_pick : List D → Sto → Option (R D × Sto) := runD 2 B_law_pick
theorem ok_law_pick {f : Addr} {fd : FuncData} (F : Fun K "_law_pick" "_law_pick" s_law_pick f fd) (T : T1 K mg ad) (G_law_draw : Cal P wo K mg base (L2.CX P wo) 1 "_law_draw" (spD K mg 2 F_law_draw)) : FnG P wo K mg base (L2.CX P wo) 2 f fd ["_law_deck_here", "_law_some"] (spD K mg 2 F_law_pick) :=
  fnD F sc_law_pick fun cdv A out s H E w0 hq hr =>
  (pds_onE (pds_ret (pd_ixD (pd_var (pv 1)) (pd_call G_law_draw hq hr (by decide) rfl takesCx (pda_cons (pd_var (pv 0)) (pda_cons (pd_callB call_len oa_len rfl T.b_len (by decide +kernel) (pda_cons (pd_var (pv 1)) pda_nil)) pda_nil))) (fun _ _ => rfl))))
abbrev s_law_made_a : PySem.Stmt := top 29
abbrev N_law_made_a : List Str := ["_law_word", "_law_it", "_law_is_named"]
theorem sc_law_made_a : FnScope N_law_made_a ["_law_word", "_law_it", "_law_is_named"] (defScope s_law_made_a) := ⟨rfl, rfl, rfl, by decide +kernel, rfl, by decide +kernel, by decide +kernel⟩
def B_law_made_a : SM := (s_seq (s_if (m_cmpT eqF (m_var 0) (m_c (.str "BadBook"))) (s_ret (m_if (m_tr (m_var 2)) (m_exc "BadBook" "part" (m_var 1)) (m_exc "BadBook" "part" (m_var 1)))) s_nx)
  (s_seq (s_if (m_cmpT eqF (m_var 0) (m_c (.str "BadDevice"))) (s_ret (m_if (m_tr (m_var 2)) (m_exc "BadDevice" "part" (m_var 1)) (m_exc "BadDevice" "part" (m_var 1)))) s_nx)
  (s_seq (s_if (m_cmpT eqF (m_var 0) (m_c (.str "BadWard"))) (s_ret (m_if (m_tr (m_var 2)) (m_exc "BadWard" "part" (m_var 1)) (m_exc "BadWard" "part" (m_var 1)))) s_nx)
  (s_seq (s_if (m_cmpT eqF (m_var 0) (m_c (.str "BadGuest"))) (s_ret (m_if (m_tr (m_var 2)) (m_exc "BadGuest" "part" (m_var 1)) (m_exc "BadGuest" "part" (m_var 1)))) s_nx)
  (s_seq (s_if (m_cmpT eqF (m_var 0) (m_c (.str "BadOnlooker"))) (s_ret (m_if (m_tr (m_var 2)) (m_exc "BadOnlooker" "part" (m_var 1)) (m_exc "BadOnlooker" "part" (m_var 1)))) s_nx)
  (s_seq (s_if (m_cmpT eqF (m_var 0) (m_c (.str "BadText"))) (s_ret (m_if (m_tr (m_var 2)) (m_exc "BadText" "line" (m_var 1)) (m_exc "BadText" "line" (m_var 1)))) s_nx)
  (s_ret (m_c .non))))))))
def F_law_made_a : List D → Sto → Option (R D × Sto) := runD 3 B_law_made_a
theorem ok_law_made_a {f : Addr} {fd : FuncData} (F : Fun K "_law_made_a" "_law_made_a" s_law_made_a f fd) (T : T1 K mg ad) (G_BadBook : ErrG P wo K mg base 1 "BadBook" "part" "part") (G_BadDevice : ErrG P wo K mg base 1 "BadDevice" "part" "part") (G_BadGuest : ErrG P wo K mg base 1 "BadGuest" "part" "part") (G_BadOnlooker : ErrG P wo K mg base 1 "BadOnlooker" "part" "part") (G_BadText : ErrG P wo K mg base 1 "BadText" "line" "line") (G_BadWard : ErrG P wo K mg base 1 "BadWard" "part" "part") : FnG P wo K mg base (L2.CX P wo) 3 f fd ["_law_word", "_law_it", "_law_is_named"] (spD K mg 3 F_law_made_a) :=
  fnD F sc_law_made_a fun cdv A out s H E w0 hq hr =>
  (pds_cons (pds_if (pdt_cmp (op_eqF hr.units) c2_eq (pd_var (pv 0)) pd_str (nomark _)) (pds_onE (pds_ret (pd_if (pdt_val (pd_var (pv 2))) (pd_excKw G_BadBook hr (by decide) rfl (pd_var (pv 1))) (pd_excC G_BadBook hr (by decide) rfl (pd_var (pv 1)))))) pds_nil)
  (pds_cons (pds_if (pdt_cmp (op_eqF hr.units) c2_eq (pd_var (pv 0)) pd_str (nomark _)) (pds_onE (pds_ret (pd_if (pdt_val (pd_var (pv 2))) (pd_excKw G_BadDevice hr (by decide) rfl (pd_var (pv 1))) (pd_excC G_BadDevice hr (by decide) rfl (pd_var (pv 1)))))) pds_nil)
  (pds_cons (pds_if (pdt_cmp (op_eqF hr.units) c2_eq (pd_var (pv 0)) pd_str (nomark _)) (pds_onE (pds_ret (pd_if (pdt_val (pd_var (pv 2))) (pd_excKw G_BadWard hr (by decide) rfl (pd_var (pv 1))) (pd_excC G_BadWard hr (by decide) rfl (pd_var (pv 1)))))) pds_nil)
  (pds_cons (pds_if (pdt_cmp (op_eqF hr.units) c2_eq (pd_var (pv 0)) pd_str (nomark _)) (pds_onE (pds_ret (pd_if (pdt_val (pd_var (pv 2))) (pd_excKw G_BadGuest hr (by decide) rfl (pd_var (pv 1))) (pd_excC G_BadGuest hr (by decide) rfl (pd_var (pv 1)))))) pds_nil)
  (pds_cons (pds_if (pdt_cmp (op_eqF hr.units) c2_eq (pd_var (pv 0)) pd_str (nomark _)) (pds_onE (pds_ret (pd_if (pdt_val (pd_var (pv 2))) (pd_excKw G_BadOnlooker hr (by decide) rfl (pd_var (pv 1))) (pd_excC G_BadOnlooker hr (by decide) rfl (pd_var (pv 1)))))) pds_nil)
  (pds_cons (pds_if (pdt_cmp (op_eqF hr.units) c2_eq (pd_var (pv 0)) pd_str (nomark _)) (pds_onE (pds_ret (pd_if (pdt_val (pd_var (pv 2))) (pd_excKw G_BadText hr (by decide) rfl (pd_var (pv 1))) (pd_excC G_BadText hr (by decide) rfl (pd_var (pv 1)))))) pds_nil)
  (pds_onE (pds_ret pd_non))))))))
abbrev s_law_made_b : PySem.Stmt := top 30
abbrev N_law_made_b : List Str := ["_law_word", "_law_it", "_law_is_named"]
theorem sc_law_made_b : FnScope N_law_made_b ["_law_word", "_law_it", "_law_is_named"] (defScope s_law_made_b) := ⟨rfl, rfl, rfl, by decide +kernel, rfl, by decide +kernel, by decide +kernel⟩
def B_law_made_b : SM := (s_seq (s_if (m_cmpT eqF (m_var 0) (m_c (.str "BadChoice"))) (s_ret (m_if (m_tr (m_var 2)) (m_exc "BadChoice" "choice" (m_var 1)) (m_exc "BadChoice" "choice" (m_var 1)))) s_nx)
  (s_seq (s_if (m_cmpT eqF (m_var 0) (m_c (.str "TooMany"))) (s_ret (m_if (m_tr (m_var 2)) (m_exc "TooMany" "most" (m_var 1)) (m_exc "TooMany" "most" (m_var 1)))) s_nx)
  (s_seq (s_if (m_cmpT eqF (m_var 0) (m_c (.str "CannotCome"))) (s_ret (m_if (m_tr (m_var 2)) (m_exc "CannotCome" "place" (m_var 1)) (m_exc "CannotCome" "place" (m_var 1)))) s_nx)
  (s_seq (s_if (m_cmpT eqF (m_var 0) (m_c (.str "Refused"))) (s_ret (m_if (m_tr (m_var 2)) (m_exc "Refused" "paper" (m_var 1)) (m_exc "Refused" "paper" (m_var 1)))) s_nx)
  (s_seq (s_if (m_cmpT eqF (m_var 0) (m_c (.str "NeverSure"))) (s_ret (m_if (m_tr (m_var 2)) (m_exc "NeverSure" "paper" (m_var 1)) (m_exc "NeverSure" "paper" (m_var 1)))) s_nx)
  (s_seq (s_if (m_cmpT eqF (m_var 0) (m_c (.str "NeverStays"))) (s_ret (m_if (m_tr (m_var 2)) (m_exc "NeverStays" "number" (m_var 1)) (m_exc "NeverStays" "number" (m_var 1)))) s_nx)
  (s_ret (m_c .non))))))))
def F_law_made_b : List D → Sto → Option (R D × Sto) := runD 3 B_law_made_b
theorem ok_law_made_b {f : Addr} {fd : FuncData} (F : Fun K "_law_made_b" "_law_made_b" s_law_made_b f fd) (T : T1 K mg ad) (G_BadChoice : ErrG P wo K mg base 1 "BadChoice" "choice" "choice") (G_CannotCome : ErrG P wo K mg base 1 "CannotCome" "place" "place") (G_NeverStays : ErrG P wo K mg base 1 "NeverStays" "number" "number") (G_NeverSure : ErrG P wo K mg base 1 "NeverSure" "paper" "paper") (G_Refused : ErrG P wo K mg base 1 "Refused" "paper" "paper") (G_TooMany : ErrG P wo K mg base 1 "TooMany" "most" "most") : FnG P wo K mg base (L2.CX P wo) 3 f fd ["_law_word", "_law_it", "_law_is_named"] (spD K mg 3 F_law_made_b) :=
  fnD F sc_law_made_b fun cdv A out s H E w0 hq hr =>
  (pds_cons (pds_if (pdt_cmp (op_eqF hr.units) c2_eq (pd_var (pv 0)) pd_str (nomark _)) (pds_onE (pds_ret (pd_if (pdt_val (pd_var (pv 2))) (pd_excKw G_BadChoice hr (by decide) rfl (pd_var (pv 1))) (pd_excC G_BadChoice hr (by decide) rfl (pd_var (pv 1)))))) pds_nil)
  (pds_cons (pds_if (pdt_cmp (op_eqF hr.units) c2_eq (pd_var (pv 0)) pd_str (nomark _)) (pds_onE (pds_ret (pd_if (pdt_val (pd_var (pv 2))) (pd_excKw G_TooMany hr (by decide) rfl (pd_var (pv 1))) (pd_excC G_TooMany hr (by decide) rfl (pd_var (pv 1)))))) pds_nil)
  (pds_cons (pds_if (pdt_cmp (op_eqF hr.units) c2_eq (pd_var (pv 0)) pd_str (nomark _)) (pds_onE (pds_ret (pd_if (pdt_val (pd_var (pv 2))) (pd_excKw G_CannotCome hr (by decide) rfl (pd_var (pv 1))) (pd_excC G_CannotCome hr (by decide) rfl (pd_var (pv 1)))))) pds_nil)
  (pds_cons (pds_if (pdt_cmp (op_eqF hr.units) c2_eq (pd_var (pv 0)) pd_str (nomark _)) (pds_onE (pds_ret (pd_if (pdt_val (pd_var (pv 2))) (pd_excKw G_Refused hr (by decide) rfl (pd_var (pv 1))) (pd_excC G_Refused hr (by decide) rfl (pd_var (pv 1)))))) pds_nil)
  (pds_cons (pds_if (pdt_cmp (op_eqF hr.units) c2_eq (pd_var (pv 0)) pd_str (nomark _)) (pds_onE (pds_ret (pd_if (pdt_val (pd_var (pv 2))) (pd_excKw G_NeverSure hr (by decide) rfl (pd_var (pv 1))) (pd_excC G_NeverSure hr (by decide) rfl (pd_var (pv 1)))))) pds_nil)
  (pds_cons (pds_if (pdt_cmp (op_eqF hr.units) c2_eq (pd_var (pv 0)) pd_str (nomark _)) (pds_onE (pds_ret (pd_if (pdt_val (pd_var (pv 2))) (pd_excKw G_NeverStays hr (by decide) rfl (pd_var (pv 1))) (pd_excC G_NeverStays hr (by decide) rfl (pd_var (pv 1)))))) pds_nil)
  (pds_onE (pds_ret pd_non))))))))
abbrev s_law_made_c : PySem.Stmt := top 31
abbrev N_law_made_c : List Str := ["_law_word", "_law_it", "_law_is_named"]
theorem sc_law_made_c : FnScope N_law_made_c ["_law_word", "_law_it", "_law_is_named"] (defScope s_law_made_c) := ⟨rfl, rfl, rfl, by decide +kernel, rfl, by decide +kernel, by decide +kernel⟩
def B_law_made_c : SM := (s_seq (s_if (m_cmpT eqF (m_var 0) (m_c (.str "Uncaught"))) (s_ret (m_if (m_tr (m_var 2)) (m_exc "Uncaught" "paper" (m_var 1)) (m_exc "Uncaught" "paper" (m_var 1)))) s_nx)
  (s_seq (s_if (m_cmpT eqF (m_var 0) (m_c (.str "BadName"))) (s_ret (m_if (m_tr (m_var 2)) (m_exc "BadName" "name" (m_var 1)) (m_exc "BadName" "name" (m_var 1)))) s_nx)
  (s_seq (s_if (m_cmpT eqF (m_var 0) (m_c (.str "NameTaken"))) (s_ret (m_if (m_tr (m_var 2)) (m_exc "NameTaken" "name" (m_var 1)) (m_exc "NameTaken" "name" (m_var 1)))) s_nx)
  (s_seq (s_if (m_cmpT eqF (m_var 0) (m_c (.str "NoWard"))) (s_ret (m_if (m_tr (m_var 2)) (m_exc "NoWard" "name" (m_var 1)) (m_exc "NoWard" "name" (m_var 1)))) s_nx)
  (s_seq (s_if (m_cmpT eqF (m_var 0) (m_c (.str "NotHeard"))) (s_ret (m_if (m_tr (m_var 2)) (m_exc "NotHeard" "heard" (m_var 1)) (m_exc "NotHeard" "heard" (m_var 1)))) s_nx)
  (s_seq (s_if (m_cmpT eqF (m_var 0) (m_c (.str "NotAlike"))) (s_ret (m_if (m_tr (m_var 2)) (m_exc "NotAlike" "log" (m_var 1)) (m_exc "NotAlike" "log" (m_var 1)))) s_nx)
  (s_ret (m_c .non))))))))
def F_law_made_c : List D → Sto → Option (R D × Sto) := runD 3 B_law_made_c
theorem ok_law_made_c {f : Addr} {fd : FuncData} (F : Fun K "_law_made_c" "_law_made_c" s_law_made_c f fd) (T : T1 K mg ad) (G_BadName : ErrG P wo K mg base 1 "BadName" "name" "name") (G_NameTaken : ErrG P wo K mg base 1 "NameTaken" "name" "name") (G_NoWard : ErrG P wo K mg base 1 "NoWard" "name" "name") (G_NotAlike : ErrG P wo K mg base 1 "NotAlike" "log" "log") (G_NotHeard : ErrG P wo K mg base 1 "NotHeard" "heard" "heard") (G_Uncaught : ErrG P wo K mg base 1 "Uncaught" "paper" "paper") : FnG P wo K mg base (L2.CX P wo) 3 f fd ["_law_word", "_law_it", "_law_is_named"] (spD K mg 3 F_law_made_c) :=
  fnD F sc_law_made_c fun cdv A out s H E w0 hq hr =>
  (pds_cons (pds_if (pdt_cmp (op_eqF hr.units) c2_eq (pd_var (pv 0)) pd_str (nomark _)) (pds_onE (pds_ret (pd_if (pdt_val (pd_var (pv 2))) (pd_excKw G_Uncaught hr (by decide) rfl (pd_var (pv 1))) (pd_excC G_Uncaught hr (by decide) rfl (pd_var (pv 1)))))) pds_nil)
  (pds_cons (pds_if (pdt_cmp (op_eqF hr.units) c2_eq (pd_var (pv 0)) pd_str (nomark _)) (pds_onE (pds_ret (pd_if (pdt_val (pd_var (pv 2))) (pd_excKw G_BadName hr (by decide) rfl (pd_var (pv 1))) (pd_excC G_BadName hr (by decide) rfl (pd_var (pv 1)))))) pds_nil)
  (pds_cons (pds_if (pdt_cmp (op_eqF hr.units) c2_eq (pd_var (pv 0)) pd_str (nomark _)) (pds_onE (pds_ret (pd_if (pdt_val (pd_var (pv 2))) (pd_excKw G_NameTaken hr (by decide) rfl (pd_var (pv 1))) (pd_excC G_NameTaken hr (by decide) rfl (pd_var (pv 1)))))) pds_nil)
  (pds_cons (pds_if (pdt_cmp (op_eqF hr.units) c2_eq (pd_var (pv 0)) pd_str (nomark _)) (pds_onE (pds_ret (pd_if (pdt_val (pd_var (pv 2))) (pd_excKw G_NoWard hr (by decide) rfl (pd_var (pv 1))) (pd_excC G_NoWard hr (by decide) rfl (pd_var (pv 1)))))) pds_nil)
  (pds_cons (pds_if (pdt_cmp (op_eqF hr.units) c2_eq (pd_var (pv 0)) pd_str (nomark _)) (pds_onE (pds_ret (pd_if (pdt_val (pd_var (pv 2))) (pd_excKw G_NotHeard hr (by decide) rfl (pd_var (pv 1))) (pd_excC G_NotHeard hr (by decide) rfl (pd_var (pv 1)))))) pds_nil)
  (pds_cons (pds_if (pdt_cmp (op_eqF hr.units) c2_eq (pd_var (pv 0)) pd_str (nomark _)) (pds_onE (pds_ret (pd_if (pdt_val (pd_var (pv 2))) (pd_excKw G_NotAlike hr (by decide) rfl (pd_var (pv 1))) (pd_excC G_NotAlike hr (by decide) rfl (pd_var (pv 1)))))) pds_nil)
  (pds_onE (pds_ret pd_non))))))))
abbrev s_law_made_d : PySem.Stmt := top 32
abbrev N_law_made_d : List Str := ["_law_word", "_law_it", "_law_is_named"]
theorem sc_law_made_d : FnScope N_law_made_d ["_law_word", "_law_it", "_law_is_named"] (defScope s_law_made_d) := ⟨rfl, rfl, rfl, by decide +kernel, rfl, by decide +kernel, by decide +kernel⟩
def B_law_made_d : SM := (s_seq (s_if (m_cmpT eqF (m_var 0) (m_c (.str "Harmful"))) (s_ret (m_if (m_tr (m_var 2)) (m_exc "Harmful" "paper" (m_var 1)) (m_exc "Harmful" "paper" (m_var 1)))) s_nx)
  (s_ret (m_c .non)))
def F_law_made_d : List D → Sto → Option (R D × Sto) := runD 3 B_law_made_d
theorem ok_law_made_d {f : Addr} {fd : FuncData} (F : Fun K "_law_made_d" "_law_made_d" s_law_made_d f fd) (T : T1 K mg ad) (G_Harmful : ErrG P wo K mg base 1 "Harmful" "paper" "paper") : FnG P wo K mg base (L2.CX P wo) 3 f fd ["_law_word", "_law_it", "_law_is_named"] (spD K mg 3 F_law_made_d) :=
  fnD F sc_law_made_d fun cdv A out s H E w0 hq hr =>
  (pds_cons (pds_if (pdt_cmp (op_eqF hr.units) c2_eq (pd_var (pv 0)) pd_str (nomark _)) (pds_onE (pds_ret (pd_if (pdt_val (pd_var (pv 2))) (pd_excKw G_Harmful hr (by decide) rfl (pd_var (pv 1))) (pd_excC G_Harmful hr (by decide) rfl (pd_var (pv 1)))))) pds_nil)
  (pds_onE (pds_ret pd_non)))
abbrev s_law_made_bare : PySem.Stmt := top 33
abbrev N_law_made_bare : List Str := ["_law_word"]
theorem sc_law_made_bare : FnScope N_law_made_bare ["_law_word"] (defScope s_law_made_bare) := ⟨rfl, rfl, rfl, by decide +kernel, rfl, by decide +kernel, by decide +kernel⟩
def B_law_made_bare : SM := (s_seq (s_if (m_cmpT eqF (m_var 0) (m_c (.str "OtherFaces"))) (s_ret (m_c (.exc "OtherFaces" []))) s_nx)
  (s_seq (s_if (m_cmpT eqF (m_var 0) (m_c (.str "NothingToUndo"))) (s_ret (m_c (.exc "NothingToUndo" []))) s_nx)
  (s_seq (s_if (m_cmpT eqF (m_var 0) (m_c (.str "NothingToRedo"))) (s_ret (m_c (.exc "NothingToRedo" []))) s_nx)
  (s_seq (s_if (m_cmpT eqF (m_var 0) (m_c (.str "InvalidCommand"))) (s_ret (m_c (.exc "InvalidCommand" []))) s_nx)
  (s_ret (m_c .non))))))
def F_law_made_bare : List D → Sto → Option (R D × Sto) := runD 1 B_law_made_bare
theorem ok_law_made_bare {f : Addr} {fd : FuncData} (F : Fun K "_law_made_bare" "_law_made_bare" s_law_made_bare f fd) (T : T1 K mg ad) (Z_InvalidCommand : Err0 K mg "InvalidCommand") (Z_NothingToRedo : Err0 K mg "NothingToRedo") (Z_NothingToUndo : Err0 K mg "NothingToUndo") (Z_OtherFaces : Err0 K mg "OtherFaces") : FnG P wo K mg base (L2.CX P wo) 1 f fd ["_law_word"] (spD K mg 1 F_law_made_bare) :=
  fnD F sc_law_made_bare fun cdv A out s H E w0 hq hr =>
  (pds_cons (pds_if (pdt_cmp (op_eqF hr.units) c2_eq (pd_var (pv 0)) pd_str (nomark _)) (pds_onE (pds_ret (pd_excN Z_OtherFaces rfl))) pds_nil)
  (pds_cons (pds_if (pdt_cmp (op_eqF hr.units) c2_eq (pd_var (pv 0)) pd_str (nomark _)) (pds_onE (pds_ret (pd_excN Z_NothingToUndo rfl))) pds_nil)
  (pds_cons (pds_if (pdt_cmp (op_eqF hr.units) c2_eq (pd_var (pv 0)) pd_str (nomark _)) (pds_onE (pds_ret (pd_excN Z_NothingToRedo rfl))) pds_nil)
  (pds_cons (pds_if (pdt_cmp (op_eqF hr.units) c2_eq (pd_var (pv 0)) pd_str (nomark _)) (pds_onE (pds_ret (pd_excN Z_InvalidCommand rfl))) pds_nil)
  (pds_onE (pds_ret pd_non))))))
abbrev s_law_sorts : PySem.Stmt := top 34
abbrev N_law_sorts : List Str := ["_law_e", "_law_some", "_law_word", "_law_is_so"]
theorem sc_law_sorts : FnScope N_law_sorts ["_law_e"] (defScope s_law_sorts) := ⟨rfl, rfl, rfl, by decide +kernel, rfl, by decide +kernel, by decide +kernel⟩
def B_law_sorts : SM := (s_seq (s_asg (g_name 1) (m_lst (ma_cons (m_tup (ma_cons (m_c (.str "BadBook")) (ma_cons (m_isX (isErr "WardError" errL "BadBook") (m_var 0)) ma_nil))) (ma_cons (m_tup (ma_cons (m_c (.str "BadDevice")) (ma_cons (m_isX (isErr "WardError" errL "BadDevice") (m_var 0)) ma_nil))) (ma_cons (m_tup (ma_cons (m_c (.str "BadWard")) (ma_cons (m_isX (isErr "WardError" errL "BadWard") (m_var 0)) ma_nil))) (ma_cons (m_tup (ma_cons (m_c (.str "BadGuest")) (ma_cons (m_isX (isErr "WardError" errL "BadGuest") (m_var 0)) ma_nil))) ma_nil))))))
  (s_seq (s_asg (g_name 1) (m_op addD (m_var 1) (m_lst (ma_cons (m_tup (ma_cons (m_c (.str "BadOnlooker")) (ma_cons (m_isX (isErr "WardError" errL "BadOnlooker") (m_var 0)) ma_nil))) (ma_cons (m_tup (ma_cons (m_c (.str "BadText")) (ma_cons (m_isX (isErr "WardError" errL "BadText") (m_var 0)) ma_nil))) (ma_cons (m_tup (ma_cons (m_c (.str "BadChoice")) (ma_cons (m_isX (isErr "WardError" errL "BadChoice") (m_var 0)) ma_nil))) (ma_cons (m_tup (ma_cons (m_c (.str "TooMany")) (ma_cons (m_isX (isErr "WardError" errL "TooMany") (m_var 0)) ma_nil))) ma_nil)))))))
  (s_seq (s_asg (g_name 1) (m_op addD (m_var 1) (m_lst (ma_cons (m_tup (ma_cons (m_c (.str "CannotCome")) (ma_cons (m_isX (isErr "WardError" errL "CannotCome") (m_var 0)) ma_nil))) (ma_cons (m_tup (ma_cons (m_c (.str "Refused")) (ma_cons (m_isX (isErr "WardError" errL "Refused") (m_var 0)) ma_nil))) (ma_cons (m_tup (ma_cons (m_c (.str "NeverSure")) (ma_cons (m_isX (isErr "WardError" errL "NeverSure") (m_var 0)) ma_nil))) (ma_cons (m_tup (ma_cons (m_c (.str "NeverStays")) (ma_cons (m_isX (isErr "WardError" errL "NeverStays") (m_var 0)) ma_nil))) ma_nil)))))))
  (s_seq (s_asg (g_name 1) (m_op addD (m_var 1) (m_lst (ma_cons (m_tup (ma_cons (m_c (.str "Uncaught")) (ma_cons (m_isX (isErr "WardError" errL "Uncaught") (m_var 0)) ma_nil))) (ma_cons (m_tup (ma_cons (m_c (.str "OtherFaces")) (ma_cons (m_isX (isErr "WardError" errL "OtherFaces") (m_var 0)) ma_nil))) (ma_cons (m_tup (ma_cons (m_c (.str "BadName")) (ma_cons (m_isX (isErr "WardError" errL "BadName") (m_var 0)) ma_nil))) (ma_cons (m_tup (ma_cons (m_c (.str "NameTaken")) (ma_cons (m_isX (isErr "WardError" errL "NameTaken") (m_var 0)) ma_nil))) ma_nil)))))))
  (s_seq (s_asg (g_name 1) (m_op addD (m_var 1) (m_lst (ma_cons (m_tup (ma_cons (m_c (.str "NoWard")) (ma_cons (m_isX (isErr "WardError" errL "NoWard") (m_var 0)) ma_nil))) (ma_cons (m_tup (ma_cons (m_c (.str "NotHeard")) (ma_cons (m_isX (isErr "WardError" errL "NotHeard") (m_var 0)) ma_nil))) (ma_cons (m_tup (ma_cons (m_c (.str "NotAlike")) (ma_cons (m_isX (isErr "WardError" errL "NotAlike") (m_var 0)) ma_nil))) (ma_cons (m_tup (ma_cons (m_c (.str "Harmful")) (ma_cons (m_isX (isErr "WardError" errL "Harmful") (m_var 0)) ma_nil))) ma_nil)))))))
  (s_seq (s_asg (g_name 1) (m_op addD (m_var 1) (m_lst (ma_cons (m_tup (ma_cons (m_c (.str "NothingToUndo")) (ma_cons (m_isX (isErr "WardError" errL "NothingToUndo") (m_var 0)) ma_nil))) (ma_cons (m_tup (ma_cons (m_c (.str "NothingToRedo")) (ma_cons (m_isX (isErr "WardError" errL "NothingToRedo") (m_var 0)) ma_nil))) (ma_cons (m_tup (ma_cons (m_c (.str "InvalidCommand")) (ma_cons (m_isX (isErr "WardError" errL "InvalidCommand") (m_var 0)) ma_nil))) ma_nil))))))
  (s_ret (m_fz (mf_lc (mi_of (m_var 1)) [2, 3] (g_tup 2 (g_cons (g_name 2) (g_cons (g_name 3) g_nil))) (m_tr (m_var 3)) (m_var 2))))))))))
def F_law_sorts : List D → Sto → Option (R D × Sto) := runD 4 B_law_sorts
theorem ok_law_sorts {f : Addr} {fd : FuncData} (F : Fun K "_law_sorts" "_law_sorts" s_law_sorts f fd) (T : T1 K mg ad) : FnG P wo K mg base (L2.CX P wo) 1 f fd ["_law_e"] (spD K mg 1 F_law_sorts) :=
  fnD F sc_law_sorts fun cdv A out s H E w0 hq hr =>
  (pds_cons (pds_set (i := 1) (ps_set (i := 1) sc_law_sorts.nd rfl (Or.inl rfl) (pd_lst (pda_cons (pd_tup (pda_cons pd_str (pda_cons (pd_isX (f := isErr "WardError" errL "BadBook") (cval := .ref (ad "BadBook")) (cv := .ref (ad "BadBook")) (T.i "BadBook" (List.mem_of_getElem? (i := 1) rfl)) (fun _ h => h) rfl T.b_isinstance (pd_var (pv 0)) (pe_glob (v := .ref (ad "BadBook")) rfl (T.c "BadBook" (List.mem_of_getElem? (i := 1) rfl)) rfl)) pda_nil))) (pda_cons (pd_tup (pda_cons pd_str (pda_cons (pd_isX (f := isErr "WardError" errL "BadDevice") (cval := .ref (ad "BadDevice")) (cv := .ref (ad "BadDevice")) (T.i "BadDevice" (List.mem_of_getElem? (i := 2) rfl)) (fun _ h => h) rfl T.b_isinstance (pd_var (pv 0)) (pe_glob (v := .ref (ad "BadDevice")) rfl (T.c "BadDevice" (List.mem_of_getElem? (i := 2) rfl)) rfl)) pda_nil))) (pda_cons (pd_tup (pda_cons pd_str (pda_cons (pd_isX (f := isErr "WardError" errL "BadWard") (cval := .ref (ad "BadWard")) (cv := .ref (ad "BadWard")) (T.i "BadWard" (List.mem_of_getElem? (i := 3) rfl)) (fun _ h => h) rfl T.b_isinstance (pd_var (pv 0)) (pe_glob (v := .ref (ad "BadWard")) rfl (T.c "BadWard" (List.mem_of_getElem? (i := 3) rfl)) rfl)) pda_nil))) (pda_cons (pd_tup (pda_cons pd_str (pda_cons (pd_isX (f := isErr "WardError" errL "BadGuest") (cval := .ref (ad "BadGuest")) (cv := .ref (ad "BadGuest")) (T.i "BadGuest" (List.mem_of_getElem? (i := 4) rfl)) (fun _ h => h) rfl T.b_isinstance (pd_var (pv 0)) (pe_glob (v := .ref (ad "BadGuest")) rfl (T.c "BadGuest" (List.mem_of_getElem? (i := 4) rfl)) rfl)) pda_nil))) pda_nil)))))) (by intro zi h; first | (cases h; done) | (cases h; simp)))
  (pds_cons (pds_set (i := 1) (ps_set (i := 1) sc_law_sorts.nd rfl (Or.inl rfl) (pd_add (pd_var (pv 1)) (pd_lst (pda_cons (pd_tup (pda_cons pd_str (pda_cons (pd_isX (f := isErr "WardError" errL "BadOnlooker") (cval := .ref (ad "BadOnlooker")) (cv := .ref (ad "BadOnlooker")) (T.i "BadOnlooker" (List.mem_of_getElem? (i := 5) rfl)) (fun _ h => h) rfl T.b_isinstance (pd_var (pv 0)) (pe_glob (v := .ref (ad "BadOnlooker")) rfl (T.c "BadOnlooker" (List.mem_of_getElem? (i := 5) rfl)) rfl)) pda_nil))) (pda_cons (pd_tup (pda_cons pd_str (pda_cons (pd_isX (f := isErr "WardError" errL "BadText") (cval := .ref (ad "BadText")) (cv := .ref (ad "BadText")) (T.i "BadText" (List.mem_of_getElem? (i := 6) rfl)) (fun _ h => h) rfl T.b_isinstance (pd_var (pv 0)) (pe_glob (v := .ref (ad "BadText")) rfl (T.c "BadText" (List.mem_of_getElem? (i := 6) rfl)) rfl)) pda_nil))) (pda_cons (pd_tup (pda_cons pd_str (pda_cons (pd_isX (f := isErr "WardError" errL "BadChoice") (cval := .ref (ad "BadChoice")) (cv := .ref (ad "BadChoice")) (T.i "BadChoice" (List.mem_of_getElem? (i := 7) rfl)) (fun _ h => h) rfl T.b_isinstance (pd_var (pv 0)) (pe_glob (v := .ref (ad "BadChoice")) rfl (T.c "BadChoice" (List.mem_of_getElem? (i := 7) rfl)) rfl)) pda_nil))) (pda_cons (pd_tup (pda_cons pd_str (pda_cons (pd_isX (f := isErr "WardError" errL "TooMany") (cval := .ref (ad "TooMany")) (cv := .ref (ad "TooMany")) (T.i "TooMany" (List.mem_of_getElem? (i := 8) rfl)) (fun _ h => h) rfl T.b_isinstance (pd_var (pv 0)) (pe_glob (v := .ref (ad "TooMany")) rfl (T.c "TooMany" (List.mem_of_getElem? (i := 8) rfl)) rfl)) pda_nil))) pda_nil))))))) (by intro zi h; first | (cases h; done) | (cases h; simp)))
  (pds_cons (pds_set (i := 1) (ps_set (i := 1) sc_law_sorts.nd rfl (Or.inl rfl) (pd_add (pd_var (pv 1)) (pd_lst (pda_cons (pd_tup (pda_cons pd_str (pda_cons (pd_isX (f := isErr "WardError" errL "CannotCome") (cval := .ref (ad "CannotCome")) (cv := .ref (ad "CannotCome")) (T.i "CannotCome" (List.mem_of_getElem? (i := 9) rfl)) (fun _ h => h) rfl T.b_isinstance (pd_var (pv 0)) (pe_glob (v := .ref (ad "CannotCome")) rfl (T.c "CannotCome" (List.mem_of_getElem? (i := 9) rfl)) rfl)) pda_nil))) (pda_cons (pd_tup (pda_cons pd_str (pda_cons (pd_isX (f := isErr "WardError" errL "Refused") (cval := .ref (ad "Refused")) (cv := .ref (ad "Refused")) (T.i "Refused" (List.mem_of_getElem? (i := 10) rfl)) (fun _ h => h) rfl T.b_isinstance (pd_var (pv 0)) (pe_glob (v := .ref (ad "Refused")) rfl (T.c "Refused" (List.mem_of_getElem? (i := 10) rfl)) rfl)) pda_nil))) (pda_cons (pd_tup (pda_cons pd_str (pda_cons (pd_isX (f := isErr "WardError" errL "NeverSure") (cval := .ref (ad "NeverSure")) (cv := .ref (ad "NeverSure")) (T.i "NeverSure" (List.mem_of_getElem? (i := 11) rfl)) (fun _ h => h) rfl T.b_isinstance (pd_var (pv 0)) (pe_glob (v := .ref (ad "NeverSure")) rfl (T.c "NeverSure" (List.mem_of_getElem? (i := 11) rfl)) rfl)) pda_nil))) (pda_cons (pd_tup (pda_cons pd_str (pda_cons (pd_isX (f := isErr "WardError" errL "NeverStays") (cval := .ref (ad "NeverStays")) (cv := .ref (ad "NeverStays")) (T.i "NeverStays" (List.mem_of_getElem? (i := 12) rfl)) (fun _ h => h) rfl T.b_isinstance (pd_var (pv 0)) (pe_glob (v := .ref (ad "NeverStays")) rfl (T.c "NeverStays" (List.mem_of_getElem? (i := 12) rfl)) rfl)) pda_nil))) pda_nil))))))) (by intro zi h; first | (cases h; done) | (cases h; simp)))
  (pds_cons (pds_set (i := 1) (ps_set (i := 1) sc_law_sorts.nd rfl (Or.inl rfl) (pd_add (pd_var (pv 1)) (pd_lst (pda_cons (pd_tup (pda_cons pd_str (pda_cons (pd_isX (f := isErr "WardError" errL "Uncaught") (cval := .ref (ad "Uncaught")) (cv := .ref (ad "Uncaught")) (T.i "Uncaught" (List.mem_of_getElem? (i := 13) rfl)) (fun _ h => h) rfl T.b_isinstance (pd_var (pv 0)) (pe_glob (v := .ref (ad "Uncaught")) rfl (T.c "Uncaught" (List.mem_of_getElem? (i := 13) rfl)) rfl)) pda_nil))) (pda_cons (pd_tup (pda_cons pd_str (pda_cons (pd_isX (f := isErr "WardError" errL "OtherFaces") (cval := .ref (ad "OtherFaces")) (cv := .ref (ad "OtherFaces")) (T.i "OtherFaces" (List.mem_of_getElem? (i := 20) rfl)) (fun _ h => h) rfl T.b_isinstance (pd_var (pv 0)) (pe_glob (v := .ref (ad "OtherFaces")) rfl (T.c "OtherFaces" (List.mem_of_getElem? (i := 20) rfl)) rfl)) pda_nil))) (pda_cons (pd_tup (pda_cons pd_str (pda_cons (pd_isX (f := isErr "WardError" errL "BadName") (cval := .ref (ad "BadName")) (cv := .ref (ad "BadName")) (T.i "BadName" (List.mem_of_getElem? (i := 14) rfl)) (fun _ h => h) rfl T.b_isinstance (pd_var (pv 0)) (pe_glob (v := .ref (ad "BadName")) rfl (T.c "BadName" (List.mem_of_getElem? (i := 14) rfl)) rfl)) pda_nil))) (pda_cons (pd_tup (pda_cons pd_str (pda_cons (pd_isX (f := isErr "WardError" errL "NameTaken") (cval := .ref (ad "NameTaken")) (cv := .ref (ad "NameTaken")) (T.i "NameTaken" (List.mem_of_getElem? (i := 15) rfl)) (fun _ h => h) rfl T.b_isinstance (pd_var (pv 0)) (pe_glob (v := .ref (ad "NameTaken")) rfl (T.c "NameTaken" (List.mem_of_getElem? (i := 15) rfl)) rfl)) pda_nil))) pda_nil))))))) (by intro zi h; first | (cases h; done) | (cases h; simp)))
  (pds_cons (pds_set (i := 1) (ps_set (i := 1) sc_law_sorts.nd rfl (Or.inl rfl) (pd_add (pd_var (pv 1)) (pd_lst (pda_cons (pd_tup (pda_cons pd_str (pda_cons (pd_isX (f := isErr "WardError" errL "NoWard") (cval := .ref (ad "NoWard")) (cv := .ref (ad "NoWard")) (T.i "NoWard" (List.mem_of_getElem? (i := 16) rfl)) (fun _ h => h) rfl T.b_isinstance (pd_var (pv 0)) (pe_glob (v := .ref (ad "NoWard")) rfl (T.c "NoWard" (List.mem_of_getElem? (i := 16) rfl)) rfl)) pda_nil))) (pda_cons (pd_tup (pda_cons pd_str (pda_cons (pd_isX (f := isErr "WardError" errL "NotHeard") (cval := .ref (ad "NotHeard")) (cv := .ref (ad "NotHeard")) (T.i "NotHeard" (List.mem_of_getElem? (i := 17) rfl)) (fun _ h => h) rfl T.b_isinstance (pd_var (pv 0)) (pe_glob (v := .ref (ad "NotHeard")) rfl (T.c "NotHeard" (List.mem_of_getElem? (i := 17) rfl)) rfl)) pda_nil))) (pda_cons (pd_tup (pda_cons pd_str (pda_cons (pd_isX (f := isErr "WardError" errL "NotAlike") (cval := .ref (ad "NotAlike")) (cv := .ref (ad "NotAlike")) (T.i "NotAlike" (List.mem_of_getElem? (i := 18) rfl)) (fun _ h => h) rfl T.b_isinstance (pd_var (pv 0)) (pe_glob (v := .ref (ad "NotAlike")) rfl (T.c "NotAlike" (List.mem_of_getElem? (i := 18) rfl)) rfl)) pda_nil))) (pda_cons (pd_tup (pda_cons pd_str (pda_cons (pd_isX (f := isErr "WardError" errL "Harmful") (cval := .ref (ad "Harmful")) (cv := .ref (ad "Harmful")) (T.i "Harmful" (List.mem_of_getElem? (i := 19) rfl)) (fun _ h => h) rfl T.b_isinstance (pd_var (pv 0)) (pe_glob (v := .ref (ad "Harmful")) rfl (T.c "Harmful" (List.mem_of_getElem? (i := 19) rfl)) rfl)) pda_nil))) pda_nil))))))) (by intro zi h; first | (cases h; done) | (cases h; simp)))
  (pds_cons (pds_set (i := 1) (ps_set (i := 1) sc_law_sorts.nd rfl (Or.inl rfl) (pd_add (pd_var (pv 1)) (pd_lst (pda_cons (pd_tup (pda_cons pd_str (pda_cons (pd_isX (f := isErr "WardError" errL "NothingToUndo") (cval := .ref (ad "NothingToUndo")) (cv := .ref (ad "NothingToUndo")) (T.i "NothingToUndo" (List.mem_of_getElem? (i := 21) rfl)) (fun _ h => h) rfl T.b_isinstance (pd_var (pv 0)) (pe_glob (v := .ref (ad "NothingToUndo")) rfl (T.c "NothingToUndo" (List.mem_of_getElem? (i := 21) rfl)) rfl)) pda_nil))) (pda_cons (pd_tup (pda_cons pd_str (pda_cons (pd_isX (f := isErr "WardError" errL "NothingToRedo") (cval := .ref (ad "NothingToRedo")) (cv := .ref (ad "NothingToRedo")) (T.i "NothingToRedo" (List.mem_of_getElem? (i := 22) rfl)) (fun _ h => h) rfl T.b_isinstance (pd_var (pv 0)) (pe_glob (v := .ref (ad "NothingToRedo")) rfl (T.c "NothingToRedo" (List.mem_of_getElem? (i := 22) rfl)) rfl)) pda_nil))) (pda_cons (pd_tup (pda_cons pd_str (pda_cons (pd_isX (f := isErr "WardError" errL "InvalidCommand") (cval := .ref (ad "InvalidCommand")) (cv := .ref (ad "InvalidCommand")) (T.i "InvalidCommand" (List.mem_of_getElem? (i := 23) rfl)) (fun _ h => h) rfl T.b_isinstance (pd_var (pv 0)) (pe_glob (v := .ref (ad "InvalidCommand")) rfl (T.c "InvalidCommand" (List.mem_of_getElem? (i := 23) rfl)) rfl)) pda_nil))) pda_nil)))))) (by intro zi h; first | (cases h; done) | (cases h; simp)))
  (pds_onE (pds_ret (pd_pf (pf_lc (own := [("_law_word", 2), ("_law_is_so", 3)]) rfl sc_law_sorts.nd (pdi_any (pd_var (pv 1))) (blkOk_by (own := [("_law_word", 2), ("_law_is_so", 3)]) (N := N_law_sorts) (sc := defScope s_law_sorts) (by decide +kernel)) (fun _ _ _ _ _ => (pdg_tupK K rfl (pdg_cons (pdg_name (i := 2) (pg_name (i := 2) sc_law_sorts.nd rfl (Or.inl rfl)) (by intro zi h; cases h)) (pdg_cons (pdg_name (i := 3) (pg_name (i := 3) sc_law_sorts.nd rfl (Or.inl rfl)) (by intro zi h; cases h)) pdg_nil)))) (fun _ _ _ _ _ => (pdts_one (pdt_val (pd_var (pv 3))))) (fun _ _ _ _ _ => (pd_var (pv 2)))))))))))))
abbrev s_law_worth : PySem.Stmt := top 35
abbrev N_law_worth : List Str := ["_law_word", "_law_e"]
theorem sc_law_worth : FnScope N_law_worth ["_law_word", "_law_e"] (defScope s_law_worth) := ⟨rfl, rfl, rfl, by decide +kernel, rfl, by decide +kernel, by decide +kernel⟩
def B_law_worth : SM := (s_seq (s_if (m_cmpT inD (m_var 0) (m_tup (ma_cons (m_c (.str "BadBook")) (ma_cons (m_c (.str "BadDevice")) (ma_cons (m_c (.str "BadWard")) (ma_cons (m_c (.str "BadGuest")) (ma_cons (m_c (.str "BadOnlooker")) ma_nil))))))) (s_ret (m_fldX ["BadBook", "BadDevice", "BadWard", "BadGuest", "BadOnlooker"] "part" (m_var 1))) s_nx)
  (s_seq (s_if (m_cmpT eqF (m_var 0) (m_c (.str "BadText"))) (s_ret (m_fldX ["BadText"] "line" (m_var 1))) s_nx)
  (s_seq (s_if (m_cmpT eqF (m_var 0) (m_c (.str "BadChoice"))) (s_ret (m_fldX ["BadChoice"] "choice" (m_var 1))) s_nx)
  (s_seq (s_if (m_cmpT eqF (m_var 0) (m_c (.str "TooMany"))) (s_ret (m_fldX ["TooMany"] "most" (m_var 1))) s_nx)
  (s_seq (s_if (m_cmpT eqF (m_var 0) (m_c (.str "CannotCome"))) (s_ret (m_fldX ["CannotCome"] "place" (m_var 1))) s_nx)
  (s_seq (s_if (m_cmpT inD (m_var 0) (m_tup (ma_cons (m_c (.str "Refused")) (ma_cons (m_c (.str "NeverSure")) (ma_cons (m_c (.str "Uncaught")) (ma_cons (m_c (.str "Harmful")) ma_nil)))))) (s_ret (m_fldX ["Refused", "NeverSure", "Uncaught", "Harmful"] "paper" (m_var 1))) s_nx)
  (s_seq (s_if (m_cmpT eqF (m_var 0) (m_c (.str "NeverStays"))) (s_ret (m_fldX ["NeverStays"] "number" (m_var 1))) s_nx)
  (s_seq (s_if (m_cmpT inD (m_var 0) (m_tup (ma_cons (m_c (.str "BadName")) (ma_cons (m_c (.str "NameTaken")) (ma_cons (m_c (.str "NoWard")) ma_nil))))) (s_ret (m_fldX ["BadName", "NameTaken", "NoWard"] "name" (m_var 1))) s_nx)
  (s_seq (s_if (m_cmpT eqF (m_var 0) (m_c (.str "NotHeard"))) (s_ret (m_fldX ["NotHeard"] "heard" (m_var 1))) s_nx)
  (s_seq (s_if (m_cmpT eqF (m_var 0) (m_c (.str "NotAlike"))) (s_ret (m_fldX ["NotAlike"] "log" (m_var 1))) s_nx)
  (s_ret (m_c .non))))))))))))
def F_law_worth : List D → Sto → Option (R D × Sto) := runD 2 B_law_worth
theorem ok_law_worth {f : Addr} {fd : FuncData} (F : Fun K "_law_worth" "_law_worth" s_law_worth f fd) (T : T1 K mg ad) : FnG P wo K mg base (L2.CX P wo) 1 f fd ["_law_word", "_law_e"] (spD K mg 2 F_law_worth) :=
  fnD F sc_law_worth fun cdv A out s H E w0 hq hr =>
  (pds_cons (pds_if (pdt_cmp op_inD2 c2_in (pd_var (pv 0)) (pd_tup (pda_cons pd_str (pda_cons pd_str (pda_cons pd_str (pda_cons pd_str (pda_cons pd_str pda_nil)))))) (by rfl)) (pds_onE (pds_ret (pd_fldX (cs := ["BadBook", "BadDevice", "BadWard", "BadGuest", "BadOnlooker"]) (T.f ["BadBook", "BadDevice", "BadWard", "BadGuest", "BadOnlooker"] "part" (by decide +kernel)) (pd_var (pv 1))))) pds_nil)
  (pds_cons (pds_if (pdt_cmp (op_eqF hr.units) c2_eq (pd_var (pv 0)) pd_str (nomark _)) (pds_onE (pds_ret (pd_fldX (cs := ["BadText"]) (T.f ["BadText"] "line" (by decide +kernel)) (pd_var (pv 1))))) pds_nil)
  (pds_cons (pds_if (pdt_cmp (op_eqF hr.units) c2_eq (pd_var (pv 0)) pd_str (nomark _)) (pds_onE (pds_ret (pd_fldX (cs := ["BadChoice"]) (T.f ["BadChoice"] "choice" (by decide +kernel)) (pd_var (pv 1))))) pds_nil)
  (pds_cons (pds_if (pdt_cmp (op_eqF hr.units) c2_eq (pd_var (pv 0)) pd_str (nomark _)) (pds_onE (pds_ret (pd_fldX (cs := ["TooMany"]) (T.f ["TooMany"] "most" (by decide +kernel)) (pd_var (pv 1))))) pds_nil)
  (pds_cons (pds_if (pdt_cmp (op_eqF hr.units) c2_eq (pd_var (pv 0)) pd_str (nomark _)) (pds_onE (pds_ret (pd_fldX (cs := ["CannotCome"]) (T.f ["CannotCome"] "place" (by decide +kernel)) (pd_var (pv 1))))) pds_nil)
  (pds_cons (pds_if (pdt_cmp op_inD2 c2_in (pd_var (pv 0)) (pd_tup (pda_cons pd_str (pda_cons pd_str (pda_cons pd_str (pda_cons pd_str pda_nil))))) (by rfl)) (pds_onE (pds_ret (pd_fldX (cs := ["Refused", "NeverSure", "Uncaught", "Harmful"]) (T.f ["Refused", "NeverSure", "Uncaught", "Harmful"] "paper" (by decide +kernel)) (pd_var (pv 1))))) pds_nil)
  (pds_cons (pds_if (pdt_cmp (op_eqF hr.units) c2_eq (pd_var (pv 0)) pd_str (nomark _)) (pds_onE (pds_ret (pd_fldX (cs := ["NeverStays"]) (T.f ["NeverStays"] "number" (by decide +kernel)) (pd_var (pv 1))))) pds_nil)
  (pds_cons (pds_if (pdt_cmp op_inD2 c2_in (pd_var (pv 0)) (pd_tup (pda_cons pd_str (pda_cons pd_str (pda_cons pd_str pda_nil)))) (by rfl)) (pds_onE (pds_ret (pd_fldX (cs := ["BadName", "NameTaken", "NoWard"]) (T.f ["BadName", "NameTaken", "NoWard"] "name" (by decide +kernel)) (pd_var (pv 1))))) pds_nil)
  (pds_cons (pds_if (pdt_cmp (op_eqF hr.units) c2_eq (pd_var (pv 0)) pd_str (nomark _)) (pds_onE (pds_ret (pd_fldX (cs := ["NotHeard"]) (T.f ["NotHeard"] "heard" (by decide +kernel)) (pd_var (pv 1))))) pds_nil)
  (pds_cons (pds_if (pdt_cmp (op_eqF hr.units) c2_eq (pd_var (pv 0)) pd_str (nomark _)) (pds_onE (pds_ret (pd_fldX (cs := ["NotAlike"]) (T.f ["NotAlike"] "log" (by decide +kernel)) (pd_var (pv 1))))) pds_nil)
  (pds_onE (pds_ret pd_non))))))))))))
abbrev s_law_is_caught : PySem.Stmt := top 36
abbrev N_law_is_caught : List Str := ["_law_it", "_law_found", "_law_e"]
theorem sc_law_is_caught : FnScope N_law_is_caught ["_law_it"] (defScope s_law_is_caught) := ⟨rfl, rfl, rfl, by decide +kernel, rfl, by decide +kernel, by decide +kernel⟩
def B_law_is_caught : SM := (s_seq (s_asg (g_name 1) (m_c (.str "odd")))
  (s_seq (s_try 2 ["TooMany"] (fun _ => true) (s_raise "TooMany" "most" (m_var 0)) (fun c fs => (s_asg (g_name 1) (m_if (m_tr (m_c (.bl true))) (m_xf 2 fs "most") (m_c (.str "odd"))))))
  (s_ret (m_cmp eqF (m_cb reprD (ma_cons (m_var 1) ma_nil)) (m_cb reprD (ma_cons (m_var 0) ma_nil))))))
def F_law_is_caught : List D → Sto → Option (R D × Sto) := runD 3 B_law_is_caught
theorem ok_law_is_caught {f : Addr} {fd : FuncData} (F : Fun K "_law_is_caught" "_law_is_caught" s_law_is_caught f fd) (T : T1 K mg ad) (G_TooMany : ErrG P wo K mg base 1 "TooMany" "most" "most") (hs : Sys base) : FnG P wo K mg base (L2.CX P wo) 3 f fd ["_law_it"] (spD K mg 1 F_law_is_caught) :=
  fnD F sc_law_is_caught fun cdv A out s H E w0 hq hr =>
  (pds_cons (pds_set (i := 1) (ps_set (i := 1) sc_law_is_caught.nd rfl (Or.inl rfl) pd_str) (by intro zi h; first | (cases h; done) | (cases h; simp)))
  (pds_cons (pds_try (i := 2) (errs := ["TooMany"]) (sub := fun _ => true) (T.tr ["TooMany"] (by decide +kernel)) (fun hb hsu => ps_try_as rfl rfl sc_law_is_caught.nd rfl rfl (names_of (T.c "WardError" (List.mem_of_getElem? (i := 0) rfl)) rfl) takesCx hb hsu) (fun _ _ _ tkt _ => (pds_onE (pds_raiseG rfl tkt G_TooMany hr (by decide) rfl (pd_var (pv 0))))) (fun aa oe CC dd pn c fs hz hf hm hc _ => ((pds_onE (pds_set (i := 1) (ps_set (i := 1) sc_law_is_caught.nd rfl (Or.inl rfl) (pd_if (pdt_val (pd_isE (T.i "TooMany" (List.mem_of_getElem? (i := 8) rfl) c true (tm_one hc) _ hm).1 hz hf (T.i "TooMany" (List.mem_of_getElem? (i := 8) rfl) c true (tm_one hc) _ hm).2 rfl T.b_isinstance rfl (T.c "TooMany" (List.mem_of_getElem? (i := 8) rfl)) (pv 2))) (pd_xf (T.f ["TooMany"] "most" (by decide +kernel) c hc _ hm).1 (T.f ["TooMany"] "most" (by decide +kernel) c hc _ hm).2 hz hf (pv 2)) pd_str)) (by intro zi h; first | (cases h; done) | (cases h; simp)))))))
  (pds_onE (pds_ret (pd_cmp (op_eqF hr.units) c2_eq (pd_callB (call_repr hq hr.units hs) oa_repr rfl T.b_repr (by decide +kernel) (pda_cons (pd_var (pv 1)) pda_nil)) (pd_callB (call_repr hq hr.units hs) oa_repr rfl T.b_repr (by decide +kernel) (pda_cons (pd_var (pv 0)) pda_nil)) (nomark _))))))
abbrev s_law_value : PySem.Stmt := top 37
abbrev N_law_value : List Str := ["_law_deck_here", "_law_deep", "_law_some", "_law_lot", "_law_k", "_law_way", "_law_it"]
theorem sc_law_value : FnScope N_law_value ["_law_deck_here", "_law_deep"] (defScope s_law_value) := ⟨rfl, rfl, rfl, by decide +kernel, rfl, by decide +kernel, by decide +kernel⟩
def B_law_value (F : List D → Sto → Option (R D × Sto)) : SM := (s_seq (s_if (mt_or (m_cmpT eqF (m_var 1) (m_c (.int 0))) (m_cmpT eqF (m_call 2 F_law_draw (ma_cons (m_var 0) (ma_cons (m_c (.int 2)) ma_nil))) (m_c (.int 0)))) (s_seq (s_asg (g_name 2) (m_lst (ma_cons (m_c .non) (ma_cons (m_c (.bl true)) (ma_cons (m_c (.bl false)) (ma_cons (m_c (.int 0)) (ma_cons (m_neg (m_c (.int 1))) (ma_cons (m_c (.int 7)) (ma_cons (m_op powD (m_c (.int 10)) (m_c (.int 39))) (ma_cons (m_c (.str "")) (ma_cons (m_c (.str "rooms")) (ma_cons (m_c (.str "a b")) (ma_cons (m_c (.str "\n")) (ma_cons (m_tup ma_nil) (ma_cons (m_lst ma_nil) (ma_cons (m_c (.dct [])) (ma_cons (m_op mulSD (m_c (.str "x")) (m_c (.int 60))) ma_nil)))))))))))))))))
  (s_ret (m_call 2 F_law_pick (ma_cons (m_var 0) (ma_cons (m_var 2) ma_nil))))) s_nx)
  (s_seq (s_asg (g_name 3) (m_fz (mf_lc (mi_range1 (ma_cons (m_call 2 F_law_draw (ma_cons (m_var 0) (ma_cons (m_c (.int 4)) ma_nil))) ma_nil)) [4] (g_name 4) (M.pure true) (m_call 2 F (ma_cons (m_var 0) (ma_cons (m_op subD (m_var 1) (m_c (.int 1))) ma_nil))))))
  (s_seq (s_asg (g_name 5) (m_call 2 F_law_draw (ma_cons (m_var 0) (ma_cons (m_c (.int 3)) ma_nil))))
  (s_ret (m_if (m_cmpT eqF (m_var 5) (m_c (.int 0))) (m_cb tupleD (ma_cons (m_var 3) ma_nil)) (m_if (m_cmpT eqF (m_var 5) (m_c (.int 1))) (m_var 3) (m_cb dictD (ma_cons (m_fz (mf_lc (mi_enum (ma_cons (m_var 3) ma_nil)) [4, 6] (g_tup 2 (g_cons (g_name 4) (g_cons (g_name 6) g_nil))) (M.pure true) (m_tup (ma_cons (m_var 4) (ma_cons (m_var 6) ma_nil))))) ma_nil))))))))
def F_law_value : Nat → List D → Sto → Option (R D × Sto)
  | 0 => fun _ _ => none
  | d + 1 => runD 7 (B_law_value (F_law_value d))
theorem ok_law_value {f : Addr} {fd : FuncData} {j : Nat} {Fr : List D → Sto → Option (R D × Sto)} (F : Fun K "_law_value" "_law_value" s_law_value f fd) (T : T1 K mg ad) (G_law_draw : Cal P wo K mg base (L2.CX P wo) 1 "_law_draw" (spD K mg 2 F_law_draw)) (G_law_pick : Cal P wo K mg base (L2.CX P wo) 2 "_law_pick" (spD K mg 2 F_law_pick)) (hj : 2 ≤ j) (GS : Cal P wo K mg base (L2.CX P wo) j "_law_value" (spD K mg 2 Fr)) :
    FnG P wo K mg base (L2.CX P wo) (j + 1) f fd ["_law_deck_here", "_law_deep"] (spD K mg 2 (runD 7 (B_law_value Fr))) :=
  fnD F sc_law_value fun cdv A out s H E w0 hq hr =>
  (pds_cons (pds_if (pdt_bool (pdw_or (pdt_cmp (op_eqF hr.units) c2_eq (pd_var (pv 1)) pd_int (nomark _)) (pdw_or1 (pdt_cmp (op_eqF hr.units) c2_eq (pd_call G_law_draw hq hr (by omega) rfl takesCx (pda_cons (pd_var (pv 0)) (pda_cons pd_int pda_nil))) pd_int (nomark _))))) (pds_cons (pds_set (i := 2) (ps_set (i := 2) sc_law_value.nd rfl (Or.inl rfl) (pd_lst (pda_cons pd_non (pda_cons pd_bl (pda_cons pd_bl (pda_cons pd_int (pda_cons (pd_neg pd_int) (pda_cons pd_int (pda_cons (pd_pow pd_int pd_int) (pda_cons pd_str (pda_cons pd_str (pda_cons pd_str (pda_cons pd_str (pda_cons (pd_tup pda_nil) (pda_cons (pd_lst pda_nil) (pda_cons (pd_dnil) (pda_cons (pd_mulS pd_str pd_int) pda_nil))))))))))))))))) (by intro zi h; first | (cases h; done) | (cases h; simp)))
  (pds_onE (pds_ret (pd_call G_law_pick hq hr (by omega) rfl takesCx (pda_cons (pd_var (pv 0)) (pda_cons (pd_var (pv 2)) pda_nil)))))) pds_nil)
  (pds_cons (pds_set (i := 3) (ps_fz (ps_lcF (i := 3) (own := [("_law_k", 4)]) rfl sc_law_value.nd rfl rfl (sw_true rfl rfl rfl (by decide +kernel)) (pdi_range1 rfl T.b_range (pda_cons (pd_call G_law_draw hq hr (by omega) rfl takesCx (pda_cons (pd_var (pv 0)) (pda_cons pd_int pda_nil))) pda_nil)) (blkOk_by (own := [("_law_k", 4)]) (N := N_law_value) (sc := defScope s_law_value) (by decide +kernel)) (fun _ _ _ _ _ => (pdg_name (i := 4) (pg_name (i := 4) sc_law_value.nd rfl (Or.inl rfl)) (by intro zi h; cases h))) (fun _ _ _ _ _ => pdts_nil) (fun _ _ _ _ _ => (pd_call GS hq hr (by omega) rfl takesNo (pda_cons (pd_var (pv 0)) (pda_cons (pd_sub (pd_var (pv 1)) pd_int) pda_nil)))))) (by intro zi h; first | (cases h; done) | (cases h; simp)))
  (pds_cons (pds_set (i := 5) (ps_set (i := 5) sc_law_value.nd rfl (Or.inl rfl) (pd_call G_law_draw hq hr (by omega) rfl takesCx (pda_cons (pd_var (pv 0)) (pda_cons pd_int pda_nil)))) (by intro zi h; first | (cases h; done) | (cases h; simp)))
  (pds_onE (pds_ret (pd_if (pdt_cmp (op_eqF hr.units) c2_eq (pd_var (pv 5)) pd_int (nomark _)) (pd_callTy call_tuple_of oa_tuple rfl T.b_tuple (by decide +kernel) (pda_cons (pd_var (pv 3)) pda_nil)) (pd_if (pdt_cmp (op_eqF hr.units) c2_eq (pd_var (pv 5)) pd_int (nomark _)) (pd_var (pv 3)) (pd_callTy (call_dictP rfl) oa_dict rfl T.b_dict (by decide +kernel) (pda_cons (pd_pf (pf_lc (own := [("_law_k", 4), ("_law_it", 6)]) rfl sc_law_value.nd (pdi_enum rfl T.b_enumerate (pda_cons (pd_var (pv 3)) pda_nil)) (blkOk_by (own := [("_law_k", 4), ("_law_it", 6)]) (N := N_law_value) (sc := defScope s_law_value) (by decide +kernel)) (fun _ _ _ _ _ => (pdg_tupK K rfl (pdg_cons (pdg_name (i := 4) (pg_name (i := 4) sc_law_value.nd rfl (Or.inl rfl)) (by intro zi h; cases h)) (pdg_cons (pdg_name (i := 6) (pg_name (i := 6) sc_law_value.nd rfl (Or.inl rfl)) (by intro zi h; cases h)) pdg_nil)))) (fun _ _ _ _ _ => pdts_nil) (fun _ _ _ _ _ => (pd_tup (pda_cons (pd_var (pv 4)) (pda_cons (pd_var (pv 6)) pda_nil)))))) pda_nil)))))))))
abbrev s_law_made : PySem.Stmt := top 38
abbrev N_law_made : List Str := ["_law_word", "_law_it", "_law_is_named", "_law_some", "_law_e"]
theorem sc_law_made : FnScope N_law_made ["_law_word", "_law_it", "_law_is_named"] (defScope s_law_made) := ⟨rfl, rfl, rfl, by decide +kernel, rfl, by decide +kernel, by decide +kernel⟩
def B_law_made : SM := (s_seq (s_asg (g_name 3) (m_lst (ma_cons (m_call 1 F_law_made_bare (ma_cons (m_var 0) ma_nil)) (ma_cons (m_call 3 F_law_made_a (ma_cons (m_var 0) (ma_cons (m_var 1) (ma_cons (m_var 2) ma_nil)))) (ma_cons (m_call 3 F_law_made_b (ma_cons (m_var 0) (ma_cons (m_var 1) (ma_cons (m_var 2) ma_nil)))) ma_nil)))))
  (s_seq (s_asg (g_name 3) (m_op addD (m_var 3) (m_lst (ma_cons (m_call 3 F_law_made_c (ma_cons (m_var 0) (ma_cons (m_var 1) (ma_cons (m_var 2) ma_nil)))) (ma_cons (m_call 3 F_law_made_d (ma_cons (m_var 0) (ma_cons (m_var 1) (ma_cons (m_var 2) ma_nil)))) ma_nil)))))
  (s_ret (m_op ixD (m_fz (mf_lc (mi_of (m_var 3)) [4] (g_name 4) (m_cmpT isnF (m_var 4) (m_c .non)) (m_var 4))) (m_c (.int 0))))))
def F_law_made : List D → Sto → Option (R D × Sto) := runD 5 B_law_made
theorem ok_law_made {f : Addr} {fd : FuncData} (F : Fun K "_law_made" "_law_made" s_law_made f fd) (T : T1 K mg ad) (G_law_made_b : Cal P wo K mg base (L2.CX P wo) 3 "_law_made_b" (spD K mg 3 F_law_made_b)) (G_law_made_a : Cal P wo K mg base (L2.CX P wo) 3 "_law_made_a" (spD K mg 3 F_law_made_a)) (G_law_made_bare : Cal P wo K mg base (L2.CX P wo) 1 "_law_made_bare" (spD K mg 1 F_law_made_bare)) (G_law_made_d : Cal P wo K mg base (L2.CX P wo) 3 "_law_made_d" (spD K mg 3 F_law_made_d)) (G_law_made_c : Cal P wo K mg base (L2.CX P wo) 3 "_law_made_c" (spD K mg 3 F_law_made_c)) : FnG P wo K mg base (L2.CX P wo) 4 f fd ["_law_word", "_law_it", "_law_is_named"] (spD K mg 3 F_law_made) :=
  fnD F sc_law_made fun cdv A out s H E w0 hq hr =>
  (pds_cons (pds_set (i := 3) (ps_set (i := 3) sc_law_made.nd rfl (Or.inl rfl) (pd_lst (pda_cons (pd_call G_law_made_bare hq hr (by decide) rfl takesCx (pda_cons (pd_var (pv 0)) pda_nil)) (pda_cons (pd_call G_law_made_a hq hr (by decide) rfl takesCx (pda_cons (pd_var (pv 0)) (pda_cons (pd_var (pv 1)) (pda_cons (pd_var (pv 2)) pda_nil)))) (pda_cons (pd_call G_law_made_b hq hr (by decide) rfl takesCx (pda_cons (pd_var (pv 0)) (pda_cons (pd_var (pv 1)) (pda_cons (pd_var (pv 2)) pda_nil)))) pda_nil))))) (by intro zi h; first | (cases h; done) | (cases h; simp)))
  (pds_cons (pds_set (i := 3) (ps_set (i := 3) sc_law_made.nd rfl (Or.inl rfl) (pd_add (pd_var (pv 3)) (pd_lst (pda_cons (pd_call G_law_made_c hq hr (by decide) rfl takesCx (pda_cons (pd_var (pv 0)) (pda_cons (pd_var (pv 1)) (pda_cons (pd_var (pv 2)) pda_nil)))) (pda_cons (pd_call G_law_made_d hq hr (by decide) rfl takesCx (pda_cons (pd_var (pv 0)) (pda_cons (pd_var (pv 1)) (pda_cons (pd_var (pv 2)) pda_nil)))) pda_nil))))) (by intro zi h; first | (cases h; done) | (cases h; simp)))
  (pds_onE (pds_ret (pd_ixD (pd_pf (pf_lc (own := [("_law_e", 4)]) rfl sc_law_made.nd (pdi_any (pd_var (pv 3))) (blkOk_by (own := [("_law_e", 4)]) (N := N_law_made) (sc := defScope s_law_made) (by decide +kernel)) (fun _ _ _ _ _ => (pdg_name (i := 4) (pg_name (i := 4) sc_law_made.nd rfl (Or.inl rfl)) (by intro zi h; cases h))) (fun _ _ _ _ _ => (pdts_one (pdt_cmp op_notN c2_isnot (pd_var (pv 4)) pd_non (nomark _)))) (fun _ _ _ _ _ => (pd_var (pv 4))))) pd_int (fun _ _ => rfl))))))
abbrev slaw : PySem.Stmt := top 39
abbrev Nlaw : List Str := ["_law_script", "_law_deck_here", "_law_words", "_law_word", "_law_it", "_law_was", "_law_is_named", "_law_e", "_law_plain"]
theorem sclaw : FnScope Nlaw ["_law_script"] (defScope slaw) := ⟨rfl, rfl, rfl, by decide +kernel, rfl, by decide +kernel, by decide +kernel⟩
def Blaw : SM := (s_seq (s_asg (g_name 1) (m_call 1 F_law_deck (ma_cons (m_var 0) ma_nil)))
  (s_seq (s_asg (g_name 2) (m_lst (ma_cons (m_c (.str "BadBook")) (ma_cons (m_c (.str "BadDevice")) (ma_cons (m_c (.str "BadWard")) (ma_cons (m_c (.str "BadGuest")) (ma_cons (m_c (.str "BadOnlooker")) (ma_cons (m_c (.str "BadText")) (ma_cons (m_c (.str "BadChoice")) (ma_cons (m_c (.str "TooMany")) ma_nil))))))))))
  (s_seq (s_asg (g_name 2) (m_op addD (m_var 2) (m_lst (ma_cons (m_c (.str "CannotCome")) (ma_cons (m_c (.str "Refused")) (ma_cons (m_c (.str "NeverSure")) (ma_cons (m_c (.str "NeverStays")) (ma_cons (m_c (.str "Uncaught")) (ma_cons (m_c (.str "BadName")) (ma_cons (m_c (.str "NameTaken")) (ma_cons (m_c (.str "NoWard")) ma_nil)))))))))))
  (s_seq (s_asg (g_name 2) (m_op addD (m_var 2) (m_lst (ma_cons (m_c (.str "NotHeard")) (ma_cons (m_c (.str "NotAlike")) (ma_cons (m_c (.str "Harmful")) ma_nil))))))
  (s_seq (s_asg (g_name 2) (m_op addD (m_var 2) (m_lst (ma_cons (m_c (.str "OtherFaces")) (ma_cons (m_c (.str "NothingToUndo")) (ma_cons (m_c (.str "NothingToRedo")) (ma_cons (m_c (.str "InvalidCommand")) ma_nil)))))))
  (s_seq (s_for (mi_of (m_var 2)) (g_name 3) (s_seq (s_asg (g_name 4) (m_call 2 (F_law_value 4) (ma_cons (m_var 1) (ma_cons (m_c (.int 3)) ma_nil))))
  (s_seq (s_asg (g_name 5) (m_cb reprD (ma_cons (m_var 4) ma_nil)))
  (s_for (mi_of (m_tup (ma_cons (m_c (.bl false)) (ma_cons (m_c (.bl true)) ma_nil)))) (g_name 6) (s_seq (s_asg (g_name 7) (m_call 3 F_law_made (ma_cons (m_var 3) (ma_cons (m_var 4) (ma_cons (m_var 6) ma_nil)))))
  (s_seq (s_if (mt_or (m_cmpT neF (m_call 1 F_law_sorts (ma_cons (m_var 7) ma_nil)) (m_lst (ma_cons (m_var 3) ma_nil))) (mt_or (mt_not (m_tr (m_isX (isErr "WardError" errL "WardError") (m_var 7)))) (mt_not (m_tr (m_call 1 F_law_is_caught (ma_cons (m_var 4) ma_nil)))))) (s_ret (m_c (.bl false))) s_nx)
  (s_if (mt_or (m_cmpT neF (m_cb reprD (ma_cons (m_call 2 F_law_worth (ma_cons (m_var 3) (ma_cons (m_var 7) ma_nil))) ma_nil)) (m_if (m_cmpT inD (m_var 3) (m_slice (m_var 2) mo_none (mo_some (m_c (.int 19))))) (m_var 5) (m_cb reprD (ma_cons (m_c .non) ma_nil)))) (m_cmpT neF (m_cb reprD (ma_cons (m_var 4) ma_nil)) (m_var 5))) (s_ret (m_c (.bl false))) s_nx)))))))
  (s_seq (s_asg (g_name 8) (m_c (.exc "WardError" [])))
  (s_ret (m_and (m_cmp eqF (m_call 1 F_law_sorts (ma_cons (m_var 8) ma_nil)) (m_lst ma_nil)) (m_and (m_isX (isErrB errL true) (m_var 8)) (m_not (m_isX (isErrB errL false) (m_var 8)))))))))))))
def Flaw : List D → Sto → Option (R D × Sto) := runD 9 Blaw
theorem oklaw {f : Addr} {fd : FuncData} (F : Fun K "law" "law" slaw f fd) (T : T1 K mg ad) (G_law_deck : Cal P wo K mg base (L2.CX P wo) 1 "_law_deck" (spD K mg 1 F_law_deck)) (G_law_value : Cal P wo K mg base (L2.CX P wo) 7 "_law_value" (spD K mg 2 (F_law_value 4))) (G_law_made : Cal P wo K mg base (L2.CX P wo) 4 "_law_made" (spD K mg 3 F_law_made)) (G_law_is_caught : Cal P wo K mg base (L2.CX P wo) 3 "_law_is_caught" (spD K mg 1 F_law_is_caught)) (G_law_sorts : Cal P wo K mg base (L2.CX P wo) 1 "_law_sorts" (spD K mg 1 F_law_sorts)) (G_law_worth : Cal P wo K mg base (L2.CX P wo) 1 "_law_worth" (spD K mg 2 F_law_worth)) (Z_WardError : Err0 K mg "WardError") (hs : Sys base) : FnG P wo K mg base (L2.CX P wo) 8 f fd ["_law_script"] (spD K mg 1 Flaw) :=
  fnD F sclaw fun cdv A out s H E w0 hq hr =>
  (pds_cons (pds_set (i := 1) (ps_set (i := 1) sclaw.nd rfl (Or.inl rfl) (pd_call G_law_deck hq hr (by decide) rfl takesCx (pda_cons (pd_var (pv 0)) pda_nil))) (by intro zi h; first | (cases h; done) | (cases h; simp)))
  (pds_cons (pds_set (i := 2) (ps_set (i := 2) sclaw.nd rfl (Or.inl rfl) (pd_lst (pda_cons pd_str (pda_cons pd_str (pda_cons pd_str (pda_cons pd_str (pda_cons pd_str (pda_cons pd_str (pda_cons pd_str (pda_cons pd_str pda_nil)))))))))) (by intro zi h; first | (cases h; done) | (cases h; simp)))
  (pds_cons (pds_set (i := 2) (ps_set (i := 2) sclaw.nd rfl (Or.inl rfl) (pd_add (pd_var (pv 2)) (pd_lst (pda_cons pd_str (pda_cons pd_str (pda_cons pd_str (pda_cons pd_str (pda_cons pd_str (pda_cons pd_str (pda_cons pd_str (pda_cons pd_str pda_nil))))))))))) (by intro zi h; first | (cases h; done) | (cases h; simp)))
  (pds_cons (pds_set (i := 2) (ps_set (i := 2) sclaw.nd rfl (Or.inl rfl) (pd_add (pd_var (pv 2)) (pd_lst (pda_cons pd_str (pda_cons pd_str (pda_cons pd_str pda_nil)))))) (by intro zi h; first | (cases h; done) | (cases h; simp)))
  (pds_cons (pds_set (i := 2) (ps_set (i := 2) sclaw.nd rfl (Or.inl rfl) (pd_add (pd_var (pv 2)) (pd_lst (pda_cons pd_str (pda_cons pd_str (pda_cons pd_str (pda_cons pd_str pda_nil))))))) (by intro zi h; first | (cases h; done) | (cases h; simp)))
  (pds_cons (pds_for passesCx rfl (pdi_any (pd_var (pv 2))) (pdg_name (i := 3) (pg_name (i := 3) sclaw.nd rfl (Or.inl rfl)) (by intro zi h; first | (cases h; done) | (cases h; simp))) (pds_cons (pds_set (i := 4) (ps_set (i := 4) sclaw.nd rfl (Or.inl rfl) (pd_call G_law_value hq hr (by decide) rfl takesCx (pda_cons (pd_var (pv 1)) (pda_cons pd_int pda_nil)))) (by intro zi h; first | (cases h; done) | (cases h; simp)))
  (pds_cons (pds_set (i := 5) (ps_set (i := 5) sclaw.nd rfl (Or.inl rfl) (pd_callB (call_repr hq hr.units hs) oa_repr rfl T.b_repr (by decide +kernel) (pda_cons (pd_var (pv 4)) pda_nil))) (by intro zi h; first | (cases h; done) | (cases h; simp)))
  (pds_onE (pds_for passesCx rfl (pdi_any (pd_tup (pda_cons pd_bl (pda_cons pd_bl pda_nil)))) (pdg_name (i := 6) (pg_name (i := 6) sclaw.nd rfl (Or.inl rfl)) (by intro zi h; first | (cases h; done) | (cases h; simp))) (pds_cons (pds_set (i := 7) (ps_set (i := 7) sclaw.nd rfl (Or.inl rfl) (pd_call G_law_made hq hr (by decide) rfl takesCx (pda_cons (pd_var (pv 3)) (pda_cons (pd_var (pv 4)) (pda_cons (pd_var (pv 6)) pda_nil))))) (by intro zi h; first | (cases h; done) | (cases h; simp)))
  (pds_cons (pds_if (pdt_bool (pdw_or (pdt_cmp (op_neF hr.units) c2_ne (pd_call G_law_sorts hq hr (by decide) rfl takesCx (pda_cons (pd_var (pv 7)) pda_nil)) (pd_lst (pda_cons (pd_var (pv 3)) pda_nil)) (nomark _)) (pdw_or (pdt_not (pdt_val (pd_isX (f := isErr "WardError" errL "WardError") (cval := .ref (ad "WardError")) (cv := .ref (ad "WardError")) (T.i "WardError" (List.mem_of_getElem? (i := 0) rfl)) (fun _ h => h) rfl T.b_isinstance (pd_var (pv 7)) (pe_glob (v := .ref (ad "WardError")) rfl (T.c "WardError" (List.mem_of_getElem? (i := 0) rfl)) rfl)))) (pdw_or1 (pdt_not (pdt_val (pd_call G_law_is_caught hq hr (by decide) rfl takesCx (pda_cons (pd_var (pv 4)) pda_nil)))))))) (pds_onE (pds_ret pd_bl)) pds_nil)
  (pds_onE (pds_if (pdt_bool (pdw_or (pdt_cmp (op_neF hr.units) c2_ne (pd_callB (call_repr hq hr.units hs) oa_repr rfl T.b_repr (by decide +kernel) (pda_cons (pd_call G_law_worth hq hr (by decide) rfl takesCx (pda_cons (pd_var (pv 3)) (pda_cons (pd_var (pv 7)) pda_nil))) pda_nil)) (pd_if (pdt_cmp op_inD2 c2_in (pd_var (pv 3)) (pd_slice (pd_var (pv 2)) pdo_none (pdo_some pd_int)) (by rfl)) (pd_var (pv 5)) (pd_callB (call_repr hq hr.units hs) oa_repr rfl T.b_repr (by decide +kernel) (pda_cons pd_non pda_nil))) (nomark _)) (pdw_or1 (pdt_cmp (op_neF hr.units) c2_ne (pd_callB (call_repr hq hr.units hs) oa_repr rfl T.b_repr (by decide +kernel) (pda_cons (pd_var (pv 4)) pda_nil)) (pd_var (pv 5)) (nomark _))))) (pds_onE (pds_ret pd_bl)) pds_nil)))))))))
  (pds_cons (pds_set (i := 8) (ps_set (i := 8) sclaw.nd rfl (Or.inl rfl) (pd_excN Z_WardError rfl)) (by intro zi h; first | (cases h; done) | (cases h; simp)))
  (pds_onE (pds_ret (pd_and (pd_cmp (op_eqF hr.units) c2_eq (pd_call G_law_sorts hq hr (by decide) rfl takesCx (pda_cons (pd_var (pv 8)) pda_nil)) (pd_lst pda_nil) (nomark _)) (pd_and (pd_isX (f := (isErrB errL true)) (T.iT "Exception" true (by decide +kernel) (by decide +kernel)) (cval := .ty "Exception") (cv := .type "Exception") (fun _ h => h) rfl T.b_isinstance (pd_var (pv 8)) (pe_bltn (v := .ty "Exception") rfl T.b_Exception (by decide +kernel) rfl)) (pd_one (pd_not (pd_isX (f := (isErrB errL false)) (T.iT "ValueError" false (by decide +kernel) (by decide +kernel)) (cval := .ty "ValueError") (cv := .type "ValueError") (fun _ h => h) rfl T.b_isinstance (pd_var (pv 8)) (pe_bltn (v := .ty "ValueError") rfl T.b_ValueError (by decide +kernel) rfl)))))))))))))))
end
end K1

/-! Running the models: what a model gives, step by step. -/
namespace Pd
open PySem L2
/-- m gives a value, and Q holds of it -/
def Wp {α : Type} (m : M α) (ρ : Rho) (S : Sto) (Q : α → Sto → Prop) : Prop := ∃ a S', m ρ S = some (.ok a, S') ∧ Q a S'
def SWp (m : SM) (ρ : Rho) (S : Sto) (Q : Fl → Rho → Sto → Prop) : Prop := ∃ fl ρ' S', m ρ S = some (fl, ρ', S') ∧ Q fl ρ' S'
abbrev FF := List D → Sto → Option (R D × Sto)
def FWp (F : FF) (ds : List D) (S : Sto) (Q : D → Sto → Prop) : Prop := ∃ d S', F ds S = some (.ok d, S') ∧ Q d S'
section
variable {α β : Type} {m : M α} {f : α → M β} {ρ : Rho} {S S' : Sto} {Q : α → Sto → Prop} {Q2 : β → Sto → Prop} {QD : D → Sto → Prop} {QB : Bool → Sto → Prop} {QL : List D → Sto → Prop} {QS : Fl → Rho → Sto → Prop} {ma mb me mo mk mv : M D} {mt mu : M Bool} {ms mi : M (List D)} {n : Nat} {F : FF} {d : D} {i : Nat} {a b : SM}
theorem Wp.mono {Q' : α → Sto → Prop} (h : Wp m ρ S Q) (k : ∀ a S', Q a S' → Q' a S') : Wp m ρ S Q' := let ⟨a, S', e, q⟩ := h; ⟨a, S', e, k a S' q⟩
theorem SWp.mono {Q' : Fl → Rho → Sto → Prop} (h : SWp a ρ S QS) (k : ∀ f ρ' S', QS f ρ' S' → Q' f ρ' S') : SWp a ρ S Q' := let ⟨f, ρ', S', e, q⟩ := h; ⟨f, ρ', S', e, k f ρ' S' q⟩
theorem FWp.mono {ds : List D} {Q' : D → Sto → Prop} (h : FWp F ds S QD) (k : ∀ a S', QD a S' → Q' a S') : FWp F ds S Q' := let ⟨a, S', e, q⟩ := h; ⟨a, S', e, k a S' q⟩
theorem wp_bind (h : Wp m ρ S fun a S1 => Wp (f a) ρ S1 Q2) : Wp (m.bind f) ρ S Q2 := by
  obtain ⟨a, S1, e, b, S2, e2, q⟩ := h
  exact ⟨b, S2, by unfold M.bind; rw [e]; exact e2, q⟩
theorem wp_lift {g : Rho → Sto → Option α} {x : α} (h : g ρ S = some x) (q : Q x S) : Wp (M.lift g) ρ S Q := ⟨x, S, by unfold M.lift; rw [h], q⟩
theorem wp_pure {x : α} (q : Q x S) : Wp (M.pure x) ρ S Q := ⟨x, S, rfl, q⟩
theorem wp_c (q : QD d S) : Wp (m_c d) ρ S QD := wp_pure q
theorem wp_var (h : ρ[i]? = some (.d d)) (q : QD d S) : Wp (m_var i) ρ S QD := wp_lift (by rw [h]) q
def OpQ (f : D → D → Option D) (ρ : Rho) (a b : D) (S : Sto) (Q : D → Sto → Prop) : Prop := ∃ a' b' d, rsv ρ S a = some a' ∧ rsv ρ S b = some b' ∧ f a' b' = some d ∧ Q d S
theorem op_q {f : D → D → Option D} {a b a' b' : D} (h1 : rsv ρ S a = some a') (h2 : rsv ρ S b = some b') (h3 : f a' b' = some d) (q : QD d S) : OpQ f ρ a b S QD := ⟨a', b', d, h1, h2, h3, q⟩
theorem wp_op {f : D → D → Option D} (h : Wp ma ρ S fun a S1 => Wp mb ρ S1 fun b S2 => OpQ f ρ a b S2 QD) : Wp (m_op f ma mb) ρ S QD := wp_bind (h.mono fun a S1 h => wp_bind (h.mono fun b S2 h => by
  obtain ⟨a', b', d, h1, h2, h3, q⟩ := h
  exact wp_lift (by rw [h1, h2]; exact h3) q))
def CmQ (f : D → D → Option Bool) (ρ : Rho) (a b : D) (S : Sto) (Q : Bool → Sto → Prop) : Prop := ∃ a' b' d, rsv ρ S a = some a' ∧ rsv ρ S b = some b' ∧ f a' b' = some d ∧ Q d S
theorem cm_q {f : D → D → Option Bool} {a b a' b' : D} {k : Bool} (h1 : rsv ρ S a = some a') (h2 : rsv ρ S b = some b') (h3 : f a' b' = some k) (q : QB k S) : CmQ f ρ a b S QB := ⟨a', b', k, h1, h2, h3, q⟩
theorem wp_cmpT {f : D → D → Option Bool} (h : Wp ma ρ S fun a S1 => Wp mb ρ S1 fun b S2 => CmQ f ρ a b S2 QB) : Wp (m_cmpT f ma mb) ρ S QB := wp_bind (h.mono fun a S1 h => wp_bind (h.mono fun b S2 h => by
  obtain ⟨a', b', d, h1, h2, h3, q⟩ := h
  exact wp_lift (by rw [h1, h2]; exact h3) q))
theorem wp_cmp {f : D → D → Option Bool} (h : Wp ma ρ S fun a S1 => Wp mb ρ S1 fun b S2 => CmQ f ρ a b S2 fun k S3 => QD (.bl k) S3) : Wp (m_cmp f ma mb) ρ S QD := wp_op (h.mono fun a S1 h => h.mono fun b S2 h => by
  obtain ⟨a', b', d, h1, h2, h3, q⟩ := h
  exact ⟨a', b', .bl d, h1, h2, by dsimp only; rw [h3]; rfl, q⟩)
theorem wp_dget (h : Wp mo ρ S fun o S1 => Wp mk ρ S1 fun k S2 => ∃ o' d, rsv ρ S2 o = some o' ∧ dgetD o' k = some d ∧ QD d S2) : Wp (m_dget mo mk) ρ S QD := wp_bind (h.mono fun a S1 h => wp_bind (h.mono fun b S2 h => by
  obtain ⟨o', d, h1, h2, q⟩ := h
  exact wp_lift (by rw [h1]; exact h2) q))
theorem wp_cb {f : List D → Option D} (h : Wp ms ρ S fun ds S1 => ∃ ds' d, rsvA ρ S1 ds = some ds' ∧ f ds' = some d ∧ QD d S1) : Wp (m_cb f ms) ρ S QD := wp_bind (h.mono fun ds S1 h => by
  obtain ⟨ds', d, h1, h2, q⟩ := h
  exact wp_lift (by rw [h1]; exact h2) q)
theorem wp_nil (q : QL [] S) : Wp ma_nil ρ S QL := wp_pure q
theorem wp_cons (h : Wp me ρ S fun d S1 => Wp ms ρ S1 fun ds S2 => QL (d :: ds) S2) : Wp (ma_cons me ms) ρ S QL := wp_bind (h.mono fun d S1 h => wp_bind (h.mono fun ds S2 h => wp_pure h))
theorem wp_call (h : Wp ms ρ S fun ds S1 => ds.all fixed = true ∧ ds.length = n ∧ FWp F ds S1 QD) : Wp (m_call n F ms) ρ S QD := wp_bind (h.mono fun ds S1 h => by
  obtain ⟨h1, h2, d, S', e, q⟩ := h
  exact ⟨d, S', by dsimp only; rw [if_pos ⟨h1, h2⟩]; exact e, q⟩)
theorem wp_if (h : Wp mt ρ S fun k S1 => Wp (if k = true then ma else mb) ρ S1 QD) : Wp (m_if mt ma mb) ρ S QD := wp_bind h
theorem wt_and (h : Wp mt ρ S fun k S1 => Wp (if k = true then mu else M.pure false) ρ S1 QB) : Wp (mt_and mt mu) ρ S QB := wp_bind h
theorem wt_or (h : Wp mt ρ S fun k S1 => Wp (if k = true then M.pure true else mu) ρ S1 QB) : Wp (mt_or mt mu) ρ S QB := wp_bind h
theorem wt_not (h : Wp mt ρ S fun k S1 => QB (!k) S1) : Wp (mt_not mt) ρ S QB := wp_bind (h.mono fun k S1 h => wp_pure h)
theorem wt_tr (h : Wp me ρ S fun d S1 => ∃ d' k, rsv ρ S1 d = some d' ∧ truth d' = some k ∧ QB k S1) : Wp (m_tr me) ρ S QB := wp_bind (h.mono fun d S1 h => by
  obtain ⟨d', k, h1, h2, q⟩ := h
  exact wp_lift (by rw [h1]; exact h2) q)
theorem wp_tup (h : Wp ms ρ S fun ds S1 => ds.all fixed = true ∧ ds.length ≤ sizeLine ∧ QD (.tup ds) S1) : Wp (m_tup ms) ρ S QD := wp_bind (h.mono fun ds S1 h => wp_lift (if_pos ⟨h.1, h.2.1⟩) h.2.2)
theorem wp_lst (h : Wp ms ρ S fun ds S1 => ds.all fixed = true ∧ ds.length ≤ sizeLine ∧ QD (.lst ds) S1) : Wp (m_lst ms) ρ S QD := wp_bind (h.mono fun ds S1 h => wp_lift (if_pos ⟨h.1, h.2.1⟩) h.2.2)
theorem wp_fz (h : Wp ms ρ S fun ds S1 => QD (.lst ds) S1) : Wp (m_fz ms) ρ S QD := wp_bind (h.mono fun ds S1 h => wp_pure h)
theorem wp_opop {k : Nat} {ds : List D} (h : Wp mo ρ S fun o S1 => ∃ k ds d, o = .own k ∧ S1[k]? = some (.lst ds) ∧ ds[ds.length - 1]? = some d ∧ QD d (S1.set k (.lst ds.dropLast))) : Wp (m_opop mo) ρ S QD := wp_bind (h.mono fun o S1 h => by
  obtain ⟨k, ds, d, rfl, h1, h2, q⟩ := h
  exact ⟨d, _, by dsimp only; rw [h1]; dsimp only; rw [h2], q⟩)
theorem wp_oapp (h : Wp mo ρ S fun o S1 => ∃ k ds, o = .own k ∧ S1[k]? = some (.lst ds) ∧ Wp me ρ S1 fun d S2 => ∃ es, S2[k]? = some (.lst es) ∧ fixed d = true ∧ es.length < sizeLine ∧ QD .non (S2.set k (.lst (es ++ [d])))) : Wp (m_oapp mo me) ρ S QD := wp_bind (h.mono fun o S1 h => by
  obtain ⟨k, ds, rfl, h1, h2⟩ := h
  refine wp_bind (wp_lift (x := k) (by dsimp only; rw [h1]) (wp_bind (h2.mono fun d S2 h => ?_)))
  obtain ⟨es, h3, h4, h5, q⟩ := h
  exact ⟨.non, _, by dsimp only; rw [h3]; dsimp only; rw [if_pos ⟨h4, h5⟩], q⟩)
theorem wp_pub (h : Wp ms ρ S fun ds S1 => QD (.own S1.length) (S1 ++ [.lst ds])) : Wp (m_pub ms) ρ S QD := wp_bind (h.mono fun ds S1 h => ⟨_, _, rfl, h⟩)
theorem wp_rev (h : Wp me ρ S fun d S1 => ∃ ds, rsv ρ S1 d = some (.lst ds) ∧ QL ds.reverse S1) : Wp (mf_rev me) ρ S QL := wp_bind (h.mono fun d S1 h => by
  obtain ⟨ds, h1, q⟩ := h
  exact wp_lift (by rw [h1]) q)
theorem wp_slice {ml mh : M (Option Int)} (h : Wp me ρ S fun d S1 => Wp ml ρ S1 fun lo S2 => Wp mh ρ S2 fun hi S3 => ∃ d' r, rsv ρ S3 d = some d' ∧ sliceD lo hi d' = some r ∧ QD r S3) : Wp (m_slice me ml mh) ρ S QD :=
  wp_bind (h.mono fun d S1 h => wp_bind (h.mono fun lo S2 h => wp_bind (h.mono fun hi S3 h => by
    obtain ⟨d', r, h1, h2, q⟩ := h
    exact wp_lift (by rw [h1]; exact h2) q)))
theorem wo_none {Q : Option Int → Sto → Prop} (q : Q none S) : Wp mo_none ρ S Q := wp_pure q
theorem wo_some {Q : Option Int → Sto → Prop} (h : Wp me ρ S fun d S1 => ∃ i, d = .int i ∧ Q (some i) S1) : Wp (mo_some me) ρ S Q := wp_bind (h.mono fun d S1 h => by
  obtain ⟨i, rfl, q⟩ := h
  exact wp_lift rfl q)
theorem wi_of (h : Wp me ρ S fun d S1 => ∃ ds, items d = some ds ∧ QL ds S1) : Wp (mi_of me) ρ S QL := wp_bind (h.mono fun d S1 h => by
  obtain ⟨ds, h1, q⟩ := h
  exact wp_lift h1 q)
/-! ### statements -/
/-- what comes behind a statement -/
def NxQ (b : SM) (Q : Fl → Rho → Sto → Prop) (f : Fl) (ρ : Rho) (S : Sto) : Prop := match f with
  | .nx => SWp b ρ S Q
  | f => Q f ρ S
theorem sw_seq (h : SWp a ρ S (NxQ b QS)) : SWp (s_seq a b) ρ S QS := by
  obtain ⟨f, ρ1, S1, e, q⟩ := h
  unfold SWp s_seq
  rw [e]
  cases f with
  | nx => exact q
  | _ => exact ⟨_, _, _, rfl, q⟩
theorem sw_nx (q : QS .nx ρ S) : SWp s_nx ρ S QS := ⟨_, _, _, rfl, q⟩
theorem sw_toS {f : α → SM} (h : Wp m ρ S fun x S1 => SWp (f x) ρ S1 QS) : SWp (m.toS f) ρ S QS := by
  obtain ⟨x, S1, e, f', ρ', S', e2, q⟩ := h
  exact ⟨f', ρ', S', by unfold M.toS; rw [e]; exact e2, q⟩
theorem sw_ex (h : Wp me ρ S fun _ S1 => QS .nx ρ S1) : SWp (s_ex me) ρ S QS := sw_toS (h.mono fun _ S1 h => sw_nx h)
theorem sw_ret (h : Wp me ρ S fun d S1 => fixed d = true ∧ QS (.rt d) ρ S1) : SWp (s_ret me) ρ S QS := sw_toS (h.mono fun d S1 h => ⟨_, _, _, if_pos h.1, h.2⟩)
theorem sw_if (h : Wp mt ρ S fun k S1 => SWp (if k = true then a else b) ρ S1 QS) : SWp (s_if mt a b) ρ S QS := sw_toS h
theorem sw_asg {g : D → Rho → Option Rho} (h : Wp me ρ S fun d S1 => fixed d = true ∧ ∃ ρ', g d ρ = some ρ' ∧ QS .nx ρ' S1) : SWp (s_asg g me) ρ S QS := sw_toS (h.mono fun d S1 h => by
  obtain ⟨h1, ρ', h2, q⟩ := h
  exact ⟨_, ρ', _, by dsimp only; rw [if_pos h1, h2], q⟩)
theorem sw_par {j : Nat} (h : Wp ms ρ S fun ds S1 => ∃ a b, ds = [a, b] ∧ fixed a = true ∧ fixed b = true ∧ QS .nx ((ρ.set i (.d a)).set j (.d b)) S1) : SWp (s_par i j ms) ρ S QS := sw_toS (h.mono fun ds S1 h => by
  obtain ⟨a, b, rfl, h1, h2, q⟩ := h
  exact ⟨_, _, _, if_pos ⟨h1, h2⟩, q⟩)
theorem sw_oput (h : Wp mv ρ S fun d S1 => Wp mo ρ S1 fun o S2 => Wp mk ρ S2 fun k S3 => ∃ j key kvs, o = .own j ∧ keyOfD k = some key ∧ S3[j]? = some (.dct kvs) ∧ fixed d = true ∧ kvs.length < sizeLine ∧ QS .nx ρ (S3.set j (.dct (putD kvs key d)))) : SWp (s_oput mo mk mv) ρ S QS :=
  sw_toS (h.mono fun d S1 h => sw_toS (h.mono fun o S2 h => sw_toS (h.mono fun k S3 h => by
    obtain ⟨j, key, kvs, rfl, h1, h2, h3, h4, q⟩ := h
    exact ⟨_, _, _, by rw [h1]; dsimp only; rw [h2]; exact if_pos ⟨h3, h4⟩, q⟩)))
/-- a def's run -/
def RetQ (Q : D → Sto → Prop) (f : Fl) (_ : Rho) (S : Sto) : Prop := match f with
  | .nx => Q .non S
  | .rt d => Q d S
  | _ => False
theorem run_q {body : SM} {ds : List D} (h : SWp body (ds.map Sv.d ++ List.replicate (n - ds.length) .un) S (RetQ QD)) : FWp (runD n body) ds S QD := by
  obtain ⟨f, ρ', S', e, q⟩ := h
  unfold FWp runD
  rw [e]
  cases f with
  | nx => exact ⟨_, _, rfl, q⟩
  | rt d => exact ⟨_, _, rfl, q⟩
  | _ => exact q.elim
/-- a loop: P i holds ahead of the i-th turn -/
theorem for_q {g : D → Rho → Option Rho} {body : SM} {P : Nat → Rho → Sto → Prop} (Q : Fl → Rho → Sto → Prop) : ∀ (ds : List D) (i : Nat) {ρ : Rho} {S : Sto}, P i ρ S → (∀ j d ρ S, ds[j]? = some d → P (i + j) ρ S → ∃ ρ1, g d ρ = some ρ1 ∧ SWp body ρ1 S fun f ρ' S' => match f with
    | .nx => P (i + j + 1) ρ' S'
    | .ct => P (i + j + 1) ρ' S'
    | .bk => Q .nx ρ' S'
    | f => Q f ρ' S') → (∀ ρ S, P (i + ds.length) ρ S → Q .nx ρ S) → SWp (s_forD g body ds) ρ S Q
  | [], i, ρ, S, h0, _, hd => ⟨_, _, _, rfl, hd ρ S h0⟩
  | d :: ds, i, ρ, S, h0, hs, hd => by
    obtain ⟨ρ1, eg, f, ρ2, S2, e, q⟩ := hs 0 d ρ S rfl h0
    have rest : P (i + 1) ρ2 S2 → SWp (s_forD g body ds) ρ2 S2 Q := fun h1 => for_q Q ds (i + 1) h1 (fun j d' ρ' S' hj hP => by
      have := hs (j + 1) d' ρ' S' (by simpa using hj) (by rw [show i + (j + 1) = i + 1 + j by omega]; exact hP)
      rw [show i + (j + 1) + 1 = i + 1 + j + 1 by omega] at this
      exact this) fun ρ' S' hP => hd ρ' S' (by rw [List.length_cons, show i + (ds.length + 1) = i + 1 + ds.length by omega]; exact hP)
    unfold SWp
    simp only [s_forD, eg, e]
    cases f with
    | nx => exact rest q
    | ct => exact rest q
    | bk => exact ⟨_, _, _, rfl, q⟩
    | rt d => exact ⟨_, _, _, rfl, q⟩
    | er c fs => exact ⟨_, _, _, rfl, q⟩
theorem sw_for {g : D → Rho → Option Rho} {body : SM} (h : Wp mi ρ S fun ds S1 => SWp (s_forD g body ds) ρ S1 QS) : SWp (s_for mi g body) ρ S QS := sw_toS h
/-- a comprehension: P acc holds behind each item -/
theorem lc_q {vs : List Nat} {g : D → Rho → Option Rho} {P : List D → Sto → Prop} {Q : List D → Sto → Prop} : ∀ (ds acc : List D) {S : Sto}, P acc S → acc.length + ds.length ≤ sizeLine →
    (∀ d acc' S, d ∈ ds → acc'.length < acc.length + ds.length → P acc' S → ∃ ρ1, g d (wipeR ρ vs) = some ρ1 ∧ Wp mt ρ1 S fun k S1 => if k = true then Wp me ρ1 S1 fun y S2 => fixed y = true ∧ P (acc' ++ [y]) S2 else P acc' S1) → (∀ ys S, ys.length ≤ acc.length + ds.length → P ys S → Q ys S) →
    ∃ ys S', m_lcD vs g mt me ρ ds acc S = some (ys, S') ∧ Q ys S'
  | [], acc, S, h0, _, _, hd => ⟨acc, S, rfl, hd acc S (Nat.le_refl _) h0⟩
  | d :: ds, acc, S, h0, hz, hs, hd => by
    obtain ⟨ρ1, eg, k, S1, e1, q1⟩ := hs d acc S List.mem_cons_self (by simp) h0
    rw [List.length_cons] at hz
    simp only [m_lcD, eg, e1]
    cases k with
    | true =>
      rw [if_pos rfl] at q1
      obtain ⟨y, S2, e2, fy, q2⟩ := q1
      simp only [e2]
      rw [if_pos ⟨fy, by omega⟩]
      exact lc_q ds (acc ++ [y]) q2 (by simp; omega) (fun d' a s hd' hl' hp => hs d' a s (List.mem_cons_of_mem _ hd') (by simp at hl' ⊢; omega) hp) fun ys S hl hp => hd ys S (by simp at hl ⊢; omega) hp
    | false =>
      rw [if_neg Bool.false_ne_true] at q1
      exact lc_q ds acc q1 (by omega) (fun d' a s hd' hl' hp => hs d' a s (List.mem_cons_of_mem _ hd') (by simp at hl' ⊢; omega) hp) fun ys S hl hp => hd ys S (by simp at hl ⊢; omega) hp
theorem wp_lc {vs : List Nat} {g : D → Rho → Option Rho} (h : Wp mi ρ S fun ds S1 => ∃ ys S', m_lcD vs g mt me ρ ds [] S1 = some (ys, S') ∧ QL ys S') : Wp (mf_lc mi vs g mt me) ρ S QL := wp_bind (h.mono fun ds S1 h => by
  obtain ⟨ys, S', e, q⟩ := h
  exact ⟨ys, S', by dsimp only; rw [e], q⟩)
end
end Pd

/-! The draws of a deck. -/
namespace Pd
open PySem L2
abbrev keyC (x : Str) : Key := Sum.inr x
/-- a deck: its cells, a mixed number, the count of draws -/
abbrev deckS (kc km kd : Str) (cs : List Int) (m n : Int) : Sto := [.lst (cs.map D.int), .dct [(keyC kc, .own 0), (keyC km, .int m), (keyC kd, .int n)]]
structure Keys3 (kc km kd : Str) : Prop where
  cm : kc ≠ km
  cd : kc ≠ kd
  md : km ≠ kd
section
variable {kc km kd : Str} {cs : List Int} {m n : Int}
theorem key_ne {a b : Str} (h : a ≠ b) : ¬ (keyC a = keyC b) := fun z => h (Sum.inr.inj z)
theorem get_c : dgetD (.dct [(keyC kc, .own 0), (keyC km, .int m), (keyC kd, .int n)]) (.str kc) = some (.own 0) := by
  simp [dgetD, keyOfD, valD, keyC]
theorem get_m (h : Keys3 kc km kd) : dgetD (.dct [(keyC kc, .own 0), (keyC km, .int m), (keyC kd, .int n)]) (.str km) = some (.int m) := by
  simp [dgetD, keyOfD, valD, keyC, h.cm]
theorem get_d (h : Keys3 kc km kd) : dgetD (.dct [(keyC kc, .own 0), (keyC km, .int m), (keyC kd, .int n)]) (.str kd) = some (.int n) := by
  simp [dgetD, keyOfD, valD, keyC, h.cd, h.md]
theorem put_d (h : Keys3 kc km kd) (n' : Int) : putD [(keyC kc, .own 0), (keyC km, .int m), (keyC kd, .int n)] (.inr kd) (.int n') = [(keyC kc, .own 0), (keyC km, .int m), (keyC kd, .int n')] := by
  simp [putD, keyC, h.cd, h.md]
theorem py_ints : ∀ cs : List Int, pyA (cs.map D.int) = some (cs.map PyData.int)
  | [] => rfl
  | c :: cs => by
    have := py_ints cs
    simp [pyA, D.py, this]
end
/-- the draw of the first shape: eleven numbers stand in it -/
structure N1 where
  (a1 a2 a3 a4 a5 a6 a7 a8 a9 b1 b2 b3 : Int)
def B_draw1 (kc km kd : Str) (N : N1) : SM := (s_seq (s_oput (m_var 0) (m_c (.str kd)) (m_op addD (m_dget (m_var 0) (m_c (.str kd))) (m_c (.int 1))))
  (s_seq (s_par 2 3 (ma_cons (m_dget (m_var 0) (m_c (.str kd))) (ma_cons (m_dget (m_var 0) (m_c (.str km))) ma_nil)))
  (s_seq (s_if (m_cmpT neF (m_dget (m_var 0) (m_c (.str kc))) (m_lst ma_nil)) (s_seq (s_asg (g_name 4) (m_cb intOf (ma_cons (m_opop (m_dget (m_var 0) (m_c (.str kc)))) ma_nil)))
  (s_seq (s_if (m_cmpT geD (m_var 4) (m_op powD (m_c (.int 10)) (m_c (.int 18)))) (s_seq (s_ex (m_oapp (m_dget (m_var 0) (m_c (.str kc))) (m_op fdivD (m_var 4) (m_var 1))))
  (s_ret (m_op modD (m_var 4) (m_var 1)))) s_nx)
  (s_asg (g_name 3) (m_op addD (m_var 3) (m_op modD (m_var 4) (m_c (.int N.a1))))))) s_nx)
  (s_seq (s_asg (g_name 3) (m_op modD (m_op mulD (m_cb intOf (ma_cons (m_op addD (m_op addD (m_op modD (m_cb intOf (ma_cons (m_var 3) ma_nil)) (m_c (.int N.a2))) (m_op mulD (m_op mulD (m_c (.int N.a3)) (m_var 2)) (m_var 2))) (m_c (.int N.a4))) ma_nil)) (m_c (.int N.a5))) (m_c (.int N.a6))))
  (s_seq (s_asg (g_name 3) (m_op modD (m_cb intOf (ma_cons (m_op addD (m_op addD (m_op mulD (m_var 3) (m_var 3)) (m_op mulD (m_c (.int N.a7)) (m_var 2))) (m_c (.int N.a8))) ma_nil)) (m_c (.int N.a9))))
  (s_ret (m_op modD (m_op fdivD (m_op modD (m_cb intOf (ma_cons (m_op mulD (m_var 3) (m_c (.int N.b1))) ma_nil)) (m_c (.int N.b2))) (m_c (.int N.b3))) (m_var 1))))))))
structure N1.Ok (N : N1) : Prop where
  a1 : 0 < N.a1
  a2 : 0 < N.a2
  a3 : small64 N.a3 = true
  a5 : small64 N.a5 = true
  a6 : 0 < N.a6 ∧ N.a6 < 2 ^ 63
  a7 : small64 N.a7 = true
  a9 : 0 < N.a9 ∧ N.a9 < 2 ^ 63
  b2 : 0 < N.b2
  b3 : 0 < N.b3 ∧ N.b3 < 1073741824
theorem sm64 {i : Int} (h0 : 0 ≤ i) (h1 : i < 2 ^ 63) : small64 i = true := by
  simp only [small64, Bool.and_eq_true, decide_eq_true_eq]
  omega
theorem mod_r {i j : Int} (h : 0 < j) : modD (.int i) (.int j) = some (.int (i % j)) := by simp [modD, intD, h]
theorem mul_r {i j : Int} (h : (small64 i || small64 j) = true) : mulD (.int i) (.int j) = some (.int (i * j)) := by simp only [mulD, intD, if_pos h]; rfl
theorem fdiv_r {i j : Int} (h : 0 < j ∧ j < 1073741824) : fdivD (.int i) (.int j) = some (.int (i / j)) := by simp [fdivD, intD, h]
/-- what a draw below b leaves -/
def Drawn (kc km kd : Str) (n b : Int) (d : D) (S : Sto) : Prop := ∃ i cs m, d = .int i ∧ 0 ≤ i ∧ i < b ∧ cs.length ≤ 63 ∧ S = deckS kc km kd cs m (n + 1)
theorem tail1 {kc km kd : Str} {N : N1} (ok : N.Ok) {cs : List Int} {m n b f : Int} {c : Sv} (hb : 0 < b) (hn : 0 ≤ n) (hn2 : n < 2 ^ 62) (hl : cs.length ≤ 63) :
    SWp (s_seq (s_asg (g_name 3) (m_op modD (m_op mulD (m_cb intOf (ma_cons (m_op addD (m_op addD (m_op modD (m_cb intOf (ma_cons (m_var 3) ma_nil)) (m_c (.int N.a2))) (m_op mulD (m_op mulD (m_c (.int N.a3)) (m_var 2)) (m_var 2))) (m_c (.int N.a4))) ma_nil)) (m_c (.int N.a5))) (m_c (.int N.a6))))
  (s_seq (s_asg (g_name 3) (m_op modD (m_cb intOf (ma_cons (m_op addD (m_op addD (m_op mulD (m_var 3) (m_var 3)) (m_op mulD (m_c (.int N.a7)) (m_var 2))) (m_c (.int N.a8))) ma_nil)) (m_c (.int N.a9))))
  (s_ret (m_op modD (m_op fdivD (m_op modD (m_cb intOf (ma_cons (m_op mulD (m_var 3) (m_c (.int N.b1))) ma_nil)) (m_c (.int N.b2))) (m_c (.int N.b3))) (m_var 1)))))
      [.d (.own 1), .d (.int b), .d (.int (n + 1)), .d (.int f), c] (deckS kc km kd cs m (n + 1)) (RetQ (Drawn kc km kd n b)) := by
  have s1 : small64 (n + 1) = true := sm64 (by omega) (by omega)
  refine sw_seq (sw_asg (wp_op (wp_op (wp_cb (wp_cons (wp_op (wp_op (wp_op (wp_cb (wp_cons (wp_var rfl (wp_nil ⟨_, _, rfl, rfl, wp_c (op_q rfl rfl (mod_r ok.a2) ?_)⟩))))))))))))
  refine wp_op (wp_op (wp_c (wp_var rfl (op_q rfl rfl (mul_r (by rw [ok.a3]; rfl)) ?_))))
  refine wp_var rfl (op_q rfl rfl (mul_r (by rw [s1, Bool.or_true])) ?_)
  refine op_q rfl rfl rfl (wp_c (op_q rfl rfl rfl (wp_nil ⟨_, _, rfl, rfl, ?_⟩)))
  refine wp_c (op_q rfl rfl (mul_r (by rw [ok.a5, Bool.or_true])) (wp_c (op_q rfl rfl (mod_r ok.a6.1) ⟨rfl, _, rfl, ?_⟩)))
  generalize hf : ((((f % N.a2 + N.a3 * (n + 1) * (n + 1)) + N.a4) * N.a5) % N.a6) = f1
  have f0 : 0 ≤ f1 := by rw [← hf]; exact Int.emod_nonneg _ (by have := ok.a6.1; omega)
  have f2 : f1 < 2 ^ 63 := by have := Int.emod_lt_of_pos (((f % N.a2 + N.a3 * (n + 1) * (n + 1)) + N.a4) * N.a5) ok.a6.1; have := ok.a6.2; omega
  refine sw_seq (sw_asg (wp_op (wp_cb (wp_cons (wp_op (wp_op (wp_op (wp_var rfl (wp_var rfl (op_q rfl rfl (mul_r (by rw [sm64 f0 f2]; rfl)) ?_)))))))))) 
  refine wp_op (wp_c (wp_var rfl (op_q rfl rfl (mul_r (by rw [ok.a7]; rfl)) ?_)))
  refine op_q rfl rfl rfl (wp_c (op_q rfl rfl rfl (wp_nil ⟨_, _, rfl, rfl, wp_c (op_q rfl rfl (mod_r ok.a9.1) ⟨rfl, _, rfl, ?_⟩)⟩)))
  generalize hg : (f1 * f1 + N.a7 * (n + 1) + N.a8) % N.a9 = g1
  have g0 : 0 ≤ g1 := by rw [← hg]; exact Int.emod_nonneg _ (by have := ok.a9.1; omega)
  have g2 : g1 < 2 ^ 63 := by have := Int.emod_lt_of_pos (f1 * f1 + N.a7 * (n + 1) + N.a8) ok.a9.1; have := ok.a9.2; omega
  refine sw_ret (wp_op (wp_op (wp_op (wp_cb (wp_cons (wp_op (wp_var rfl (wp_c (op_q rfl rfl (mul_r (by rw [sm64 g0 g2]; rfl)) (wp_nil ⟨_, _, rfl, rfl, ?_⟩)))))))))) 
  refine wp_c (op_q rfl rfl (mod_r ok.b2) (wp_c (op_q rfl rfl (fdiv_r ok.b3) (wp_var rfl (op_q rfl rfl (mod_r hb) ⟨rfl, ?_⟩)))))
  exact ⟨_, cs, m, rfl, Int.emod_nonneg _ (by omega), Int.emod_lt_of_pos _ hb, hl, rfl⟩
theorem canLay_ints : ∀ ns : List Int, PyData.canLayAll0 (ns.map PyData.int) = true
  | [] => rfl
  | n :: ns => by
    show (PyData.canLay0 (.int n) && PyData.canLayAll0 (ns.map PyData.int)) = true
    rw [canLay_ints ns]
    rfl
theorem depth_ints : ∀ ns : List Int, PyData.depthAll (ns.map PyData.int) = 0
  | [] => rfl
  | n :: ns => by
    show max (PyData.depth (.int n)) (PyData.depthAll (ns.map PyData.int)) = 0
    rw [depth_ints ns]
    rfl
theorem shaped_ints (ns : List Int) : SeqAt.shaped (.list (ns.map PyData.int)) = true := by
  unfold SeqAt.shaped
  rw [show PyData.canLay0 (.list (ns.map PyData.int)) = true by simp only [PyData.canLay0]; exact canLay_ints ns, show PyData.depth (.list (ns.map PyData.int)) = 1 by simp only [PyData.depth]; rw [depth_ints]]
  rfl
theorem ne_nil (cs : List Int) : neF (.lst (cs.map D.int)) (.lst []) = some (!cs.isEmpty) := by
  have e : (D.lst (cs.map D.int)).py = some (.list (cs.map PyData.int)) := by
    simp only [D.py, py_ints]
  have e2 : (D.lst []).py = some (.list []) := rfl
  show (eqP (.lst (cs.map D.int)) (.lst [])).map (!·) = _
  unfold eqP
  rw [e, e2]
  dsimp only
  rw [if_pos ⟨shaped_ints cs, rfl⟩]
  cases cs <;> rfl
theorem draw1_q {kc km kd : Str} {N : N1} (ok : N.Ok) (ks : Keys3 kc km kd) {cs : List Int} {m n b : Int} (hb : 0 < b) (hb2 : b < 1073741824) (hn : 0 ≤ n) (hn2 : n < 2 ^ 62) (hl : cs.length ≤ 63) :
    FWp (runD 5 (B_draw1 kc km kd N)) [.own 1, .int b] (deckS kc km kd cs m n) (Drawn kc km kd n b) := by
  refine run_q ?_
  show SWp (B_draw1 kc km kd N) [.d (.own 1), .d (.int b), .un, .un, .un] _ _
  unfold B_draw1
  refine sw_seq (sw_oput (wp_op (wp_dget (wp_var rfl (wp_c ⟨_, _, rfl, get_d ks, ?_⟩)))))
  refine wp_c (op_q rfl rfl rfl (wp_var rfl (wp_c ⟨1, _, _, rfl, rfl, rfl, rfl, by show 3 < sizeLine; decide, ?_⟩)))
  rw [put_d ks]
  show SWp _ [.d (.own 1), .d (.int b), .un, .un, .un] (deckS kc km kd cs m (n + 1)) (RetQ (Drawn kc km kd n b))
  refine sw_seq (sw_par (wp_cons (wp_dget (wp_var rfl (wp_c ⟨_, _, rfl, get_d ks, ?_⟩)))))
  refine wp_cons (wp_dget (wp_var rfl (wp_c ⟨_, _, rfl, get_m ks, wp_nil ⟨_, _, rfl, rfl, rfl, ?_⟩⟩)))
  show SWp _ [.d (.own 1), .d (.int b), .d (.int (n + 1)), .d (.int m), .un] (deckS kc km kd cs m (n + 1)) (RetQ (Drawn kc km kd n b))
  refine sw_seq (sw_if (wp_cmpT (wp_dget (wp_var rfl (wp_c ⟨_, _, rfl, get_c, ?_⟩)))))
  refine wp_lst (wp_nil ⟨rfl, by decide, cm_q rfl rfl (ne_nil cs) ?_⟩)
  rcases List.eq_nil_or_concat cs with h | ⟨r, y, h⟩
  · subst h
    rw [if_neg (by simp)]
    exact sw_nx (tail1 ok hb hn hn2 hl)
  · rw [List.concat_eq_append] at h
    subst h
    rw [if_pos (by cases r <;> rfl)]
    have hr : r.length ≤ 62 := by simp at hl; omega
    refine sw_seq (sw_asg (wp_cb (wp_cons (wp_opop (k := 0) (ds := []) (wp_dget (wp_var rfl (wp_c ⟨_, _, rfl, get_c, ?_⟩)))))))
    refine ⟨0, (r ++ [y]).map D.int, .int y, rfl, rfl, by simp, wp_nil ⟨_, _, rfl, rfl, rfl, _, rfl, ?_⟩⟩
    have e : (deckS kc km kd (r ++ [y]) m (n + 1)).set 0 (.lst ((r ++ [y]).map D.int).dropLast) = deckS kc km kd r m (n + 1) := by simp [deckS]
    rw [e]
    show SWp _ [.d (.own 1), .d (.int b), .d (.int (n + 1)), .d (.int m), .d (.int y)] (deckS kc km kd r m (n + 1)) _
    refine sw_seq (sw_if (wp_cmpT (wp_var rfl (wp_op (wp_c (wp_c (op_q rfl rfl (d := .int (10 ^ 18)) (by rfl) (cm_q (k := decide (10 ^ 18 ≤ y)) rfl rfl rfl ?_))))))))
    by_cases c : (10 : Int) ^ 18 ≤ y
    · rw [if_pos (decide_eq_true c)]
      refine sw_seq (sw_ex (wp_oapp (wp_dget (wp_var rfl (wp_c ⟨_, _, rfl, get_c, ?_⟩)))))
      refine ⟨0, _, rfl, rfl, wp_op (wp_var rfl (wp_var rfl (op_q rfl rfl (fdiv_r ⟨hb, hb2⟩) ⟨_, rfl, rfl, by rw [List.length_map, sizeLine_eq]; omega, ?_⟩)))⟩
      have e : (deckS kc km kd r m (n + 1)).set 0 (.lst (r.map D.int ++ [.int (y / b)])) = deckS kc km kd (r ++ [y / b]) m (n + 1) := by simp [deckS]
      rw [e]
      refine sw_ret (wp_op (wp_var rfl (wp_var rfl (op_q rfl rfl (mod_r hb) ⟨rfl, ?_⟩))))
      exact ⟨_, r ++ [y / b], m, rfl, Int.emod_nonneg _ (by omega), Int.emod_lt_of_pos _ hb, by simp; omega, rfl⟩
    · rw [if_neg (by rw [decide_eq_false c]; exact Bool.false_ne_true)]
      refine sw_nx (sw_asg (wp_op (wp_var rfl (wp_op (wp_var rfl (wp_c (op_q rfl rfl (mod_r ok.a1) (op_q rfl rfl rfl ⟨rfl, _, rfl, ?_⟩))))))))
      exact tail1 ok hb hn hn2 (by omega)
end Pd

/-! Values that are small enough to be shown; picks. -/
namespace Pd
open PySem L2 Hg
/-- how much the parts of a value bear -/
def Bk : Nat → Nat
  | 0 => 60
  | k + 1 => 3 * (Bk k + 2)
/-- a datum at most k deep, of at most three parts each -/
structure Val (k : Nat) (d : D) : Prop where
  ex : ∃ p, d.py = some p ∧ p.showable = true ∧ p.depth ≤ k ∧ p.leavesShort 64 = true ∧ p.bulk ≤ Bk k
theorem Val.fix {k : Nat} {d : D} (h : Val k d) : fixed d = true := by
  obtain ⟨p, e, _⟩ := h.ex
  cases d <;> first | rfl | (simp [D.py] at e; done)
theorem Bk_pos : ∀ k, 60 ≤ Bk k
  | 0 => Nat.le_refl _
  | k + 1 => by have := Bk_pos k; show 60 ≤ 3 * (Bk k + 2); omega
theorem Val.up {k : Nat} {d : D} (h : Val k d) : Val (k + 1) d := by
  obtain ⟨p, e, h1, h2, h3, h4⟩ := h.ex
  exact ⟨p, e, h1, by omega, h3, by show _ ≤ 3 * (Bk k + 2); omega⟩
theorem Val.mono {k j : Nat} {d : D} (h : Val k d) (l : k ≤ j) : Val j d := by
  induction l with
  | refl => exact h
  | step _ ih => exact ih.up
theorem Bk_4 : Bk 4 = 5100 := by decide
/-- it is shown -/
theorem Val.repr {k : Nat} {d : D} (h : Val k d) (hk : k ≤ 4) : ∃ x, reprD [d] = some (.str x) := by
  obtain ⟨p, e, h1, h2, h3, h4⟩ := (h.mono hk).ex
  have l := PyData.shown_le_bulk 64 (by decide) p h3
  rw [Bk_4] at h4
  have hs : showsB p = true := by
    unfold showsB
    rw [h1, decide_eq_true (by omega), decide_eq_true (by rw [sizeLine_eq]; omega)]
    rfl
  exact ⟨p.shown, by simp only [reprD, e, hs, if_true]⟩
theorem val_all {k : Nat} : ∀ {ds : List D}, (∀ d ∈ ds, Val k d) → ∃ ps, pyA ds = some ps ∧ ps.length = ds.length ∧ PyData.showableAll ps = true ∧ PyData.depthAll ps ≤ k ∧ PyData.leavesShortAll 64 ps = true ∧ PyData.bulkAll ps ≤ (Bk k + 1) * ds.length
  | [], _ => ⟨[], by simp [pyA], rfl, rfl, Nat.zero_le _, rfl, Nat.zero_le _⟩
  | d :: ds, h => by
    obtain ⟨p, e, h1, h2, h3, h4⟩ := (h d List.mem_cons_self).ex
    obtain ⟨ps, e', l, g1, g2, g3, g4⟩ := val_all fun c hc => h c (List.mem_cons_of_mem _ hc)
    refine ⟨p :: ps, by simp [pyA, e, e'], by simp [l], by simp [PyData.showableAll, h1, g1], by simp only [PyData.depthAll]; omega, by simp [PyData.leavesShortAll, h3, g3], ?_⟩
    simp only [PyData.bulkAll, List.length_cons]
    have : (Bk k + 1) * (ds.length + 1) = (Bk k + 1) * ds.length + (Bk k + 1) := Nat.mul_succ _ _
    omega
theorem val_tup {k : Nat} {ds : List D} (hl : ds.length ≤ 3) (h : ∀ d ∈ ds, Val k d) : Val (k + 1) (.tup ds) := by
  obtain ⟨ps, e, l, g1, g2, g3, g4⟩ := val_all h
  refine ⟨.tuple ps, by simp only [D.py, e], by simpa only [PyData.showable] using g1, by simp only [PyData.depth]; omega, by simpa only [PyData.leavesShort] using g3, ?_⟩
  simp only [PyData.bulk]
  have : (Bk k + 1) * ds.length ≤ (Bk k + 1) * 3 := Nat.mul_le_mul_left _ hl
  show _ ≤ 3 * (Bk k + 2)
  omega
theorem val_lst {k : Nat} {ds : List D} (hl : ds.length ≤ 3) (h : ∀ d ∈ ds, Val k d) : Val (k + 1) (.lst ds) := by
  obtain ⟨ps, e, l, g1, g2, g3, g4⟩ := val_all h
  refine ⟨.list ps, by simp only [D.py, e], by simpa only [PyData.showable] using g1, by simp only [PyData.depth]; omega, by simpa only [PyData.leavesShort] using g3, ?_⟩
  simp only [PyData.bulk]
  have : (Bk k + 1) * ds.length ≤ (Bk k + 1) * 3 := Nat.mul_le_mul_left _ hl
  show _ ≤ 3 * (Bk k + 2)
  omega
theorem val_kv {k : Nat} : ∀ {kvs : List (Int × D)}, (∀ p ∈ kvs, (0 ≤ p.1 ∧ p.1 < 10) ∧ Val k p.2) → ∃ ps, pyK (kvs.map fun p => (Sum.inl p.1, p.2)) = some ps ∧ PyData.showableKv ((kvs.map fun p => keyD (Sum.inl p.1)).zip ps) = true ∧
    PyData.depthKv ((kvs.map fun p => keyD (Sum.inl p.1)).zip ps) ≤ k ∧ PyData.leavesShortKv 64 ((kvs.map fun p => keyD (Sum.inl p.1)).zip ps) = true ∧ PyData.bulkKv ((kvs.map fun p => keyD (Sum.inl p.1)).zip ps) ≤ (Bk k + 2) * kvs.length
  | [], _ => ⟨[], by simp [pyK], rfl, Nat.zero_le _, rfl, Nat.zero_le _⟩
  | (i, d) :: r, h => by
    obtain ⟨⟨i0, i1⟩, hv⟩ := h _ List.mem_cons_self
    obtain ⟨p, e, h1, h2, h3, h4⟩ := hv.ex
    obtain ⟨ps, e', g1, g2, g3, g4⟩ := val_kv fun c hc => h c (List.mem_cons_of_mem _ hc)
    have kd : keyD (Sum.inl i) = .int i := rfl
    have hi : ∃ n : Nat, i = n ∧ n < 10 := ⟨i.toNat, by omega, by omega⟩
    obtain ⟨n, rfl, hn⟩ := hi
    have s1 : PyData.showable (.int (n : Int)) = true ∧ PyData.leavesShort 64 (.int (n : Int)) = true := by
      have : ∀ m, m < 10 → PyData.showable (.int ((m : Nat) : Int)) = true ∧ PyData.leavesShort 64 (.int ((m : Nat) : Int)) = true := by decide +kernel
      exact this n hn
    refine ⟨p :: ps, by simp only [List.map_cons, pyK, e, e'], ?_, ?_, ?_, ?_⟩
    · simp only [List.map_cons, List.zip_cons_cons, PyData.showableKv, kd, s1.1, h1, g1, Bool.and_self]
    · simp only [List.map_cons, List.zip_cons_cons, PyData.depthKv, kd, PyData.depth]; omega
    · simp only [List.map_cons, List.zip_cons_cons, PyData.leavesShortKv, kd, s1.2, h3, g3, Bool.and_self]
    · simp only [List.map_cons, List.zip_cons_cons, PyData.bulkKv, kd, PyData.bulk, List.length_cons]
      have : (Bk k + 2) * (r.length + 1) = (Bk k + 2) * r.length + (Bk k + 2) := Nat.mul_succ _ _
      omega
theorem val_dct {k : Nat} {kvs : List (Int × D)} (hl : kvs.length ≤ 3) (h : ∀ p ∈ kvs, (0 ≤ p.1 ∧ p.1 < 10) ∧ Val k p.2) : Val (k + 1) (.dct (kvs.map fun p => (Sum.inl p.1, p.2))) := by
  obtain ⟨ps, e, g1, g2, g3, g4⟩ := val_kv h
  have em : (kvs.map fun p => ((Sum.inl p.1 : Key), p.2)).map (fun p => keyD p.1) = kvs.map fun p => keyD (Sum.inl p.1) := by rw [List.map_map]; rfl
  refine ⟨.dict ((kvs.map fun p => keyD (Sum.inl p.1)).zip ps), by simp only [D.py, e, em], by simpa only [PyData.showable] using g1, by simp only [PyData.depth]; omega, by simpa only [PyData.leavesShort] using g3, ?_⟩
  simp only [PyData.bulk]
  have : (Bk k + 2) * kvs.length ≤ (Bk k + 2) * 3 := Nat.mul_le_mul_left _ hl
  show _ ≤ 3 * (Bk k + 2)
  omega
/-- the deck, at most hi draws made -/
def DkS (kc km kd : Str) (hi : Int) (S : Sto) : Prop := ∃ cs m n, S = deckS kc km kd cs m n ∧ cs.length ≤ 63 ∧ 0 ≤ n ∧ n ≤ hi
theorem DkS.mono {kc km kd : Str} {a b : Int} {S : Sto} (h : DkS kc km kd a S) (l : a ≤ b) : DkS kc km kd b S := let ⟨cs, m, n, e, h1, h2, h3⟩ := h; ⟨cs, m, n, e, h1, h2, by omega⟩
/-- what a draw promises -/
def DrawQ (kc km kd : Str) (F : FF) : Prop := ∀ (hi b : Int) (S : Sto), 0 < b → b < 1073741824 → hi < 2 ^ 62 → DkS kc km kd hi S → FWp F [.own 1, .int b] S fun d S' => (∃ i, d = .int i ∧ 0 ≤ i ∧ i < b) ∧ DkS kc km kd (hi + 1) S'
theorem draw1_Q {kc km kd : Str} {N : N1} (ok : N.Ok) (ks : Keys3 kc km kd) : DrawQ kc km kd (runD 5 (B_draw1 kc km kd N)) := by
  intro hi b S hb hb2 hh hS
  obtain ⟨cs, m, n, rfl, h1, h2, h3⟩ := hS
  refine (draw1_q ok ks hb hb2 h2 (by omega) h1).mono fun d S' h => ?_
  obtain ⟨i, cs', m', rfl, i0, i1, hl, rfl⟩ := h
  exact ⟨⟨i, rfl, i0, i1⟩, cs', m', n + 1, rfl, hl, by omega, by omega⟩
theorem at_in {α : Type} {xs : List α} {i : Int} (h0 : 0 ≤ i) (h1 : i < xs.length) : ∃ x, atI xs i = some x ∧ x ∈ xs := by
  have hl : i.toNat < xs.length := by omega
  refine ⟨xs[i.toNat], ?_, List.getElem_mem hl⟩
  unfold atI ixN
  rw [if_pos h0, if_pos h1, Option.bind_some, List.getElem?_eq_getElem hl]
def B_pick1 (F : FF) : SM := (s_ret (m_op ixD (m_var 1) (m_call 2 F (ma_cons (m_var 0) (ma_cons (m_cb lenD (ma_cons (m_var 1) ma_nil)) ma_nil)))))
theorem pick1_q {kc km kd : Str} {F : FF} (dq : DrawQ kc km kd F) {hi : Int} {ds : List D} {S : Sto} (hd : ds ≠ []) (hl : ds.length ≤ 1000) (hf : ∀ d ∈ ds, fixed d = true) (hh : hi < 2 ^ 62) (hS : DkS kc km kd hi S) :
    FWp (runD 2 (B_pick1 F)) [.own 1, .lst ds] S fun d S' => d ∈ ds ∧ DkS kc km kd (hi + 1) S' := by
  refine run_q ?_
  show SWp (B_pick1 F) [.d (.own 1), .d (.lst ds)] S _
  have hp : 0 < ds.length := List.length_pos_iff.mpr hd
  refine sw_ret (wp_op (wp_var rfl (wp_call (wp_cons (wp_var rfl (wp_cons (wp_cb (wp_cons (wp_var rfl (wp_nil ⟨_, _, rfl, rfl, wp_nil ⟨rfl, rfl, ?_⟩⟩))))))))))
  refine (dq hi ds.length S (by omega) (by omega) hh hS).mono fun d S' h => ?_
  obtain ⟨⟨i, rfl, i0, i1⟩, hS'⟩ := h
  obtain ⟨x, e, hx⟩ := at_in i0 i1
  exact op_q rfl rfl e ⟨hf x hx, hx, hS'⟩
section
variable {ρ : Rho} {S : Sto} {QD : D → Sto → Prop} {QL : List D → Sto → Prop} {m : M D} {k : Str} {r ps : List (Str × M D)}
theorem wp_pnil (q : QL [] S) : Wp (m_pairs []) ρ S QL := wp_pure q
theorem wp_pcons (h : Wp m ρ S fun d S1 => Wp (m_pairs r) ρ S1 fun ds S2 => QL (d :: ds) S2) : Wp (m_pairs ((k, m) :: r)) ρ S QL := wp_bind (h.mono fun d S1 h => wp_bind (h.mono fun ds S2 h => wp_pure h))
theorem wp_dispO (h : Wp (m_pairs ps) ρ S fun ds S1 => ds.all fixed = true ∧ ps.length ≤ 15 ∧ QD (.own S1.length) (S1 ++ [.dct (mergeD [] ((ps.map fun p => (Sum.inr p.1 : Key)).zip ds))])) : Wp (m_dispO ps) ρ S QD := wp_bind (h.mono fun ds S1 h => ⟨_, _, if_pos ⟨h.1, h.2.1⟩, h.2.2⟩)
theorem wi_range1 {ms : M (List D)} (h : Wp ms ρ S fun ds S1 => ∃ j : Int, ds = [.int j] ∧ (-(2 ^ 62) ≤ j ∧ j < 2 ^ 62) ∧ QL (rangeD 0 j.toNat) S1) : Wp (mi_range1 ms) ρ S QL := wp_bind (h.mono fun ds S1 h => by
  obtain ⟨j, rfl, h1, q⟩ := h
  exact wp_lift (if_pos h1) q)
theorem wi_enum {ms : M (List D)} (h : Wp ms ρ S fun ds S1 => ∃ xs, (ds = [.lst xs] ∨ ds = [.tup xs]) ∧ QL (enumD xs) S1) : Wp (mi_enum ms) ρ S QL := wp_bind (h.mono fun ds S1 h => by
  obtain ⟨xs, h1, q⟩ := h
  rcases h1 with rfl | rfl
  · exact wp_lift rfl q
  · exact wp_lift rfl q)
end
theorem eq_int (i j : Int) : eqF (.int i) (.int j) = some (decide (i = j)) := by
  have h : eqF (.int i) (.int j) = some (PyData.eqv (.int i) (.int j)) := rfl
  rw [h]
  congr 1
end Pd

/-! law_k01_errors: the mathematics. -/
namespace K1
open PySem Pd L2
abbrev Dk (hi : Int) (S : Sto) : Prop := DkS "cells" "mixed" "draws" hi S
theorem ks : Keys3 ("cells" : Str) ("mixed" : Str) ("draws" : Str) := ⟨by decide +kernel, by decide +kernel, by decide +kernel⟩
def nums : N1 := ⟨2147483563, 2147483629, 60623, 201, 40692, 2147483647, 69621, 201, 2147483579, 39373, 2147483549, 64⟩
theorem nums_ok : nums.Ok := ⟨by decide, by decide, by decide, by decide, by decide, by decide, by decide, by decide, by decide⟩
theorem draw_Q : DrawQ "cells" "mixed" "draws" F_law_draw := draw1_Q (N := nums) nums_ok ks
theorem pick_q {hi : Int} {ds : List D} {S : Sto} (hd : ds ≠ []) (hl : ds.length ≤ 1000) (hf : ∀ d ∈ ds, fixed d = true) (hh : hi < 2 ^ 62) (hS : Dk hi S) :
    FWp F_law_pick [.own 1, .lst ds] S fun d S' => d ∈ ds ∧ Dk (hi + 1) S' := pick1_q draw_Q hd hl hf hh hS
/-! ### the deck -/
theorem deck_q {ns : List Int} : FWp F_law_deck [.scr ns] [] fun d S' => d = .own 1 ∧ Dk 0 S' := by
  refine run_q ?_
  show SWp B_law_deck [.d (.scr ns), .un, .un, .un] [] _
  unfold B_law_deck
  have hc : (cutD ns none (some 63)).length ≤ 63 := by
    have : (cutD ns none (some 63)).length ≤ min 63 ns.length := by
      unfold cutD
      rw [show HT.sIx ns.length ns.length (some 63) = min 63 ns.length from HT.sIx_nat _ _ 63]
      simp [HT.sIx]
    omega
  refine sw_seq (sw_par (wp_cons (wp_cb (wp_cons (wp_slice (wp_var rfl (wo_none (wo_some (wp_c ⟨63, rfl, _, _, rfl, rfl, wp_nil ⟨_, _, rfl, rfl, ?_⟩⟩)))))))))
  refine wp_cons (wp_c (wp_nil ⟨_, _, rfl, rfl, rfl, ?_⟩))
  generalize hcs : cutD ns none (some 63) = cs at hc ⊢
  show SWp _ [.d (.scr ns), .d (.lst (cs.map D.int)), .d (.int 10867001), .un] [] _
  refine sw_seq (sw_for (wi_of (wp_var rfl ⟨_, rfl, ?_⟩)))
  refine for_q (P := fun _ ρ S => S = [] ∧ ∃ m x, ρ = [.d (.scr ns), .d (.lst (cs.map D.int)), .d (.int m), x]) _ _ 0 ⟨rfl, _, _, rfl⟩ ?_ ?_
  · rintro j d ρ S hj ⟨rfl, m, x, rfl⟩
    refine ⟨_, rfl, ?_⟩
    obtain ⟨c, _, rfl⟩ := List.mem_map.mp (List.mem_of_getElem? hj)
    refine sw_asg (wp_op (wp_cb (wp_cons (wp_op (wp_op (wp_op (wp_var rfl (wp_c (op_q rfl rfl (mul_r (by rw [show small64 39373 = true by decide, Bool.or_true])) ?_)))))))))
    refine wp_op (wp_cb (wp_cons (wp_var rfl (wp_nil ⟨_, _, rfl, rfl, wp_c (op_q rfl rfl (mod_r (by decide)) (op_q rfl rfl rfl ?_))⟩))))
    refine wp_c (op_q rfl rfl rfl (wp_nil ⟨_, _, rfl, rfl, wp_c (op_q rfl rfl (mod_r (by decide)) ⟨rfl, _, rfl, ?_⟩)⟩))
    exact ⟨rfl, _, _, rfl⟩
  · rintro ρ S ⟨rfl, m, x, rfl⟩
    refine sw_ret (wp_dispO (wp_pcons (wp_pub (wp_rev (wp_var rfl ⟨_, rfl, ?_⟩)))))
    refine wp_pcons (wp_var rfl (wp_pcons (wp_c (wp_pnil ⟨rfl, by decide, rfl, rfl, ?_⟩))))
    refine ⟨cs.reverse, m, 0, ?_, by simpa using hc, Int.le_refl _, Int.le_refl _⟩
    rw [← List.map_reverse]
    kernel_rfl
/-! ### values -/
def consts : List D := [.non, .bl true, .bl false, .int 0, .int (-1), .int 7, .int (10 ^ 39), .str "", .str "rooms", .str "a b", .str "\n", .tup [], .lst [], .dct [], .str (repS "x" 60)]
def okB (k : Nat) (p : PyData) : Bool := p.showable && (decide (p.depth ≤ k) && (p.leavesShort 64 && decide (p.bulk ≤ Bk k)))
theorem val_of {k : Nat} {d : D} {p : PyData} (e : d.py = some p) (h : okB k p = true) : Val k d := by
  simp only [okB, Bool.and_eq_true, decide_eq_true_eq] at h
  exact ⟨p, e, h.1, h.2.1, h.2.2.1, h.2.2.2⟩
theorem consts_val : ∀ d ∈ consts, Val 1 d := by
  have h : ∀ d ∈ consts, ∃ p, d.py = some p ∧ okB 1 p = true := by
    have h2 : (consts.all fun d => match d.py with | some p => okB 1 p | none => false) = true := by decide +kernel
    intro d hd
    have := List.all_eq_true.mp h2 d hd
    cases e : d.py with
    | none => rw [e] at this; cases this
    | some p => rw [e] at this; exact ⟨p, rfl, this⟩
  intro d hd
  obtain ⟨p, e, h⟩ := h d hd
  exact val_of e h
def vc : Nat → Int
  | 0 => 1
  | d + 1 => 3 + 3 * vc d
theorem vc_pos : ∀ d, 1 ≤ vc d
  | 0 => Int.le_refl _
  | d + 1 => by have := vc_pos d; show 1 ≤ 3 + 3 * vc d; omega
theorem pick_part {d : Int} {hi : Int} {S : Sto} {rest : SM} {QD : D → Sto → Prop} (hh : hi < 2 ^ 62) (hS : Dk hi S) (hq : ∀ r S', Val 1 r → Dk (hi + 1) S' → QD r S') :
    SWp (s_seq (s_asg (g_name 2) (m_lst (ma_cons (m_c .non) (ma_cons (m_c (.bl true)) (ma_cons (m_c (.bl false)) (ma_cons (m_c (.int 0)) (ma_cons (m_neg (m_c (.int 1))) (ma_cons (m_c (.int 7)) (ma_cons (m_op powD (m_c (.int 10)) (m_c (.int 39))) (ma_cons (m_c (.str "")) (ma_cons (m_c (.str "rooms")) (ma_cons (m_c (.str "a b")) (ma_cons (m_c (.str "\n")) (ma_cons (m_tup ma_nil) (ma_cons (m_lst ma_nil) (ma_cons (m_c (.dct [])) (ma_cons (m_op mulSD (m_c (.str "x")) (m_c (.int 60))) ma_nil)))))))))))))))))
      (s_ret (m_call 2 F_law_pick (ma_cons (m_var 0) (ma_cons (m_var 2) ma_nil))))) [.d (.own 1), .d (.int d), .un, .un, .un, .un, .un] S (NxQ rest (RetQ QD)) := by
  refine sw_seq (sw_asg ?_)
  refine ⟨.lst consts, S, by kernel_rfl, rfl, _, rfl, ?_⟩
  refine sw_ret (wp_call (wp_cons (wp_var rfl (wp_cons (wp_var rfl (wp_nil ⟨rfl, rfl, ?_⟩))))))
  refine (pick_q (by decide) (by decide) (fun d hd => (consts_val d hd).fix) hh hS).mono fun r S' h => ?_
  exact ⟨(consts_val r h.1).fix, hq r S' (consts_val r h.1) h.2⟩
/-! ### dicts of numbered parts -/
def kvD (p : Int × D) : Key × D := (Sum.inl p.1, p.2)
def tpD (p : Int × D) : D := .tup [.int p.1, p.2]
theorem pairs_kv : ∀ kv : List (Int × D), pairsD (kv.map tpD) = some (kv.map kvD)
  | [] => rfl
  | p :: r => by
    have h := pairs_kv r
    show pairsD (.tup [.int p.1, p.2] :: r.map tpD) = some (kvD p :: r.map kvD)
    simp only [pairsD, keyOfD, h]
    rfl
theorem put_kv {A : Int × D → Prop} {acc : List (Int × D)} {p : Int × D} (h : ∀ q ∈ acc, A q) (hp : A p) : ∃ acc' : List (Int × D), putD (acc.map kvD) (Sum.inl p.1) p.2 = acc'.map kvD ∧ acc'.length ≤ acc.length + 1 ∧ ∀ q ∈ acc', A q := by
  unfold putD
  split
  · refine ⟨acc.map fun q => if (Sum.inl q.1 : Key) = Sum.inl p.1 then p else q, ?_, by simp, fun q hq => ?_⟩
    · rw [List.map_map, List.map_map]
      refine List.map_congr_left fun q _ => ?_
      show (if (kvD q).1 = Sum.inl p.1 then ((kvD q).1, p.2) else kvD q) = kvD (if (Sum.inl q.1 : Key) = Sum.inl p.1 then p else q)
      by_cases e : q.1 = p.1
      · have h1 : (kvD q).1 = Sum.inl p.1 := congrArg Sum.inl e
        have h2 : (Sum.inl q.1 : Key) = Sum.inl p.1 := congrArg Sum.inl e
        rw [if_pos h1, if_pos h2, h1]
        rfl
      · have h1 : ¬ (kvD q).1 = Sum.inl p.1 := fun z => e (Sum.inl.inj z)
        have h2 : ¬ (Sum.inl q.1 : Key) = Sum.inl p.1 := fun z => e (Sum.inl.inj z)
        rw [if_neg h1, if_neg h2]
    · obtain ⟨q0, hq0, rfl⟩ := List.mem_map.mp hq
      split
      · exact hp
      · exact h q0 hq0
  · exact ⟨acc ++ [p], by simp [kvD], by simp, fun q hq => (List.mem_append.mp hq).elim (h q) fun z => by rw [List.mem_singleton.mp z]; exact hp⟩
theorem merge_kv {A : Int × D → Prop} : ∀ {kv acc : List (Int × D)}, (∀ q ∈ acc, A q) → (∀ q ∈ kv, A q) → ∃ r : List (Int × D), mergeD (acc.map kvD) (kv.map kvD) = r.map kvD ∧ r.length ≤ acc.length + kv.length ∧ ∀ q ∈ r, A q
  | [], acc, h, _ => ⟨acc, rfl, by simp, h⟩
  | p :: kv, acc, h, hk => by
    obtain ⟨acc', e, l, h'⟩ := put_kv h (hk p List.mem_cons_self)
    obtain ⟨r, e2, l2, h2⟩ := merge_kv h' (fun q hq => hk q (List.mem_cons_of_mem _ hq))
    refine ⟨r, ?_, by simp; omega, h2⟩
    rw [← e2, ← e]
    rfl
theorem enum_tp {ds : List D} {x : D} (h : x ∈ enumD ds) : ∃ (i : Nat) (d : D), x = .tup [.int (i : Int), d] ∧ i < ds.length ∧ d ∈ ds := by
  obtain ⟨i, hi⟩ := List.mem_iff_getElem?.mp h
  unfold enumD at hi
  rw [List.getElem?_zipWith] at hi
  cases e1 : (rangeD 0 ds.length)[i]? with
  | none => rw [e1] at hi; simp at hi
  | some a =>
    cases e2 : ds[i]? with
    | none => rw [e1, e2] at hi; simp at hi
    | some d =>
      rw [e1, e2] at hi
      have hl : i < ds.length := (List.getElem?_eq_some_iff.mp e2).1
      rw [rangeD_get hl, Int.zero_add] at e1
      cases e1
      simp at hi
      exact ⟨i, d, hi.symm, hl, List.mem_of_getElem? e2⟩
theorem value_q : ∀ (d : Nat) {hi : Int} {S : Sto}, d ≤ 3 → hi + 10 * vc d < 2 ^ 61 → Dk hi S → FWp (F_law_value (d + 1)) [.own 1, .int d] S fun r S' => Val (d + 1) r ∧ Dk (hi + vc d) S'
  | 0, hi, S, _, hh, hS => by
    have hh : hi + 10 * 1 < 2 ^ 61 := hh
    refine run_q ?_
    show SWp (B_law_value (F_law_value 0)) [.d (.own 1), .d (.int 0), .un, .un, .un, .un, .un] S _
    unfold B_law_value
    refine sw_seq (sw_if (wt_or (wp_cmpT (wp_var rfl (wp_c (cm_q rfl rfl (eq_int 0 0) ?_))))))
    rw [if_pos (by decide)]
    refine wp_pure ?_
    rw [if_pos rfl]
    exact pick_part (by omega) hS fun r S' h1 h2 => ⟨h1, h2⟩
  | d + 1, hi, S, hd, hh, hS => by
    have hh : hi + 10 * (3 + 3 * vc d) < 2 ^ 61 := hh
    refine run_q ?_
    show SWp (B_law_value (F_law_value (d + 1))) [.d (.own 1), .d (.int ((d + 1 : Nat) : Int)), .un, .un, .un, .un, .un] S _
    unfold B_law_value
    have vp := vc_pos d
    have v3 : vc d ≤ 1000 := by
      have h0 : vc 0 = 1 := rfl
      have h1 : vc 1 = 6 := by decide
      have h2 : vc 2 = 21 := by decide
      rcases (by omega : d = 0 ∨ d = 1 ∨ d = 2) with rfl | rfl | rfl <;> omega
    refine sw_seq (sw_if (wt_or (wp_cmpT (wp_var rfl (wp_c (cm_q rfl rfl (eq_int _ 0) ?_))))))
    rw [if_neg (by simp; omega)]
    refine wp_cmpT (wp_call (wp_cons (wp_var rfl (wp_cons (wp_c (wp_nil ⟨rfl, rfl, ?_⟩))))))
    refine (draw_Q hi 2 S (by decide) (by decide) (by omega) hS).mono fun x S1 h => ?_
    obtain ⟨⟨i, rfl, i0, i1⟩, hS1⟩ := h
    refine wp_c (cm_q rfl rfl (eq_int i 0) ?_)
    by_cases hi0 : i = 0
    · rw [decide_eq_true hi0, if_pos rfl]
      exact pick_part (by omega) hS1 fun r S' h1 h2 => ⟨h1.mono (by omega), h2.mono (by show hi + 1 + 1 ≤ hi + (3 + 3 * vc d); omega)⟩
    · rw [decide_eq_false hi0, if_neg Bool.false_ne_true]
      refine sw_nx ?_
      show SWp _ [.d (.own 1), .d (.int ((d + 1 : Nat) : Int)), .un, .un, .un, .un, .un] S1 _
      refine sw_seq (sw_asg (wp_fz (wp_lc (wi_range1 (wp_cons (wp_call (wp_cons (wp_var rfl (wp_cons (wp_c (wp_nil ⟨rfl, rfl, ?_⟩)))))))))))
      refine (draw_Q (hi + 1) 4 S1 (by decide) (by decide) (by omega) hS1).mono fun x S2 h => ?_
      obtain ⟨⟨j, rfl, j0, j1⟩, hS2⟩ := h
      refine wp_nil ⟨j, rfl, ⟨by omega, by omega⟩, ?_⟩
      have hj : (rangeD 0 j.toNat).length ≤ 3 := by rw [rangeD_len]; omega
      refine lc_q (P := fun acc S => (∀ y ∈ acc, Val (d + 1) y) ∧ Dk (hi + 2 + acc.length * vc d) S) _ [] ⟨fun y hy => absurd hy List.not_mem_nil, DkS.mono hS2 (by show hi + 1 + 1 ≤ hi + 2 + ((0 : Nat) : Int) * vc d; omega)⟩ (by rw [sizeLine_eq]; simp; omega) ?_ ?_
      · intro x acc S hx hal hP
        simp only [List.length_nil, Nat.zero_add] at hal
        obtain ⟨hv, hD⟩ := hP
        obtain ⟨c, _, rfl⟩ := List.mem_map.mp hx
        refine ⟨_, rfl, wp_pure ?_⟩
        rw [if_pos rfl]
        have hlen : (acc.length : Int) * vc d ≤ 3 * vc d := Int.mul_le_mul_of_nonneg_right (by omega) (by omega)
        refine wp_call (wp_cons (wp_var rfl (wp_cons (wp_op (wp_var rfl (wp_c (op_q rfl rfl rfl (wp_nil ⟨rfl, rfl, ?_⟩))))))))
        rw [show (((d + 1 : Nat) : Int) - 1) = (d : Int) by omega]
        refine (value_q d (hi := hi + 2 + acc.length * vc d) (by omega) (by omega) hD).mono fun r S' h => ?_
        refine ⟨h.1.fix, fun y hy => ?_, h.2.mono ?_⟩
        · rcases List.mem_append.mp hy with hy | hy
          · exact hv y hy
          · rw [List.mem_singleton.mp hy]; exact h.1
        · have e : ((acc ++ [r]).length : Int) = acc.length + 1 := by simp
          rw [e, Int.add_mul]
          omega
      · intro ys S hl hP
        obtain ⟨hv, hD⟩ := hP
        simp only [List.length_nil, Nat.zero_add] at hl
        have hy3 : ys.length ≤ 3 := by omega
        have hyl : (ys.length : Int) * vc d ≤ 3 * vc d := Int.mul_le_mul_of_nonneg_right (by omega) (by omega)
        refine ⟨rfl, _, rfl, ?_⟩
        show SWp _ [.d (.own 1), .d (.int ((d + 1 : Nat) : Int)), .un, .d (.lst ys), .un, .un, .un] S _
        refine sw_seq (sw_asg (wp_call (wp_cons (wp_var rfl (wp_cons (wp_c (wp_nil ⟨rfl, rfl, ?_⟩)))))))
        refine (draw_Q _ 3 S (by decide) (by decide) (by omega) hD).mono fun x S3 h => ?_
        obtain ⟨⟨w, rfl, w0, w1⟩, hS3⟩ := h
        have hS4 : Dk (hi + vc (d + 1)) S3 := hS3.mono (by show _ ≤ hi + (3 + 3 * vc d); omega)
        refine ⟨rfl, _, rfl, ?_⟩
        show SWp _ [.d (.own 1), .d (.int ((d + 1 : Nat) : Int)), .un, .d (.lst ys), .un, .d (.int w), .un] S3 _
        refine sw_ret (wp_if (wp_cmpT (wp_var rfl (wp_c (cm_q rfl rfl (eq_int w 0) ?_)))))
        by_cases hw : w = 0
        · rw [decide_eq_true hw, if_pos rfl]
          refine wp_cb (wp_cons (wp_var rfl (wp_nil ⟨_, _, rfl, rfl, rfl, ?_⟩)))
          exact ⟨val_tup hy3 hv, hS4⟩
        · rw [decide_eq_false hw, if_neg Bool.false_ne_true]
          refine wp_if (wp_cmpT (wp_var rfl (wp_c (cm_q rfl rfl (eq_int w 1) ?_))))
          by_cases hw1 : w = 1
          · rw [decide_eq_true hw1, if_pos rfl]
            refine wp_var rfl ⟨rfl, ?_⟩
            exact ⟨val_lst hy3 hv, hS4⟩
          · rw [decide_eq_false hw1, if_neg Bool.false_ne_true]
            refine wp_cb (wp_cons (wp_fz (wp_lc (wi_enum (wp_cons (wp_var rfl (wp_nil ⟨ys, .inl rfl, ?_⟩)))))))
            refine lc_q (P := fun acc S => S = S3 ∧ ∃ kv : List (Int × D), acc = kv.map tpD ∧ ∀ p ∈ kv, (0 ≤ p.1 ∧ p.1 < 10) ∧ Val (d + 1) p.2) _ [] ⟨rfl, [], rfl, fun p hp => absurd hp List.not_mem_nil⟩ (by rw [sizeLine_eq]; simp [enumD, rangeD_len]; omega) ?_ ?_
            · rintro x acc S hx hal ⟨rfl, kv, rfl, hk⟩
              obtain ⟨i, y, rfl, hi, hy⟩ := enum_tp hx
              refine ⟨_, rfl, wp_pure ?_⟩
              rw [if_pos rfl]
              refine wp_tup (wp_cons (wp_var rfl (wp_cons (wp_var rfl (wp_nil ⟨?_, by show 2 ≤ sizeLine; decide, rfl, rfl, kv ++ [((i : Int), y)], by simp [tpD], ?_⟩)))))
              · have := (hv y hy).fix
                show (fixed (.int (i : Int)) && (fixed y && true)) = true
                rw [this]
                rfl
              · intro p hp
                rcases List.mem_append.mp hp with hp | hp
                · exact hk p hp
                · rw [List.mem_singleton.mp hp]
                  exact ⟨⟨by show (0 : Int) ≤ (i : Int); omega, by show (i : Int) < 10; omega⟩, hv y hy⟩
            · rintro zs S hl2 ⟨rfl, kv, rfl, hk⟩
              have hkl : kv.length ≤ 3 := by
                simp [enumD, rangeD_len] at hl2
                omega
              obtain ⟨r, e, l, hr⟩ := merge_kv (acc := []) (fun q hq => absurd hq List.not_mem_nil) hk
              refine wp_nil ⟨_, .dct (mergeD [] (kv.map kvD)), rfl, by simp only [dictD, pairs_kv]; rfl, rfl, ?_⟩
              have e' : mergeD [] (kv.map kvD) = r.map kvD := e
              rw [e']
              exact ⟨val_dct (by simp at l; omega) hr, hS4⟩
end K1

/-! law_k01_errors: each word's error. -/
namespace K1
open PySem Pd L2
def words : List Str := ["BadBook", "BadDevice", "BadWard", "BadGuest", "BadOnlooker", "BadText", "BadChoice", "TooMany", "CannotCome", "Refused", "NeverSure", "NeverStays", "Uncaught", "BadName", "NameTaken", "NoWard", "NotHeard", "NotAlike", "Harmful", "OtherFaces", "NothingToUndo", "NothingToRedo", "InvalidCommand"]
/-- what the text makes of a word -/
structure WordOk (w : Str) (bears : Bool) : Prop where
  run : ∀ (k : Nat) (it : D) (b : Bool) (S : Sto), Val k it → ∃ fs, F_law_made [.str w, it, .bl b] S = some (.ok (.exc w fs), S) ∧ F_law_worth [.str w, .exc w fs] S = some (.ok (if bears = true then it else .non), S)
  sorts : ∀ (fs : List (Str × D)) (S : Sto), F_law_sorts [.exc w fs] S = some (.ok (.lst [.str w]), S)
  same : neF (.lst [.str w]) (.lst [.str w]) = some false
  ward : isErr "WardError" errL "WardError" w = some true
  early : inD (.str w) (.lst ((words.map D.str).take 19)) = some bears

theorem w_BadBook : WordOk "BadBook" true where
  run := fun k it b S h => by
    obtain ⟨p, e, _⟩ := h.ex
    refine ⟨[("part", it)], ?_⟩
    cases it <;> first | (exfalso; simp [D.py] at e; done) | (cases b <;> (constructor <;> kernel_rfl))
  sorts := fun fs S => by kernel_rfl
  same := by kernel_rfl
  ward := by kernel_rfl
  early := by kernel_rfl
theorem w_BadDevice : WordOk "BadDevice" true where
  run := fun k it b S h => by
    obtain ⟨p, e, _⟩ := h.ex
    refine ⟨[("part", it)], ?_⟩
    cases it <;> first | (exfalso; simp [D.py] at e; done) | (cases b <;> (constructor <;> kernel_rfl))
  sorts := fun fs S => by kernel_rfl
  same := by kernel_rfl
  ward := by kernel_rfl
  early := by kernel_rfl
theorem w_BadWard : WordOk "BadWard" true where
  run := fun k it b S h => by
    obtain ⟨p, e, _⟩ := h.ex
    refine ⟨[("part", it)], ?_⟩
    cases it <;> first | (exfalso; simp [D.py] at e; done) | (cases b <;> (constructor <;> kernel_rfl))
  sorts := fun fs S => by kernel_rfl
  same := by kernel_rfl
  ward := by kernel_rfl
  early := by kernel_rfl
theorem w_BadGuest : WordOk "BadGuest" true where
  run := fun k it b S h => by
    obtain ⟨p, e, _⟩ := h.ex
    refine ⟨[("part", it)], ?_⟩
    cases it <;> first | (exfalso; simp [D.py] at e; done) | (cases b <;> (constructor <;> kernel_rfl))
  sorts := fun fs S => by kernel_rfl
  same := by kernel_rfl
  ward := by kernel_rfl
  early := by kernel_rfl
theorem w_BadOnlooker : WordOk "BadOnlooker" true where
  run := fun k it b S h => by
    obtain ⟨p, e, _⟩ := h.ex
    refine ⟨[("part", it)], ?_⟩
    cases it <;> first | (exfalso; simp [D.py] at e; done) | (cases b <;> (constructor <;> kernel_rfl))
  sorts := fun fs S => by kernel_rfl
  same := by kernel_rfl
  ward := by kernel_rfl
  early := by kernel_rfl
theorem w_BadText : WordOk "BadText" true where
  run := fun k it b S h => by
    obtain ⟨p, e, _⟩ := h.ex
    refine ⟨[("line", it)], ?_⟩
    cases it <;> first | (exfalso; simp [D.py] at e; done) | (cases b <;> (constructor <;> kernel_rfl))
  sorts := fun fs S => by kernel_rfl
  same := by kernel_rfl
  ward := by kernel_rfl
  early := by kernel_rfl
theorem w_BadChoice : WordOk "BadChoice" true where
  run := fun k it b S h => by
    obtain ⟨p, e, _⟩ := h.ex
    refine ⟨[("choice", it)], ?_⟩
    cases it <;> first | (exfalso; simp [D.py] at e; done) | (cases b <;> (constructor <;> kernel_rfl))
  sorts := fun fs S => by kernel_rfl
  same := by kernel_rfl
  ward := by kernel_rfl
  early := by kernel_rfl
theorem w_TooMany : WordOk "TooMany" true where
  run := fun k it b S h => by
    obtain ⟨p, e, _⟩ := h.ex
    refine ⟨[("most", it)], ?_⟩
    cases it <;> first | (exfalso; simp [D.py] at e; done) | (cases b <;> (constructor <;> kernel_rfl))
  sorts := fun fs S => by kernel_rfl
  same := by kernel_rfl
  ward := by kernel_rfl
  early := by kernel_rfl
theorem w_CannotCome : WordOk "CannotCome" true where
  run := fun k it b S h => by
    obtain ⟨p, e, _⟩ := h.ex
    refine ⟨[("place", it)], ?_⟩
    cases it <;> first | (exfalso; simp [D.py] at e; done) | (cases b <;> (constructor <;> kernel_rfl))
  sorts := fun fs S => by kernel_rfl
  same := by kernel_rfl
  ward := by kernel_rfl
  early := by kernel_rfl
theorem w_Refused : WordOk "Refused" true where
  run := fun k it b S h => by
    obtain ⟨p, e, _⟩ := h.ex
    refine ⟨[("paper", it)], ?_⟩
    cases it <;> first | (exfalso; simp [D.py] at e; done) | (cases b <;> (constructor <;> kernel_rfl))
  sorts := fun fs S => by kernel_rfl
  same := by kernel_rfl
  ward := by kernel_rfl
  early := by kernel_rfl
theorem w_NeverSure : WordOk "NeverSure" true where
  run := fun k it b S h => by
    obtain ⟨p, e, _⟩ := h.ex
    refine ⟨[("paper", it)], ?_⟩
    cases it <;> first | (exfalso; simp [D.py] at e; done) | (cases b <;> (constructor <;> kernel_rfl))
  sorts := fun fs S => by kernel_rfl
  same := by kernel_rfl
  ward := by kernel_rfl
  early := by kernel_rfl
theorem w_NeverStays : WordOk "NeverStays" true where
  run := fun k it b S h => by
    obtain ⟨p, e, _⟩ := h.ex
    refine ⟨[("number", it)], ?_⟩
    cases it <;> first | (exfalso; simp [D.py] at e; done) | (cases b <;> (constructor <;> kernel_rfl))
  sorts := fun fs S => by kernel_rfl
  same := by kernel_rfl
  ward := by kernel_rfl
  early := by kernel_rfl
theorem w_Uncaught : WordOk "Uncaught" true where
  run := fun k it b S h => by
    obtain ⟨p, e, _⟩ := h.ex
    refine ⟨[("paper", it)], ?_⟩
    cases it <;> first | (exfalso; simp [D.py] at e; done) | (cases b <;> (constructor <;> kernel_rfl))
  sorts := fun fs S => by kernel_rfl
  same := by kernel_rfl
  ward := by kernel_rfl
  early := by kernel_rfl
theorem w_BadName : WordOk "BadName" true where
  run := fun k it b S h => by
    obtain ⟨p, e, _⟩ := h.ex
    refine ⟨[("name", it)], ?_⟩
    cases it <;> first | (exfalso; simp [D.py] at e; done) | (cases b <;> (constructor <;> kernel_rfl))
  sorts := fun fs S => by kernel_rfl
  same := by kernel_rfl
  ward := by kernel_rfl
  early := by kernel_rfl
theorem w_NameTaken : WordOk "NameTaken" true where
  run := fun k it b S h => by
    obtain ⟨p, e, _⟩ := h.ex
    refine ⟨[("name", it)], ?_⟩
    cases it <;> first | (exfalso; simp [D.py] at e; done) | (cases b <;> (constructor <;> kernel_rfl))
  sorts := fun fs S => by kernel_rfl
  same := by kernel_rfl
  ward := by kernel_rfl
  early := by kernel_rfl
theorem w_NoWard : WordOk "NoWard" true where
  run := fun k it b S h => by
    obtain ⟨p, e, _⟩ := h.ex
    refine ⟨[("name", it)], ?_⟩
    cases it <;> first | (exfalso; simp [D.py] at e; done) | (cases b <;> (constructor <;> kernel_rfl))
  sorts := fun fs S => by kernel_rfl
  same := by kernel_rfl
  ward := by kernel_rfl
  early := by kernel_rfl
theorem w_NotHeard : WordOk "NotHeard" true where
  run := fun k it b S h => by
    obtain ⟨p, e, _⟩ := h.ex
    refine ⟨[("heard", it)], ?_⟩
    cases it <;> first | (exfalso; simp [D.py] at e; done) | (cases b <;> (constructor <;> kernel_rfl))
  sorts := fun fs S => by kernel_rfl
  same := by kernel_rfl
  ward := by kernel_rfl
  early := by kernel_rfl
theorem w_NotAlike : WordOk "NotAlike" true where
  run := fun k it b S h => by
    obtain ⟨p, e, _⟩ := h.ex
    refine ⟨[("log", it)], ?_⟩
    cases it <;> first | (exfalso; simp [D.py] at e; done) | (cases b <;> (constructor <;> kernel_rfl))
  sorts := fun fs S => by kernel_rfl
  same := by kernel_rfl
  ward := by kernel_rfl
  early := by kernel_rfl
theorem w_Harmful : WordOk "Harmful" true where
  run := fun k it b S h => by
    obtain ⟨p, e, _⟩ := h.ex
    refine ⟨[("paper", it)], ?_⟩
    cases it <;> first | (exfalso; simp [D.py] at e; done) | (cases b <;> (constructor <;> kernel_rfl))
  sorts := fun fs S => by kernel_rfl
  same := by kernel_rfl
  ward := by kernel_rfl
  early := by kernel_rfl
theorem w_OtherFaces : WordOk "OtherFaces" false where
  run := fun k it b S h => by
    obtain ⟨p, e, _⟩ := h.ex
    refine ⟨[], ?_⟩
    cases it <;> first | (exfalso; simp [D.py] at e; done) | (cases b <;> (constructor <;> kernel_rfl))
  sorts := fun fs S => by kernel_rfl
  same := by kernel_rfl
  ward := by kernel_rfl
  early := by kernel_rfl
theorem w_NothingToUndo : WordOk "NothingToUndo" false where
  run := fun k it b S h => by
    obtain ⟨p, e, _⟩ := h.ex
    refine ⟨[], ?_⟩
    cases it <;> first | (exfalso; simp [D.py] at e; done) | (cases b <;> (constructor <;> kernel_rfl))
  sorts := fun fs S => by kernel_rfl
  same := by kernel_rfl
  ward := by kernel_rfl
  early := by kernel_rfl
theorem w_NothingToRedo : WordOk "NothingToRedo" false where
  run := fun k it b S h => by
    obtain ⟨p, e, _⟩ := h.ex
    refine ⟨[], ?_⟩
    cases it <;> first | (exfalso; simp [D.py] at e; done) | (cases b <;> (constructor <;> kernel_rfl))
  sorts := fun fs S => by kernel_rfl
  same := by kernel_rfl
  ward := by kernel_rfl
  early := by kernel_rfl
theorem w_InvalidCommand : WordOk "InvalidCommand" false where
  run := fun k it b S h => by
    obtain ⟨p, e, _⟩ := h.ex
    refine ⟨[], ?_⟩
    cases it <;> first | (exfalso; simp [D.py] at e; done) | (cases b <;> (constructor <;> kernel_rfl))
  sorts := fun fs S => by kernel_rfl
  same := by kernel_rfl
  ward := by kernel_rfl
  early := by kernel_rfl
theorem words_ok : ∀ w ∈ words, ∃ b, WordOk w b := by
  intro w h
  simp only [words, List.mem_cons, List.not_mem_nil, or_false] at h
  rcases h with rfl | rfl | rfl | rfl | rfl | rfl | rfl | rfl | rfl | rfl | rfl | rfl | rfl | rfl | rfl | rfl | rfl | rfl | rfl | rfl | rfl | rfl | rfl
  · exact ⟨_, w_BadBook⟩
  · exact ⟨_, w_BadDevice⟩
  · exact ⟨_, w_BadWard⟩
  · exact ⟨_, w_BadGuest⟩
  · exact ⟨_, w_BadOnlooker⟩
  · exact ⟨_, w_BadText⟩
  · exact ⟨_, w_BadChoice⟩
  · exact ⟨_, w_TooMany⟩
  · exact ⟨_, w_CannotCome⟩
  · exact ⟨_, w_Refused⟩
  · exact ⟨_, w_NeverSure⟩
  · exact ⟨_, w_NeverStays⟩
  · exact ⟨_, w_Uncaught⟩
  · exact ⟨_, w_BadName⟩
  · exact ⟨_, w_NameTaken⟩
  · exact ⟨_, w_NoWard⟩
  · exact ⟨_, w_NotHeard⟩
  · exact ⟨_, w_NotAlike⟩
  · exact ⟨_, w_Harmful⟩
  · exact ⟨_, w_OtherFaces⟩
  · exact ⟨_, w_NothingToUndo⟩
  · exact ⟨_, w_NothingToRedo⟩
  · exact ⟨_, w_InvalidCommand⟩
theorem try_part {k : Nat} {it : D} (S : Sto) (h : Val k it) : s_try 2 ["TooMany"] (fun _ => true) (s_raise "TooMany" "most" (m_var 0)) (fun c fs => (s_asg (g_name 1) (m_if (m_tr (m_c (.bl true))) (m_xf 2 fs "most") (m_c (.str "odd"))))) [.d it, .d (.str "odd"), .un] S = some (.nx, [.d it, .d it, .un], S) := by
  obtain ⟨p, e, _⟩ := h.ex
  cases it <;> first | (exfalso; simp [D.py] at e; done) | kernel_rfl
theorem eq_str (x : Str) : eqF (.str x) (.str x) = some true := by
  show some (decide (x = x)) = some true
  simp
theorem caught_q {k : Nat} {it : D} (S : Sto) (h : Val k it) (hk : k ≤ 4) : F_law_is_caught [it] S = some (.ok (.bl true), S) := by
  have q : FWp F_law_is_caught [it] S fun d S' => d = .bl true ∧ S' = S := by
    refine run_q ?_
    show SWp B_law_is_caught [.d it, .un, .un] S _
    unfold B_law_is_caught
    refine sw_seq (sw_asg (wp_c ⟨rfl, _, rfl, ?_⟩))
    refine sw_seq ⟨_, _, _, try_part S h, ?_⟩
    obtain ⟨x, ex⟩ := h.repr hk
    have hr : rsvA [Sv.d it, .d it, .un] S [it] = some [it] := by
      obtain ⟨p, e, _⟩ := h.ex
      cases it <;> first | rfl | (simp [D.py] at e; done)
    exact sw_ret (wp_cmp (wp_cb (wp_cons (wp_var rfl (wp_nil ⟨_, _, hr, ex, wp_cb (wp_cons (wp_var rfl (wp_nil ⟨_, _, hr, ex, cm_q rfl rfl (eq_str x) ⟨rfl, rfl, rfl⟩⟩)))⟩)))))
  obtain ⟨d, S', e, rfl, rfl⟩ := q
  exact e
end K1


/-! law_k01_errors: the law's run. -/
namespace K1
open PySem Pd L2
section
variable {ρ : Rho} {S : Sto} {QD : D → Sto → Prop} {me : M D}
theorem wp_isX {f : Str → Option Bool} (h : Wp me ρ S fun d S1 => ∃ c fs b, d = .exc c fs ∧ f c = some b ∧ QD (.bl b) S1) : Wp (m_isX f me) ρ S QD := wp_bind (h.mono fun d S1 h => by
  obtain ⟨c, fs, b, rfl, e, q⟩ := h
  exact wp_lift (x := .bl b) (by dsimp only; rw [e]; rfl) q)
end
theorem ne_str (x : Str) : neF (.str x) (.str x) = some false := by
  show (eqF (.str x) (.str x)).map (!·) = _
  rw [eq_str]
  rfl
theorem rsv_fix {ρ : Rho} {S : Sto} {k : Nat} {it : D} (h : Val k it) : rsv ρ S it = some it := by
  obtain ⟨p, e, _⟩ := h.ex
  cases it <;> first | rfl | (simp [D.py] at e; done)
theorem rsvA_fix {ρ : Rho} {S : Sto} {k : Nat} {it : D} (h : Val k it) : rsvA ρ S [it] = some [it] := by
  simp only [rsvA, rsv_fix h]
abbrev wl : D := .lst (words.map D.str)
theorem cut_19 : cutD (words.map D.str) none (some 19) = (words.map D.str).take 19 := by kernel_rfl
theorem val_non : Val 0 .non := val_of (p := .none) rfl (by decide)
def B_in : SM := (s_seq (s_asg (g_name 7) (m_call 3 F_law_made (ma_cons (m_var 3) (ma_cons (m_var 4) (ma_cons (m_var 6) ma_nil)))))
  (s_seq (s_if (mt_or (m_cmpT neF (m_call 1 F_law_sorts (ma_cons (m_var 7) ma_nil)) (m_lst (ma_cons (m_var 3) ma_nil))) (mt_or (mt_not (m_tr (m_isX (isErr "WardError" errL "WardError") (m_var 7)))) (mt_not (m_tr (m_call 1 F_law_is_caught (ma_cons (m_var 4) ma_nil)))))) (s_ret (m_c (.bl false))) s_nx)
  (s_if (mt_or (m_cmpT neF (m_cb reprD (ma_cons (m_call 2 F_law_worth (ma_cons (m_var 3) (ma_cons (m_var 7) ma_nil))) ma_nil)) (m_if (m_cmpT inD (m_var 3) (m_slice (m_var 2) mo_none (mo_some (m_c (.int 19))))) (m_var 5) (m_cb reprD (ma_cons (m_c .non) ma_nil)))) (m_cmpT neF (m_cb reprD (ma_cons (m_var 4) ma_nil)) (m_var 5))) (s_ret (m_c (.bl false))) s_nx)))
theorem in_q {w : Str} {bears : Bool} (W : WordOk w bears) {it : D} {x : Str} (hv : Val 4 it) (ex : reprD [it] = some (.str x)) (b : Bool) (S : Sto) (ns : List Int) (x7 x8 : Sv) :
    SWp B_in [.d (.scr ns), .d (.own 1), .d wl, .d (.str w), .d it, .d (.str x), .d (.bl b), x7, x8] S fun f ρ' S' => f = .nx ∧ S' = S ∧ ∃ x7, ρ' = [.d (.scr ns), .d (.own 1), .d wl, .d (.str w), .d it, .d (.str x), .d (.bl b), x7, x8] := by
  unfold B_in
  obtain ⟨fs, e1, e2⟩ := W.run 4 it b S hv
  have fx := hv.fix
  refine sw_seq (sw_asg (wp_call (wp_cons (wp_var rfl (wp_cons (wp_var rfl (wp_cons (wp_var rfl (wp_nil ⟨?_, rfl, _, _, e1, rfl, _, rfl, ?_⟩)))))))))
  · show (fixed (.str w) && (fixed it && (fixed (.bl b) && true))) = true
    rw [fx]
    rfl
  show SWp _ [.d (.scr ns), .d (.own 1), .d wl, .d (.str w), .d it, .d (.str x), .d (.bl b), .d (.exc w fs), x8] S _
  refine sw_seq (sw_if (wt_or (wp_cmpT (wp_call (wp_cons (wp_var rfl (wp_nil ⟨rfl, rfl, _, _, W.sorts fs S, ?_⟩)))))))
  refine wp_lst (wp_cons (wp_var rfl (wp_nil ⟨rfl, by show 1 ≤ sizeLine; decide, cm_q rfl rfl W.same ?_⟩)))
  rw [if_neg Bool.false_ne_true]
  refine wt_or (wt_not (wt_tr (wp_isX (wp_var rfl ⟨w, fs, true, rfl, W.ward, _, _, rfl, rfl, ?_⟩))))
  rw [if_neg (by decide)]
  refine wt_not (wt_tr (wp_call (wp_cons (wp_var rfl (wp_nil ⟨?_, rfl, _, _, caught_q S hv (by decide), _, _, rfl, rfl, ?_⟩)))))
  · show (fixed it && true) = true
    rw [fx]
    rfl
  rw [if_neg (by decide)]
  refine sw_nx (sw_if (wt_or (wp_cmpT (wp_cb (wp_cons (wp_call (wp_cons (wp_var rfl (wp_cons (wp_var rfl (wp_nil ⟨rfl, rfl, _, _, e2, ?_⟩)))))))))))
  have last : Wp (m_cmpT neF (m_cb reprD (ma_cons (m_var 4) ma_nil)) (m_var 5)) [.d (.scr ns), .d (.own 1), .d wl, .d (.str w), .d it, .d (.str x), .d (.bl b), .d (.exc w fs), x8] S fun k S1 => k = false ∧ S1 = S :=
    wp_cmpT (wp_cb (wp_cons (wp_var rfl (wp_nil ⟨_, _, rsvA_fix hv, ex, wp_var rfl (cm_q rfl rfl (ne_str x) ⟨rfl, rfl⟩)⟩))))
  have fin : Wp (if (false : Bool) = true then M.pure true else m_cmpT neF (m_cb reprD (ma_cons (m_var 4) ma_nil)) (m_var 5)) [.d (.scr ns), .d (.own 1), .d wl, .d (.str w), .d it, .d (.str x), .d (.bl b), .d (.exc w fs), x8] S fun k S1 => SWp (if k = true then s_ret (m_c (.bl false)) else s_nx) [.d (.scr ns), .d (.own 1), .d wl, .d (.str w), .d it, .d (.str x), .d (.bl b), .d (.exc w fs), x8] S1 fun f ρ' S' => f = .nx ∧ S' = S ∧ ∃ x7, ρ' = [.d (.scr ns), .d (.own 1), .d wl, .d (.str w), .d it, .d (.str x), .d (.bl b), x7, x8] := by
    rw [if_neg Bool.false_ne_true]
    refine last.mono fun k S1 h => ?_
    obtain ⟨rfl, rfl⟩ := h
    rw [if_neg Bool.false_ne_true]
    exact sw_nx ⟨rfl, rfl, _, rfl⟩
  cases bears with
  | true =>
    refine wp_nil ⟨_, _, rsvA_fix hv, ex, wp_if (wp_cmpT (wp_var rfl (wp_slice (wp_var rfl (wo_none (wo_some (wp_c ⟨19, rfl, _, _, rfl, rfl, ?_⟩)))))))⟩
    refine cm_q rfl rfl (by rw [cut_19]; exact W.early) ?_
    rw [if_pos rfl]
    exact wp_var rfl (cm_q rfl rfl (ne_str x) fin)
  | false =>
    refine wp_nil ⟨_, _, rsvA_fix val_non, rfl, wp_if (wp_cmpT (wp_var rfl (wp_slice (wp_var rfl (wo_none (wo_some (wp_c ⟨19, rfl, _, _, rfl, rfl, ?_⟩)))))))⟩
    refine cm_q rfl rfl (by rw [cut_19]; exact W.early) ?_
    rw [if_neg Bool.false_ne_true]
    exact wp_cb (wp_cons (wp_c (wp_nil ⟨_, _, rsvA_fix val_non, rfl, cm_q rfl rfl (ne_str _) fin⟩)))
def B_word : SM := (s_seq (s_asg (g_name 4) (m_call 2 (F_law_value 4) (ma_cons (m_var 1) (ma_cons (m_c (.int 3)) ma_nil))))
  (s_seq (s_asg (g_name 5) (m_cb reprD (ma_cons (m_var 4) ma_nil)))
  (s_for (mi_of (m_tup (ma_cons (m_c (.bl false)) (ma_cons (m_c (.bl true)) ma_nil)))) (g_name 6) B_in)))
/-- ahead of the j-th word -/
def PW (ns : List Int) (j : Nat) (ρ : Rho) (S : Sto) : Prop := (∃ x3 x4 x5 x6 x7 x8, ρ = [.d (.scr ns), .d (.own 1), .d wl, x3, x4, x5, x6, x7, x8]) ∧ Dk (j * 100) S
theorem vc_3 : vc 3 = 66 := by decide
theorem word_q {w : Str} (hw : w ∈ words) {ns : List Int} {j : Nat} {S : Sto} (hj : j ≤ 100) (x4 x5 x6 x7 x8 : Sv) (hS : Dk (j * 100) S) :
    SWp B_word [.d (.scr ns), .d (.own 1), .d wl, .d (.str w), x4, x5, x6, x7, x8] S fun f ρ' S' => f = .nx ∧ PW ns (j + 1) ρ' S' := by
  obtain ⟨bears, W⟩ := words_ok w hw
  unfold B_word
  refine sw_seq (sw_asg (wp_call (wp_cons (wp_var rfl (wp_cons (wp_c (wp_nil ⟨rfl, rfl, ?_⟩)))))))
  refine (value_q 3 (hi := j * 100) (by decide) (by rw [vc_3]; omega) hS).mono fun it S1 h => ?_
  obtain ⟨hv, hS1⟩ := h
  obtain ⟨x, ex⟩ := hv.repr (by decide)
  refine ⟨hv.fix, _, rfl, ?_⟩
  show SWp _ [.d (.scr ns), .d (.own 1), .d wl, .d (.str w), .d it, x5, x6, x7, x8] S1 _
  refine sw_seq (sw_asg (wp_cb (wp_cons (wp_var rfl (wp_nil ⟨_, _, rsvA_fix hv, ex, rfl, _, rfl, ?_⟩)))))
  show SWp _ [.d (.scr ns), .d (.own 1), .d wl, .d (.str w), .d it, .d (.str x), x6, x7, x8] S1 _
  refine sw_for (wi_of (wp_tup (wp_cons (wp_c (wp_cons (wp_c (wp_nil ⟨rfl, by show 2 ≤ sizeLine; decide, _, rfl, ?_⟩)))))))
  refine for_q (P := fun _ ρ S => S = S1 ∧ ∃ x6 x7, ρ = [.d (.scr ns), .d (.own 1), .d wl, .d (.str w), .d it, .d (.str x), x6, x7, x8]) _ _ 0 ⟨rfl, _, _, rfl⟩ ?_ ?_
  · rintro i d ρ S hi ⟨rfl, y6, y7, rfl⟩
    have hd : ∃ b, d = .bl b := by
      have := List.mem_of_getElem? hi
      simp at this
      rcases this with rfl | rfl
      · exact ⟨_, rfl⟩
      · exact ⟨_, rfl⟩
    obtain ⟨b, rfl⟩ := hd
    refine ⟨_, rfl, (in_q W hv ex b S ns y7 x8).mono fun f ρ' S' h => ?_⟩
    obtain ⟨rfl, rfl, z7, rfl⟩ := h
    exact ⟨rfl, _, _, rfl⟩
  · rintro ρ S ⟨rfl, y6, y7, rfl⟩
    refine ⟨rfl, ⟨_, _, _, _, _, _, rfl⟩, hS1.mono ?_⟩
    rw [vc_3]
    push_cast
    omega
def B_words (rest : SM) : SM := (s_seq (s_asg (g_name 2) (m_lst (ma_cons (m_c (.str "BadBook")) (ma_cons (m_c (.str "BadDevice")) (ma_cons (m_c (.str "BadWard")) (ma_cons (m_c (.str "BadGuest")) (ma_cons (m_c (.str "BadOnlooker")) (ma_cons (m_c (.str "BadText")) (ma_cons (m_c (.str "BadChoice")) (ma_cons (m_c (.str "TooMany")) ma_nil))))))))))
  (s_seq (s_asg (g_name 2) (m_op addD (m_var 2) (m_lst (ma_cons (m_c (.str "CannotCome")) (ma_cons (m_c (.str "Refused")) (ma_cons (m_c (.str "NeverSure")) (ma_cons (m_c (.str "NeverStays")) (ma_cons (m_c (.str "Uncaught")) (ma_cons (m_c (.str "BadName")) (ma_cons (m_c (.str "NameTaken")) (ma_cons (m_c (.str "NoWard")) ma_nil)))))))))))
  (s_seq (s_asg (g_name 2) (m_op addD (m_var 2) (m_lst (ma_cons (m_c (.str "NotHeard")) (ma_cons (m_c (.str "NotAlike")) (ma_cons (m_c (.str "Harmful")) ma_nil))))))
  (s_seq (s_asg (g_name 2) (m_op addD (m_var 2) (m_lst (ma_cons (m_c (.str "OtherFaces")) (ma_cons (m_c (.str "NothingToUndo")) (ma_cons (m_c (.str "NothingToRedo")) (ma_cons (m_c (.str "InvalidCommand")) ma_nil)))))))
  rest))))
theorem words_go {ns : List Int} {S : Sto} {rest : SM} : B_words rest [.d (.scr ns), .d (.own 1), .un, .un, .un, .un, .un, .un, .un] S = rest [.d (.scr ns), .d (.own 1), .d wl, .un, .un, .un, .un, .un, .un] S := by kernel_rfl
theorem end_go {ns : List Int} {S : Sto} (x3 x4 x5 x6 x7 x8 : Sv) : ∃ ρ', (s_seq (s_asg (g_name 8) (m_c (.exc "WardError" [])))
  (s_ret (m_and (m_cmp eqF (m_call 1 F_law_sorts (ma_cons (m_var 8) ma_nil)) (m_lst ma_nil)) (m_and (m_isX (isErrB errL true) (m_var 8)) (m_not (m_isX (isErrB errL false) (m_var 8))))))) [.d (.scr ns), .d (.own 1), .d wl, x3, x4, x5, x6, x7, x8] S = some (.rt (.bl true), ρ', S) := ⟨[.d (.scr ns), .d (.own 1), .d wl, x3, x4, x5, x6, x7, .d (.exc "WardError" [])], by kernel_rfl⟩
theorem law_q (ns : List Int) : ∃ S', Flaw [.scr ns] [] = some (.ok (.bl true), S') := by
  have q : FWp Flaw [.scr ns] [] fun d _ => d = .bl true := by
    refine run_q ?_
    show SWp Blaw [.d (.scr ns), .un, .un, .un, .un, .un, .un, .un, .un] [] _
    unfold Blaw
    refine sw_seq (sw_asg (wp_call (wp_cons (wp_var rfl (wp_nil ⟨rfl, rfl, ?_⟩)))))
    refine deck_q.mono fun d S h => ?_
    obtain ⟨rfl, hS⟩ := h
    refine ⟨rfl, _, rfl, ?_⟩
    show SWp (B_words _) [.d (.scr ns), .d (.own 1), .un, .un, .un, .un, .un, .un, .un] S _
    unfold SWp
    rw [words_go]
    show SWp _ [.d (.scr ns), .d (.own 1), .d wl, .un, .un, .un, .un, .un, .un] S _
    refine sw_seq (sw_for (wi_of (wp_var rfl ⟨_, rfl, ?_⟩)))
    refine for_q (P := PW ns) _ _ 0 ⟨⟨_, _, _, _, _, _, rfl⟩, by simpa using hS⟩ ?_ ?_
    · rintro j d ρ S hj ⟨⟨x3, x4, x5, x6, x7, x8, rfl⟩, hD⟩
      obtain ⟨w, hw, rfl⟩ := List.mem_map.mp (List.mem_of_getElem? hj)
      have hjl : j < (words.map D.str).length := (List.getElem?_eq_some_iff.mp hj).1
      have h23 : (words.map D.str).length = 23 := rfl
      refine ⟨_, rfl, (word_q hw (by omega) x4 x5 x6 x7 x8 hD).mono fun f ρ' S' h => ?_⟩
      obtain ⟨rfl, h⟩ := h
      exact h
    · rintro ρ S ⟨⟨x3, x4, x5, x6, x7, x8, rfl⟩, hD⟩
      obtain ⟨ρ', e⟩ := end_go (ns := ns) (S := S) x3 x4 x5 x6 x7 x8
      exact ⟨_, _, _, e, rfl⟩
  obtain ⟨d, S', e, rfl⟩ := q
  exact ⟨S', e⟩
end K1

/-! From the text's facts to the layer; from a law's function to its row's end. -/
namespace Pd
open PySem L2 Evl Hg
open PySem.Spec PyProof.Rows
/-- a def that the top has written -/
structure DF (K : PySem.W.Frag) (x : Str) (st : PySem.Stmt) : Prop where
  ex : ∃ (f : Addr) (fd : FuncData), PySem.W.nsIn K mainGlobals x = some (some (.ref f)) ∧ Fun K x x st f fd
theorem DF.mk1 {K : PySem.W.Frag} {x : Str} {st : PySem.Stmt} {f : Addr} {oc kV dc pm cd ct : Value} {od an : Option Addr} {sl : Array (Option Value)} (a : PySem.W.nsIn K mainGlobals x = some (some (.ref f)))
    (l : K.lookup f = some ⟨oc, od, .func (PySem.W.fnOf x x (defArgs st) (defBody st) (defScope st) .none kV dc pm an cd ct), sl⟩) (c : PySem.W.codeIn K cd x = true) (k : PySem.W.keepIn K (.ref f) = true) : DF K x st := ⟨f, _, a, fun_mk l c k⟩
/-- an error class of the text with an own `__init__` -/
structure EF (K : PySem.W.Frag) (c name q : Str) (st : PySem.Stmt) (C : Addr) (up : List Value) : Prop where
  ns : PySem.W.nsIn K mainGlobals c = some (some (.ref C))
  ec : EC K c C up
  made : PySem.W.excInitIn K C Hx.exLast "Exception.__new__" = true
  put : PySem.W.findIn K (.ref C) "__setattr__" = some (some (.builtin "object.__setattr__"))
  keep : PySem.W.keepIn K (.ref C) = true
  fn : ∃ (f : Addr) (fd : FuncData), PySem.W.findIn K (.ref C) "__init__" = some (some (.ref f)) ∧ PySem.W.typeIn K (.ref f) = some (.type "function") ∧ Fun K "__init__" q st f fd
  no : PySem.W.findIn K (.ref C) name = some none
abbrev excSl (k0 k1 k2 k3 k5 : Option Value) : Array (Option Value) := #[k0, k1, k2, k3, some (.builtin "Exception.__new__"), k5]
theorem EF.mk1 {K : PySem.W.Frag} {c name q : Str} {st : PySem.Stmt} {C f CW : Addr} {od an od2 : Option Addr} {bs sub : List Value} {n : Addr} {qn : Str} {sn : List Str} {ab : Bool} {col : Option Bool} {k0 k1 k2 k3 k5 : Option Value} {sl2 : Array (Option Value)} {kV dc pm cd ct : Value}
    (a : PySem.W.nsIn K mainGlobals c = some (some (.ref C))) (l : K.lookup C = some ⟨.type "type", od, .cls ⟨c, bs, .ref C :: .ref CW :: Hx.exLast, n, qn, true, sn, sub, ab, col, false⟩, excSl k0 k1 k2 k3 k5⟩)
    (ga : PySem.W.findIn K (.ref C) "__getattribute__" = some (some (.builtin "BaseException.__getattribute__"))) (gg : PySem.W.findIn K (.ref C) "__getattr__" = some none) (ha : PySem.W.findIn K (.ref C) "__class__" = some (some (.builtin "object.__class__")))
    (p : PySem.W.findIn K (.ref C) "__setattr__" = some (some (.builtin "object.__setattr__"))) (k : PySem.W.keepIn K (.ref C) = true)
    (i : PySem.W.findIn K (.ref C) "__init__" = some (some (.ref f))) (l2 : K.lookup f = some ⟨.type "function", od2, .func (PySem.W.fnOf "__init__" q (defArgs st) (defBody st) (defScope st) .none kV dc pm an cd ct), sl2⟩) (cc : PySem.W.codeIn K cd q = true) (kf : PySem.W.keepIn K (.ref f) = true)
    (no : PySem.W.findIn K (.ref C) name = some none) : EF K c name q st C (.ref CW :: Hx.exLast) :=
  ⟨a, ⟨⟨_, _, _, _, _, _, _, _, _, _, l⟩, ga, gg, ha⟩, by
    unfold PySem.W.excInitIn
    rw [l]
    simp [PySem.W.excTail], p, k, ⟨f, _, i, by show (K.lookup f).map (·.cls) = _; rw [l2]; rfl, fun_mk l2 cc kf⟩, no⟩
/-- .. without one -/
structure EB (K : PySem.W.Frag) (c : Str) (C : Addr) (up : List Value) : Prop where
  ns : PySem.W.nsIn K mainGlobals c = some (some (.ref C))
  ec : EC K c C up
  made : PySem.W.excIn K C Hx.exLast "Exception.__new__" = true
  keep : PySem.W.keepIn K (.ref C) = true
def strKeys (es : Array DictEntry) : Bool := es.toList.all fun e => match e.key with | .str _ _ => true | _ => false
theorem ns_ok {K : PySem.W.Frag} {n : Addr} {oc : Value} {od : Option Addr} {es : Array DictEntry} {k : Nat} {sl : Array (Option Value)} (l : K.lookup n = some ⟨oc, od, .dict es k, sl⟩) (h : strKeys es = true) : PySem.W.nsOkIn K n = true := by
  unfold PySem.W.nsOkIn
  rw [l]
  dsimp only
  rw [← Array.all_toList]
  exact h
theorem tail_last {K : PySem.W.Frag} : PySem.W.tailIn K Hx.exLast Hx.exLast = true := by
  unfold PySem.W.tailIn
  simp
theorem tail_one {K : PySem.W.Frag} {CW n : Addr} {oc oc2 : Value} {od od2 : Option Addr} {nm qn : Str} {bs mro sub : List Value} {hd ab dl : Bool} {sn : List Str} {col : Option Bool} {sl sl2 : Array (Option Value)} {es : Array DictEntry} {k : Nat}
    (l : K.lookup CW = some ⟨oc, od, .cls ⟨nm, bs, mro, n, qn, hd, sn, sub, ab, col, dl⟩, sl⟩) (l2 : K.lookup n = some ⟨oc2, od2, .dict es k, sl2⟩) (h : strKeys es = true) (ni : PySem.W.nsIn K n "__init__" = some none) : PySem.W.tailIn K Hx.exLast (.ref CW :: Hx.exLast) = true := by
  unfold PySem.W.tailIn
  dsimp only
  rw [l]
  dsimp only
  rw [ns_ok l2 h, ni, tail_last]
  simp
theorem EB.mk1 {K : PySem.W.Frag} {c : Str} {C : Addr} {up : List Value} {od : Option Addr} {bs sub : List Value} {n : Addr} {qn : Str} {sn : List Str} {ab : Bool} {col : Option Bool} {k0 k1 k2 k3 k5 : Option Value} {oc2 : Value} {od2 : Option Addr} {sl2 : Array (Option Value)} {es : Array DictEntry} {k' : Nat}
    (a : PySem.W.nsIn K mainGlobals c = some (some (.ref C))) (l : K.lookup C = some ⟨.type "type", od, .cls ⟨c, bs, .ref C :: up, n, qn, true, sn, sub, ab, col, false⟩, excSl k0 k1 k2 k3 k5⟩)
    (ga : PySem.W.findIn K (.ref C) "__getattribute__" = some (some (.builtin "BaseException.__getattribute__"))) (gg : PySem.W.findIn K (.ref C) "__getattr__" = some none) (ha : PySem.W.findIn K (.ref C) "__class__" = some (some (.builtin "object.__class__")))
    (l2 : K.lookup n = some ⟨oc2, od2, .dict es k', sl2⟩) (h : strKeys es = true) (ni : PySem.W.nsIn K n "__init__" = some none) (tl : PySem.W.tailIn K Hx.exLast up = true) (k : PySem.W.keepIn K (.ref C) = true) : EB K c C up :=
  ⟨a, ⟨⟨_, _, _, _, _, _, _, _, _, _, l⟩, ga, gg, ha⟩, by
    unfold PySem.W.excIn
    rw [l]
    simp [tl, ns_ok l2 h, ni], k⟩
theorem EC.over {K : PySem.W.Frag} {c : Str} {C CW : Addr} (h : EC K c C (.ref CW :: Hx.exLast)) : PySem.W.excOver K C Hx.exLast = true := by
  obtain ⟨cd, e, _, hm, _⟩ := h.cls
  unfold PySem.W.excOver
  rw [e]
  show (match cd.mro with | .ref C' :: bm => C' == C && PySem.W.excTail Hx.exLast bm | _ => false) = true
  rw [hm]
  simp [PySem.W.excTail]
theorem EF.err {K : PySem.W.Frag} {c name q : Str} {st : PySem.Stmt} {C CW : Addr} (h : EF K c name q st C (.ref CW :: Hx.exLast)) : ∃ (f : Addr) (fd : FuncData), Hx.Err K C f ∧ Fun K "__init__" q st f fd ∧ PySem.W.takerIn K C name = some none := by
  obtain ⟨f, fd, i, t, F⟩ := h.fn
  refine ⟨f, fd, ⟨h.made, h.ec.over, h.ec.dict, h.put, ?_, h.ec.ty, h.keep, i, t⟩, F, ?_⟩
  · rw [h.ec.sub, List.contains_cons, List.contains_cons, ex_base, Bool.or_true, Bool.or_true]
  · unfold PySem.W.takerIn
    rw [h.no]
    rfl
section
end
abbrev FF0 := List D → Sto → Option (R D × Sto)
section
variable {P : Program} {wo : World} {K : PySem.W.Frag} {mg : Str → Option Value} {base h : Heap} {k n : Nat} {x : Str} {st : PySem.Stmt} {ps : List Str} {sp : Sp}
theorem DF.cal {CX : CXT} (d : DF K x st) (X : K.In h) (G : h.Ns mainGlobals mg)
    (bd : ∀ (kV doc pm : Value) (an : Option Addr) (cdv ct : Value) (us : List Value), us.length = ps.length → bindArgs (PySem.W.fnOf x x (defArgs st) (defBody st) (defScope st) .none kV doc pm an cdv ct) ⟨us, []⟩ = pure (ps.zip us))
    (ok : ∀ (f : Addr) (fd : FuncData), Fun K x x st f fd → FnG P wo K mg base CX k f fd ps sp) : Hg.Cal P wo K mg base CX k x sp := by
  obtain ⟨f, fd, a, F⟩ := d.ex
  exact ⟨f, fd, ps, ok f fd F, PySem.W.mg_of X G a, F.kp, F.binds bd⟩
theorem EF.errG {c name pn q : Str} {C CW : Addr} (e : EF K c name q st C (.ref CW :: Hx.exLast)) (X : K.In h) (G : h.Ns mainGlobals mg)
    (bd : ∀ (kV doc pm : Value) (an : Option Addr) (cdv ct : Value) (us : List Value), us.length = 2 → bindArgs (PySem.W.fnOf "__init__" q (defArgs st) (defBody st) (defScope st) .none kV doc pm an cdv ct) ⟨us, []⟩ = pure ([("self" : Str), pn].zip us))
    (bk : ∀ (kV doc pm : Value) (an : Option Addr) (cdv ct y z : Value), bindArgs (PySem.W.fnOf "__init__" q (defArgs st) (defBody st) (defScope st) .none kV doc pm an cdv ct) ⟨[y], [(pn, z)]⟩ = pure [(("self" : Str), y), (pn, z)])
    (ok : ∀ (f : Addr) (fd : FuncData), Fun K "__init__" q st f fd → FnOk P wo K mg base CX0 1 f fd ["self", pn] (Hx.spKeep K name)) : ErrG P wo K mg base 1 c name pn := by
  obtain ⟨f, fd, T, F, no⟩ := e.err
  refine ⟨C, f, fd, ["self", pn], PySem.W.mg_of X G e.ns, T, no, ok f fd F, rfl, F.binds bd, fun s y z _ => ?_⟩
  obtain ⟨oc, od, kV, doc, pm, an, cdv, ct, osl, rfl, lk, hcd⟩ := F.ex
  exact .of_eq (bk kV doc pm an cdv ct y z)
/-- a def that promises nothing -/
theorem fn_none {CX : CXT} {f : Addr} {fd : FuncData} : FnG P wo K mg base CX k f fd ps (spD K mg n fun _ _ => none) := by
  refine ⟨fun vs H Q E h => ?_, fun A out s H args us vs Q E g hr e0 hb r h => ?_⟩
  · obtain ⟨w, S, ds, _, _, _, r, S', e, _⟩ := h
    cases e
  · obtain ⟨w, S, ds, _, _, _, r, S', e, _⟩ := h
    cases e
/-- the law, as its row asks -/
def spLaw (K : PySem.W.Frag) : Sp := fun vs H Q _ => ∃ (a : Addr) (ns : List Int), vs = [.ref a] ∧ SqL K H a (ns.map V.int) ∧ ns.length ≤ 63 ∧ ∀ H2, Q (.bl true) H2
theorem fnG_law {fa : Addr} {fd : FuncData} {F : FF0} (g : FnG P wo K mg base (L2.CX P wo) k fa fd [x] (spD K mg 1 F)) (hq : ∀ ns : List Int, ns.length ≤ 63 → ∃ S', F [.scr ns] [] = some (.ok (.bl true), S')) : FnG P wo K mg base CX0 k fa fd [x] (spLaw K) := by
  refine ⟨fun vs H Q E h => by obtain ⟨a, ns, rfl, _⟩ := h; rfl, fun A out s H args us vs Q E gq hr e0 hb r h => ?_⟩
  obtain ⟨a, ns, rfl, hS, hl, q⟩ := h
  obtain ⟨S', e⟩ := hq ns hl
  have at0 : At K mg ⟨H, []⟩ H [] := ⟨Ex.refl _, rfl, List.nodup_nil, fun a ha => absurd ha List.not_mem_nil, fun k a o h => by simp at h⟩
  have sp : spD K mg 1 F [.ref a] H Q (fun _ _ _ => False) := by
    refine ⟨⟨H, []⟩, [], [.scr ns], at0, .cons (.scr hS) .nil, rfl, _, _, e, fun d hd v H' w' _ _ hv => ?_, fun _ _ z => nomatch z⟩
    cases hd
    cases hv
    exact q H'
  refine codeAny_mono (g.go A out s H args us [.ref a] Q (fun _ _ _ => False) gq hr e0 hb r sp) fun r s' z => ?_
  match r, z with
  | .error er, z =>
    obtain ⟨_, _, _, _, _, _, _, _, _, _, _, _, f⟩ := z
    exact f.elim
  | .ok (.ret u), z => exact z
  | .ok .next, z => exact z
  | .ok .brk, z => exact z
  | .ok .cont, z => exact z
theorem walkD {l : PySem.W.OpenLaw} {q : Program} {loose : List Str} {XP : (Str → Option Value) → Heap → Prop} {YP : World → Heap → Prop} {d : DefRec} {K : Params → PySem.W.Frag} (hn : l.most = some 63) (hdf : d.params.defaults = []) (hi : PyProof.Rows.importsNone q = true) {k : Nat} (hr : Room k callerA)
    (hY : ∀ (w : World) (h : Heap), YP w h → (K w.params).In h)
    (F : ∀ (w : World) (mg : Str → Option Value) (fa : Addr) (h : Heap), (K w.params).In h → h.Ns mainGlobals mg → mg d.name = some (.ref fa) →
      ∃ fd : FuncData, (∀ (s : Shared) (u : Value), BindsTo s fd ⟨[u], []⟩ [("_law_script", u)]) ∧ ∀ base : Heap, (K w.params).In base → base.Ns mainGlobals mg → Sys base → FnG l.prog w (K w.params) mg base CX0 k fa fd ["_law_script"] (spLaw (K w.params))) :
    PySem.W.WalkO q loose XP YP l.row.toRowW d [] (fun f vs => PySem.call f vs) :=
  Hg.walkG (n := 63) (k := k) (x := "_law_script") (sp := fun K => spLaw K) hn (by decide) hdf hr hi hY F fun K H a ns hl _ hS => ⟨a, ns, rfl, hS, hl, fun _ => rfl⟩
end
/-- the address of a class -/
noncomputable def adOf (mg : Str → Option Value) (c : Str) : Addr := match mg c with
  | some (.ref a) => a
  | _ => 0
theorem adOf_eq {mg : Str → Option Value} {c : Str} {C : Addr} (h : mg c = some (.ref C)) : adOf mg c = C := by unfold adOf; rw [h]
end Pd

/-! law_k01_errors: the text's facts, gathered. -/
namespace K1
open PySem L2 Evl Hg Pd
open PySem.Spec PyProof.Rows

abbrev si_BadBook : PySem.Stmt := inClass (top 2) 0
theorem sci_BadBook : FnScope ["self", "part"] ["self", "part"] (defScope si_BadBook) := ⟨rfl, rfl, rfl, by decide +kernel, rfl, by decide +kernel, by decide +kernel⟩
abbrev si_BadDevice : PySem.Stmt := inClass (top 3) 0
theorem sci_BadDevice : FnScope ["self", "part"] ["self", "part"] (defScope si_BadDevice) := ⟨rfl, rfl, rfl, by decide +kernel, rfl, by decide +kernel, by decide +kernel⟩
abbrev si_BadWard : PySem.Stmt := inClass (top 4) 0
theorem sci_BadWard : FnScope ["self", "part"] ["self", "part"] (defScope si_BadWard) := ⟨rfl, rfl, rfl, by decide +kernel, rfl, by decide +kernel, by decide +kernel⟩
abbrev si_BadGuest : PySem.Stmt := inClass (top 5) 0
theorem sci_BadGuest : FnScope ["self", "part"] ["self", "part"] (defScope si_BadGuest) := ⟨rfl, rfl, rfl, by decide +kernel, rfl, by decide +kernel, by decide +kernel⟩
abbrev si_BadOnlooker : PySem.Stmt := inClass (top 6) 0
theorem sci_BadOnlooker : FnScope ["self", "part"] ["self", "part"] (defScope si_BadOnlooker) := ⟨rfl, rfl, rfl, by decide +kernel, rfl, by decide +kernel, by decide +kernel⟩
abbrev si_BadText : PySem.Stmt := inClass (top 7) 0
theorem sci_BadText : FnScope ["self", "line"] ["self", "line"] (defScope si_BadText) := ⟨rfl, rfl, rfl, by decide +kernel, rfl, by decide +kernel, by decide +kernel⟩
abbrev si_BadChoice : PySem.Stmt := inClass (top 8) 0
theorem sci_BadChoice : FnScope ["self", "choice"] ["self", "choice"] (defScope si_BadChoice) := ⟨rfl, rfl, rfl, by decide +kernel, rfl, by decide +kernel, by decide +kernel⟩
abbrev si_TooMany : PySem.Stmt := inClass (top 9) 0
theorem sci_TooMany : FnScope ["self", "most"] ["self", "most"] (defScope si_TooMany) := ⟨rfl, rfl, rfl, by decide +kernel, rfl, by decide +kernel, by decide +kernel⟩
abbrev si_CannotCome : PySem.Stmt := inClass (top 10) 0
theorem sci_CannotCome : FnScope ["self", "place"] ["self", "place"] (defScope si_CannotCome) := ⟨rfl, rfl, rfl, by decide +kernel, rfl, by decide +kernel, by decide +kernel⟩
abbrev si_Refused : PySem.Stmt := inClass (top 11) 0
theorem sci_Refused : FnScope ["self", "paper"] ["self", "paper"] (defScope si_Refused) := ⟨rfl, rfl, rfl, by decide +kernel, rfl, by decide +kernel, by decide +kernel⟩
abbrev si_NeverSure : PySem.Stmt := inClass (top 12) 0
theorem sci_NeverSure : FnScope ["self", "paper"] ["self", "paper"] (defScope si_NeverSure) := ⟨rfl, rfl, rfl, by decide +kernel, rfl, by decide +kernel, by decide +kernel⟩
abbrev si_NeverStays : PySem.Stmt := inClass (top 13) 0
theorem sci_NeverStays : FnScope ["self", "number"] ["self", "number"] (defScope si_NeverStays) := ⟨rfl, rfl, rfl, by decide +kernel, rfl, by decide +kernel, by decide +kernel⟩
abbrev si_Uncaught : PySem.Stmt := inClass (top 14) 0
theorem sci_Uncaught : FnScope ["self", "paper"] ["self", "paper"] (defScope si_Uncaught) := ⟨rfl, rfl, rfl, by decide +kernel, rfl, by decide +kernel, by decide +kernel⟩
abbrev si_BadName : PySem.Stmt := inClass (top 16) 0
theorem sci_BadName : FnScope ["self", "name"] ["self", "name"] (defScope si_BadName) := ⟨rfl, rfl, rfl, by decide +kernel, rfl, by decide +kernel, by decide +kernel⟩
abbrev si_NameTaken : PySem.Stmt := inClass (top 17) 0
theorem sci_NameTaken : FnScope ["self", "name"] ["self", "name"] (defScope si_NameTaken) := ⟨rfl, rfl, rfl, by decide +kernel, rfl, by decide +kernel, by decide +kernel⟩
abbrev si_NoWard : PySem.Stmt := inClass (top 18) 0
theorem sci_NoWard : FnScope ["self", "name"] ["self", "name"] (defScope si_NoWard) := ⟨rfl, rfl, rfl, by decide +kernel, rfl, by decide +kernel, by decide +kernel⟩
abbrev si_NotHeard : PySem.Stmt := inClass (top 19) 0
theorem sci_NotHeard : FnScope ["self", "heard"] ["self", "heard"] (defScope si_NotHeard) := ⟨rfl, rfl, rfl, by decide +kernel, rfl, by decide +kernel, by decide +kernel⟩
abbrev si_NotAlike : PySem.Stmt := inClass (top 20) 0
theorem sci_NotAlike : FnScope ["self", "log"] ["self", "log"] (defScope si_NotAlike) := ⟨rfl, rfl, rfl, by decide +kernel, rfl, by decide +kernel, by decide +kernel⟩
abbrev si_Harmful : PySem.Stmt := inClass (top 21) 0
theorem sci_Harmful : FnScope ["self", "paper"] ["self", "paper"] (defScope si_Harmful) := ⟨rfl, rfl, rfl, by decide +kernel, rfl, by decide +kernel, by decide +kernel⟩
section
variable {P : Program} {wo : World} {K : PySem.W.Frag} {mg : Str → Option Value} {base h : Heap}
theorem keep_q {K : PySem.W.Frag} {name : Str} {N : List Str} {a : Addr} {y : V} {H : Hp} {Q : VK} {E : XK} (h : Hx.spKeep K name [.ref a, y] H Q E) : Hx.tPut K name (tVar 0) (tVar 1) { nx := fun _ H' => Q .non H', rt := Q } (L2.start ["self", "x"] [.ref a, y]) H := by
  obtain ⟨a', C, f, y', e, T, no, ha, k⟩ := h
  cases e
  exact ⟨y, rfl, .ref a, rfl, a, C, f, rfl, T, no, ha, k⟩
theorem ini_BadBook {f : Addr} {fd : FuncData} (F : Fun K "__init__" "BadBook.__init__" si_BadBook f fd) : FnOk P wo K mg base CX0 1 f fd ["self", "part"] (Hx.spKeep K "part") := by
  refine F.ok sci_BadBook (fun vs H Q E h => by obtain ⟨a, C, f, y, rfl, _⟩ := h; rfl) fun cdv A outer s H vs Q E hr h => ?_
  obtain ⟨a, C, f, y, rfl, T, no, ha, k⟩ := h
  exact ⟨_, pss_one (Hx.ps_put (pv 0) (pv 1)), y, rfl, .ref a, rfl, a, C, f, rfl, T, no, ha, k⟩
theorem ini_BadDevice {f : Addr} {fd : FuncData} (F : Fun K "__init__" "BadDevice.__init__" si_BadDevice f fd) : FnOk P wo K mg base CX0 1 f fd ["self", "part"] (Hx.spKeep K "part") := by
  refine F.ok sci_BadDevice (fun vs H Q E h => by obtain ⟨a, C, f, y, rfl, _⟩ := h; rfl) fun cdv A outer s H vs Q E hr h => ?_
  obtain ⟨a, C, f, y, rfl, T, no, ha, k⟩ := h
  exact ⟨_, pss_one (Hx.ps_put (pv 0) (pv 1)), y, rfl, .ref a, rfl, a, C, f, rfl, T, no, ha, k⟩
theorem ini_BadWard {f : Addr} {fd : FuncData} (F : Fun K "__init__" "BadWard.__init__" si_BadWard f fd) : FnOk P wo K mg base CX0 1 f fd ["self", "part"] (Hx.spKeep K "part") := by
  refine F.ok sci_BadWard (fun vs H Q E h => by obtain ⟨a, C, f, y, rfl, _⟩ := h; rfl) fun cdv A outer s H vs Q E hr h => ?_
  obtain ⟨a, C, f, y, rfl, T, no, ha, k⟩ := h
  exact ⟨_, pss_one (Hx.ps_put (pv 0) (pv 1)), y, rfl, .ref a, rfl, a, C, f, rfl, T, no, ha, k⟩
theorem ini_BadGuest {f : Addr} {fd : FuncData} (F : Fun K "__init__" "BadGuest.__init__" si_BadGuest f fd) : FnOk P wo K mg base CX0 1 f fd ["self", "part"] (Hx.spKeep K "part") := by
  refine F.ok sci_BadGuest (fun vs H Q E h => by obtain ⟨a, C, f, y, rfl, _⟩ := h; rfl) fun cdv A outer s H vs Q E hr h => ?_
  obtain ⟨a, C, f, y, rfl, T, no, ha, k⟩ := h
  exact ⟨_, pss_one (Hx.ps_put (pv 0) (pv 1)), y, rfl, .ref a, rfl, a, C, f, rfl, T, no, ha, k⟩
theorem ini_BadOnlooker {f : Addr} {fd : FuncData} (F : Fun K "__init__" "BadOnlooker.__init__" si_BadOnlooker f fd) : FnOk P wo K mg base CX0 1 f fd ["self", "part"] (Hx.spKeep K "part") := by
  refine F.ok sci_BadOnlooker (fun vs H Q E h => by obtain ⟨a, C, f, y, rfl, _⟩ := h; rfl) fun cdv A outer s H vs Q E hr h => ?_
  obtain ⟨a, C, f, y, rfl, T, no, ha, k⟩ := h
  exact ⟨_, pss_one (Hx.ps_put (pv 0) (pv 1)), y, rfl, .ref a, rfl, a, C, f, rfl, T, no, ha, k⟩
theorem ini_BadText {f : Addr} {fd : FuncData} (F : Fun K "__init__" "BadText.__init__" si_BadText f fd) : FnOk P wo K mg base CX0 1 f fd ["self", "line"] (Hx.spKeep K "line") := by
  refine F.ok sci_BadText (fun vs H Q E h => by obtain ⟨a, C, f, y, rfl, _⟩ := h; rfl) fun cdv A outer s H vs Q E hr h => ?_
  obtain ⟨a, C, f, y, rfl, T, no, ha, k⟩ := h
  exact ⟨_, pss_one (Hx.ps_put (pv 0) (pv 1)), y, rfl, .ref a, rfl, a, C, f, rfl, T, no, ha, k⟩
theorem ini_BadChoice {f : Addr} {fd : FuncData} (F : Fun K "__init__" "BadChoice.__init__" si_BadChoice f fd) : FnOk P wo K mg base CX0 1 f fd ["self", "choice"] (Hx.spKeep K "choice") := by
  refine F.ok sci_BadChoice (fun vs H Q E h => by obtain ⟨a, C, f, y, rfl, _⟩ := h; rfl) fun cdv A outer s H vs Q E hr h => ?_
  obtain ⟨a, C, f, y, rfl, T, no, ha, k⟩ := h
  exact ⟨_, pss_one (Hx.ps_put (pv 0) (pv 1)), y, rfl, .ref a, rfl, a, C, f, rfl, T, no, ha, k⟩
theorem ini_TooMany {f : Addr} {fd : FuncData} (F : Fun K "__init__" "TooMany.__init__" si_TooMany f fd) : FnOk P wo K mg base CX0 1 f fd ["self", "most"] (Hx.spKeep K "most") := by
  refine F.ok sci_TooMany (fun vs H Q E h => by obtain ⟨a, C, f, y, rfl, _⟩ := h; rfl) fun cdv A outer s H vs Q E hr h => ?_
  obtain ⟨a, C, f, y, rfl, T, no, ha, k⟩ := h
  exact ⟨_, pss_one (Hx.ps_put (pv 0) (pv 1)), y, rfl, .ref a, rfl, a, C, f, rfl, T, no, ha, k⟩
theorem ini_CannotCome {f : Addr} {fd : FuncData} (F : Fun K "__init__" "CannotCome.__init__" si_CannotCome f fd) : FnOk P wo K mg base CX0 1 f fd ["self", "place"] (Hx.spKeep K "place") := by
  refine F.ok sci_CannotCome (fun vs H Q E h => by obtain ⟨a, C, f, y, rfl, _⟩ := h; rfl) fun cdv A outer s H vs Q E hr h => ?_
  obtain ⟨a, C, f, y, rfl, T, no, ha, k⟩ := h
  exact ⟨_, pss_one (Hx.ps_put (pv 0) (pv 1)), y, rfl, .ref a, rfl, a, C, f, rfl, T, no, ha, k⟩
theorem ini_Refused {f : Addr} {fd : FuncData} (F : Fun K "__init__" "Refused.__init__" si_Refused f fd) : FnOk P wo K mg base CX0 1 f fd ["self", "paper"] (Hx.spKeep K "paper") := by
  refine F.ok sci_Refused (fun vs H Q E h => by obtain ⟨a, C, f, y, rfl, _⟩ := h; rfl) fun cdv A outer s H vs Q E hr h => ?_
  obtain ⟨a, C, f, y, rfl, T, no, ha, k⟩ := h
  exact ⟨_, pss_one (Hx.ps_put (pv 0) (pv 1)), y, rfl, .ref a, rfl, a, C, f, rfl, T, no, ha, k⟩
theorem ini_NeverSure {f : Addr} {fd : FuncData} (F : Fun K "__init__" "NeverSure.__init__" si_NeverSure f fd) : FnOk P wo K mg base CX0 1 f fd ["self", "paper"] (Hx.spKeep K "paper") := by
  refine F.ok sci_NeverSure (fun vs H Q E h => by obtain ⟨a, C, f, y, rfl, _⟩ := h; rfl) fun cdv A outer s H vs Q E hr h => ?_
  obtain ⟨a, C, f, y, rfl, T, no, ha, k⟩ := h
  exact ⟨_, pss_one (Hx.ps_put (pv 0) (pv 1)), y, rfl, .ref a, rfl, a, C, f, rfl, T, no, ha, k⟩
theorem ini_NeverStays {f : Addr} {fd : FuncData} (F : Fun K "__init__" "NeverStays.__init__" si_NeverStays f fd) : FnOk P wo K mg base CX0 1 f fd ["self", "number"] (Hx.spKeep K "number") := by
  refine F.ok sci_NeverStays (fun vs H Q E h => by obtain ⟨a, C, f, y, rfl, _⟩ := h; rfl) fun cdv A outer s H vs Q E hr h => ?_
  obtain ⟨a, C, f, y, rfl, T, no, ha, k⟩ := h
  exact ⟨_, pss_one (Hx.ps_put (pv 0) (pv 1)), y, rfl, .ref a, rfl, a, C, f, rfl, T, no, ha, k⟩
theorem ini_Uncaught {f : Addr} {fd : FuncData} (F : Fun K "__init__" "Uncaught.__init__" si_Uncaught f fd) : FnOk P wo K mg base CX0 1 f fd ["self", "paper"] (Hx.spKeep K "paper") := by
  refine F.ok sci_Uncaught (fun vs H Q E h => by obtain ⟨a, C, f, y, rfl, _⟩ := h; rfl) fun cdv A outer s H vs Q E hr h => ?_
  obtain ⟨a, C, f, y, rfl, T, no, ha, k⟩ := h
  exact ⟨_, pss_one (Hx.ps_put (pv 0) (pv 1)), y, rfl, .ref a, rfl, a, C, f, rfl, T, no, ha, k⟩
theorem ini_BadName {f : Addr} {fd : FuncData} (F : Fun K "__init__" "BadName.__init__" si_BadName f fd) : FnOk P wo K mg base CX0 1 f fd ["self", "name"] (Hx.spKeep K "name") := by
  refine F.ok sci_BadName (fun vs H Q E h => by obtain ⟨a, C, f, y, rfl, _⟩ := h; rfl) fun cdv A outer s H vs Q E hr h => ?_
  obtain ⟨a, C, f, y, rfl, T, no, ha, k⟩ := h
  exact ⟨_, pss_one (Hx.ps_put (pv 0) (pv 1)), y, rfl, .ref a, rfl, a, C, f, rfl, T, no, ha, k⟩
theorem ini_NameTaken {f : Addr} {fd : FuncData} (F : Fun K "__init__" "NameTaken.__init__" si_NameTaken f fd) : FnOk P wo K mg base CX0 1 f fd ["self", "name"] (Hx.spKeep K "name") := by
  refine F.ok sci_NameTaken (fun vs H Q E h => by obtain ⟨a, C, f, y, rfl, _⟩ := h; rfl) fun cdv A outer s H vs Q E hr h => ?_
  obtain ⟨a, C, f, y, rfl, T, no, ha, k⟩ := h
  exact ⟨_, pss_one (Hx.ps_put (pv 0) (pv 1)), y, rfl, .ref a, rfl, a, C, f, rfl, T, no, ha, k⟩
theorem ini_NoWard {f : Addr} {fd : FuncData} (F : Fun K "__init__" "NoWard.__init__" si_NoWard f fd) : FnOk P wo K mg base CX0 1 f fd ["self", "name"] (Hx.spKeep K "name") := by
  refine F.ok sci_NoWard (fun vs H Q E h => by obtain ⟨a, C, f, y, rfl, _⟩ := h; rfl) fun cdv A outer s H vs Q E hr h => ?_
  obtain ⟨a, C, f, y, rfl, T, no, ha, k⟩ := h
  exact ⟨_, pss_one (Hx.ps_put (pv 0) (pv 1)), y, rfl, .ref a, rfl, a, C, f, rfl, T, no, ha, k⟩
theorem ini_NotHeard {f : Addr} {fd : FuncData} (F : Fun K "__init__" "NotHeard.__init__" si_NotHeard f fd) : FnOk P wo K mg base CX0 1 f fd ["self", "heard"] (Hx.spKeep K "heard") := by
  refine F.ok sci_NotHeard (fun vs H Q E h => by obtain ⟨a, C, f, y, rfl, _⟩ := h; rfl) fun cdv A outer s H vs Q E hr h => ?_
  obtain ⟨a, C, f, y, rfl, T, no, ha, k⟩ := h
  exact ⟨_, pss_one (Hx.ps_put (pv 0) (pv 1)), y, rfl, .ref a, rfl, a, C, f, rfl, T, no, ha, k⟩
theorem ini_NotAlike {f : Addr} {fd : FuncData} (F : Fun K "__init__" "NotAlike.__init__" si_NotAlike f fd) : FnOk P wo K mg base CX0 1 f fd ["self", "log"] (Hx.spKeep K "log") := by
  refine F.ok sci_NotAlike (fun vs H Q E h => by obtain ⟨a, C, f, y, rfl, _⟩ := h; rfl) fun cdv A outer s H vs Q E hr h => ?_
  obtain ⟨a, C, f, y, rfl, T, no, ha, k⟩ := h
  exact ⟨_, pss_one (Hx.ps_put (pv 0) (pv 1)), y, rfl, .ref a, rfl, a, C, f, rfl, T, no, ha, k⟩
theorem ini_Harmful {f : Addr} {fd : FuncData} (F : Fun K "__init__" "Harmful.__init__" si_Harmful f fd) : FnOk P wo K mg base CX0 1 f fd ["self", "paper"] (Hx.spKeep K "paper") := by
  refine F.ok sci_Harmful (fun vs H Q E h => by obtain ⟨a, C, f, y, rfl, _⟩ := h; rfl) fun cdv A outer s H vs Q E hr h => ?_
  obtain ⟨a, C, f, y, rfl, T, no, ha, k⟩ := h
  exact ⟨_, pss_one (Hx.ps_put (pv 0) (pv 1)), y, rfl, .ref a, rfl, a, C, f, rfl, T, no, ha, k⟩
structure All (K : PySem.W.Frag) (C_WardError C_BadBook C_BadDevice C_BadWard C_BadGuest C_BadOnlooker C_BadText C_BadChoice C_TooMany C_CannotCome C_Refused C_NeverSure C_NeverStays C_Uncaught C_BadName C_NameTaken C_NoWard C_NotHeard C_NotAlike C_Harmful C_OtherFaces C_NothingToUndo C_NothingToRedo C_InvalidCommand : Addr) : Prop where
  w : EB K "WardError" C_WardError Hx.exLast
  e_BadBook : EF K "BadBook" "part" "BadBook.__init__" si_BadBook C_BadBook (.ref C_WardError :: Hx.exLast)
  e_BadDevice : EF K "BadDevice" "part" "BadDevice.__init__" si_BadDevice C_BadDevice (.ref C_WardError :: Hx.exLast)
  e_BadWard : EF K "BadWard" "part" "BadWard.__init__" si_BadWard C_BadWard (.ref C_WardError :: Hx.exLast)
  e_BadGuest : EF K "BadGuest" "part" "BadGuest.__init__" si_BadGuest C_BadGuest (.ref C_WardError :: Hx.exLast)
  e_BadOnlooker : EF K "BadOnlooker" "part" "BadOnlooker.__init__" si_BadOnlooker C_BadOnlooker (.ref C_WardError :: Hx.exLast)
  e_BadText : EF K "BadText" "line" "BadText.__init__" si_BadText C_BadText (.ref C_WardError :: Hx.exLast)
  e_BadChoice : EF K "BadChoice" "choice" "BadChoice.__init__" si_BadChoice C_BadChoice (.ref C_WardError :: Hx.exLast)
  e_TooMany : EF K "TooMany" "most" "TooMany.__init__" si_TooMany C_TooMany (.ref C_WardError :: Hx.exLast)
  e_CannotCome : EF K "CannotCome" "place" "CannotCome.__init__" si_CannotCome C_CannotCome (.ref C_WardError :: Hx.exLast)
  e_Refused : EF K "Refused" "paper" "Refused.__init__" si_Refused C_Refused (.ref C_WardError :: Hx.exLast)
  e_NeverSure : EF K "NeverSure" "paper" "NeverSure.__init__" si_NeverSure C_NeverSure (.ref C_WardError :: Hx.exLast)
  e_NeverStays : EF K "NeverStays" "number" "NeverStays.__init__" si_NeverStays C_NeverStays (.ref C_WardError :: Hx.exLast)
  e_Uncaught : EF K "Uncaught" "paper" "Uncaught.__init__" si_Uncaught C_Uncaught (.ref C_WardError :: Hx.exLast)
  e_BadName : EF K "BadName" "name" "BadName.__init__" si_BadName C_BadName (.ref C_WardError :: Hx.exLast)
  e_NameTaken : EF K "NameTaken" "name" "NameTaken.__init__" si_NameTaken C_NameTaken (.ref C_WardError :: Hx.exLast)
  e_NoWard : EF K "NoWard" "name" "NoWard.__init__" si_NoWard C_NoWard (.ref C_WardError :: Hx.exLast)
  e_NotHeard : EF K "NotHeard" "heard" "NotHeard.__init__" si_NotHeard C_NotHeard (.ref C_WardError :: Hx.exLast)
  e_NotAlike : EF K "NotAlike" "log" "NotAlike.__init__" si_NotAlike C_NotAlike (.ref C_WardError :: Hx.exLast)
  e_Harmful : EF K "Harmful" "paper" "Harmful.__init__" si_Harmful C_Harmful (.ref C_WardError :: Hx.exLast)
  b_OtherFaces : EB K "OtherFaces" C_OtherFaces (.ref C_WardError :: Hx.exLast)
  b_NothingToUndo : EB K "NothingToUndo" C_NothingToUndo (.ref C_WardError :: Hx.exLast)
  b_NothingToRedo : EB K "NothingToRedo" C_NothingToRedo (.ref C_WardError :: Hx.exLast)
  b_InvalidCommand : EB K "InvalidCommand" C_InvalidCommand (.ref C_WardError :: Hx.exLast)
  d_law_deck : DF K "_law_deck" s_law_deck
  d_law_draw : DF K "_law_draw" s_law_draw
  d_law_pick : DF K "_law_pick" s_law_pick
  d_law_made_a : DF K "_law_made_a" s_law_made_a
  d_law_made_b : DF K "_law_made_b" s_law_made_b
  d_law_made_c : DF K "_law_made_c" s_law_made_c
  d_law_made_d : DF K "_law_made_d" s_law_made_d
  d_law_made_bare : DF K "_law_made_bare" s_law_made_bare
  d_law_sorts : DF K "_law_sorts" s_law_sorts
  d_law_worth : DF K "_law_worth" s_law_worth
  d_law_is_caught : DF K "_law_is_caught" s_law_is_caught
  d_law_value : DF K "_law_value" s_law_value
  d_law_made : DF K "_law_made" s_law_made
  z_isinstance : PySem.W.nsIn K mainGlobals "isinstance" = some none
  z_int : PySem.W.nsIn K mainGlobals "int" = some none
  z_list : PySem.W.nsIn K mainGlobals "list" = some none
  z_len : PySem.W.nsIn K mainGlobals "len" = some none
  z_repr : PySem.W.nsIn K mainGlobals "repr" = some none
  z_tuple : PySem.W.nsIn K mainGlobals "tuple" = some none
  z_dict : PySem.W.nsIn K mainGlobals "dict" = some none
  z_range : PySem.W.nsIn K mainGlobals "range" = some none
  z_enumerate : PySem.W.nsIn K mainGlobals "enumerate" = some none
  z_Exception : PySem.W.nsIn K mainGlobals "Exception" = some none
  z_ValueError : PySem.W.nsIn K mainGlobals "ValueError" = some none
  hn : PySem.W.specialIn K (.builtin "object.__class__") "__get__" = some (some (.builtin "getset_descriptor.__get__"))
  ht : PySem.W.takesIn K (.builtin "object.__class__") = some true
variable {C_WardError C_BadBook C_BadDevice C_BadWard C_BadGuest C_BadOnlooker C_BadText C_BadChoice C_TooMany C_CannotCome C_Refused C_NeverSure C_NeverStays C_Uncaught C_BadName C_NameTaken C_NoWard C_NotHeard C_NotAlike C_Harmful C_OtherFaces C_NothingToUndo C_NothingToRedo C_InvalidCommand : Addr}
theorem all_T (X : K.In h) (G : h.Ns mainGlobals mg) (al : All K C_WardError C_BadBook C_BadDevice C_BadWard C_BadGuest C_BadOnlooker C_BadText C_BadChoice C_TooMany C_CannotCome C_Refused C_NeverSure C_NeverStays C_Uncaught C_BadName C_NameTaken C_NoWard C_NotHeard C_NotAlike C_Harmful C_OtherFaces C_NothingToUndo C_NothingToRedo C_InvalidCommand) : T1 K mg (adOf mg) := by
  have m : ∀ {n : Str} {v : Value}, PySem.W.nsIn K mainGlobals n = some (some v) → mg n = some v := fun z => PySem.W.mg_of X G z
  have no : ∀ {n : Str}, PySem.W.nsIn K mainGlobals n = some none → mg n = none := fun z => PySem.W.mg_none_of X G z
  have eW : adOf mg "WardError" = C_WardError := adOf_eq (m al.w.ns)
  have key : ∀ x ∈ errL, ∃ C, mg x = some (.ref C) ∧ EC K x C (upOf (adOf mg) "WardError" x) := by
    intro x hx
    simp only [errL, List.mem_cons, List.not_mem_nil, or_false] at hx
    rcases hx with rfl | rfl | rfl | rfl | rfl | rfl | rfl | rfl | rfl | rfl | rfl | rfl | rfl | rfl | rfl | rfl | rfl | rfl | rfl | rfl | rfl | rfl | rfl | rfl
    · refine ⟨_, m al.w.ns, ?_⟩
      rw [show upOf (adOf mg) "WardError" "WardError" = Hx.exLast from if_pos rfl]
      exact al.w.ec
    · refine ⟨_, m al.e_BadBook.ns, ?_⟩
      rw [show upOf (adOf mg) "WardError" "BadBook" = .ref C_WardError :: Hx.exLast from (if_neg (by decide +kernel)).trans (by rw [eW])]
      exact al.e_BadBook.ec
    · refine ⟨_, m al.e_BadDevice.ns, ?_⟩
      rw [show upOf (adOf mg) "WardError" "BadDevice" = .ref C_WardError :: Hx.exLast from (if_neg (by decide +kernel)).trans (by rw [eW])]
      exact al.e_BadDevice.ec
    · refine ⟨_, m al.e_BadWard.ns, ?_⟩
      rw [show upOf (adOf mg) "WardError" "BadWard" = .ref C_WardError :: Hx.exLast from (if_neg (by decide +kernel)).trans (by rw [eW])]
      exact al.e_BadWard.ec
    · refine ⟨_, m al.e_BadGuest.ns, ?_⟩
      rw [show upOf (adOf mg) "WardError" "BadGuest" = .ref C_WardError :: Hx.exLast from (if_neg (by decide +kernel)).trans (by rw [eW])]
      exact al.e_BadGuest.ec
    · refine ⟨_, m al.e_BadOnlooker.ns, ?_⟩
      rw [show upOf (adOf mg) "WardError" "BadOnlooker" = .ref C_WardError :: Hx.exLast from (if_neg (by decide +kernel)).trans (by rw [eW])]
      exact al.e_BadOnlooker.ec
    · refine ⟨_, m al.e_BadText.ns, ?_⟩
      rw [show upOf (adOf mg) "WardError" "BadText" = .ref C_WardError :: Hx.exLast from (if_neg (by decide +kernel)).trans (by rw [eW])]
      exact al.e_BadText.ec
    · refine ⟨_, m al.e_BadChoice.ns, ?_⟩
      rw [show upOf (adOf mg) "WardError" "BadChoice" = .ref C_WardError :: Hx.exLast from (if_neg (by decide +kernel)).trans (by rw [eW])]
      exact al.e_BadChoice.ec
    · refine ⟨_, m al.e_TooMany.ns, ?_⟩
      rw [show upOf (adOf mg) "WardError" "TooMany" = .ref C_WardError :: Hx.exLast from (if_neg (by decide +kernel)).trans (by rw [eW])]
      exact al.e_TooMany.ec
    · refine ⟨_, m al.e_CannotCome.ns, ?_⟩
      rw [show upOf (adOf mg) "WardError" "CannotCome" = .ref C_WardError :: Hx.exLast from (if_neg (by decide +kernel)).trans (by rw [eW])]
      exact al.e_CannotCome.ec
    · refine ⟨_, m al.e_Refused.ns, ?_⟩
      rw [show upOf (adOf mg) "WardError" "Refused" = .ref C_WardError :: Hx.exLast from (if_neg (by decide +kernel)).trans (by rw [eW])]
      exact al.e_Refused.ec
    · refine ⟨_, m al.e_NeverSure.ns, ?_⟩
      rw [show upOf (adOf mg) "WardError" "NeverSure" = .ref C_WardError :: Hx.exLast from (if_neg (by decide +kernel)).trans (by rw [eW])]
      exact al.e_NeverSure.ec
    · refine ⟨_, m al.e_NeverStays.ns, ?_⟩
      rw [show upOf (adOf mg) "WardError" "NeverStays" = .ref C_WardError :: Hx.exLast from (if_neg (by decide +kernel)).trans (by rw [eW])]
      exact al.e_NeverStays.ec
    · refine ⟨_, m al.e_Uncaught.ns, ?_⟩
      rw [show upOf (adOf mg) "WardError" "Uncaught" = .ref C_WardError :: Hx.exLast from (if_neg (by decide +kernel)).trans (by rw [eW])]
      exact al.e_Uncaught.ec
    · refine ⟨_, m al.e_BadName.ns, ?_⟩
      rw [show upOf (adOf mg) "WardError" "BadName" = .ref C_WardError :: Hx.exLast from (if_neg (by decide +kernel)).trans (by rw [eW])]
      exact al.e_BadName.ec
    · refine ⟨_, m al.e_NameTaken.ns, ?_⟩
      rw [show upOf (adOf mg) "WardError" "NameTaken" = .ref C_WardError :: Hx.exLast from (if_neg (by decide +kernel)).trans (by rw [eW])]
      exact al.e_NameTaken.ec
    · refine ⟨_, m al.e_NoWard.ns, ?_⟩
      rw [show upOf (adOf mg) "WardError" "NoWard" = .ref C_WardError :: Hx.exLast from (if_neg (by decide +kernel)).trans (by rw [eW])]
      exact al.e_NoWard.ec
    · refine ⟨_, m al.e_NotHeard.ns, ?_⟩
      rw [show upOf (adOf mg) "WardError" "NotHeard" = .ref C_WardError :: Hx.exLast from (if_neg (by decide +kernel)).trans (by rw [eW])]
      exact al.e_NotHeard.ec
    · refine ⟨_, m al.e_NotAlike.ns, ?_⟩
      rw [show upOf (adOf mg) "WardError" "NotAlike" = .ref C_WardError :: Hx.exLast from (if_neg (by decide +kernel)).trans (by rw [eW])]
      exact al.e_NotAlike.ec
    · refine ⟨_, m al.e_Harmful.ns, ?_⟩
      rw [show upOf (adOf mg) "WardError" "Harmful" = .ref C_WardError :: Hx.exLast from (if_neg (by decide +kernel)).trans (by rw [eW])]
      exact al.e_Harmful.ec
    · refine ⟨_, m al.b_OtherFaces.ns, ?_⟩
      rw [show upOf (adOf mg) "WardError" "OtherFaces" = .ref C_WardError :: Hx.exLast from (if_neg (by decide +kernel)).trans (by rw [eW])]
      exact al.b_OtherFaces.ec
    · refine ⟨_, m al.b_NothingToUndo.ns, ?_⟩
      rw [show upOf (adOf mg) "WardError" "NothingToUndo" = .ref C_WardError :: Hx.exLast from (if_neg (by decide +kernel)).trans (by rw [eW])]
      exact al.b_NothingToUndo.ec
    · refine ⟨_, m al.b_NothingToRedo.ns, ?_⟩
      rw [show upOf (adOf mg) "WardError" "NothingToRedo" = .ref C_WardError :: Hx.exLast from (if_neg (by decide +kernel)).trans (by rw [eW])]
      exact al.b_NothingToRedo.ec
    · refine ⟨_, m al.b_InvalidCommand.ns, ?_⟩
      rw [show upOf (adOf mg) "WardError" "InvalidCommand" = .ref C_WardError :: Hx.exLast from (if_neg (by decide +kernel)).trans (by rw [eW])]
      exact al.b_InvalidCommand.ec
  refine ⟨⟨fun x hx => ?_, fun x hx => ?_, List.mem_of_getElem? (i := 0) rfl, fun p hp => ?_, al.hn, al.ht⟩, no al.z_isinstance, no al.z_int, no al.z_list, no al.z_len, no al.z_repr, no al.z_tuple, no al.z_dict, no al.z_range, no al.z_enumerate, no al.z_Exception, no al.z_ValueError⟩
  · obtain ⟨C, e, _⟩ := key x hx
    rw [adOf_eq e]
    exact e
  · obtain ⟨C, e, h⟩ := key x hx
    rw [adOf_eq e]
    exact h
  · simp only [atL, List.mem_cons, List.not_mem_nil, or_false] at hp
    rcases hp with rfl | rfl | rfl | rfl | rfl | rfl | rfl | rfl | rfl | rfl | rfl | rfl | rfl | rfl | rfl | rfl | rfl | rfl | rfl
    · rw [adOf_eq (m al.e_BadBook.ns)]
      exact al.e_BadBook.no
    · rw [adOf_eq (m al.e_BadDevice.ns)]
      exact al.e_BadDevice.no
    · rw [adOf_eq (m al.e_BadWard.ns)]
      exact al.e_BadWard.no
    · rw [adOf_eq (m al.e_BadGuest.ns)]
      exact al.e_BadGuest.no
    · rw [adOf_eq (m al.e_BadOnlooker.ns)]
      exact al.e_BadOnlooker.no
    · rw [adOf_eq (m al.e_BadText.ns)]
      exact al.e_BadText.no
    · rw [adOf_eq (m al.e_BadChoice.ns)]
      exact al.e_BadChoice.no
    · rw [adOf_eq (m al.e_TooMany.ns)]
      exact al.e_TooMany.no
    · rw [adOf_eq (m al.e_CannotCome.ns)]
      exact al.e_CannotCome.no
    · rw [adOf_eq (m al.e_Refused.ns)]
      exact al.e_Refused.no
    · rw [adOf_eq (m al.e_NeverSure.ns)]
      exact al.e_NeverSure.no
    · rw [adOf_eq (m al.e_NeverStays.ns)]
      exact al.e_NeverStays.no
    · rw [adOf_eq (m al.e_Uncaught.ns)]
      exact al.e_Uncaught.no
    · rw [adOf_eq (m al.e_BadName.ns)]
      exact al.e_BadName.no
    · rw [adOf_eq (m al.e_NameTaken.ns)]
      exact al.e_NameTaken.no
    · rw [adOf_eq (m al.e_NoWard.ns)]
      exact al.e_NoWard.no
    · rw [adOf_eq (m al.e_NotHeard.ns)]
      exact al.e_NotHeard.no
    · rw [adOf_eq (m al.e_NotAlike.ns)]
      exact al.e_NotAlike.no
    · rw [adOf_eq (m al.e_Harmful.ns)]
      exact al.e_Harmful.no
theorem all_go {fa : Addr} (X : K.In h) (G : h.Ns mainGlobals mg) (hfa : mg "law" = some (.ref fa)) (al : All K C_WardError C_BadBook C_BadDevice C_BadWard C_BadGuest C_BadOnlooker C_BadText C_BadChoice C_TooMany C_CannotCome C_Refused C_NeverSure C_NeverStays C_Uncaught C_BadName C_NameTaken C_NoWard C_NotHeard C_NotAlike C_Harmful C_OtherFaces C_NothingToUndo C_NothingToRedo C_InvalidCommand) (dl : DF K "law" slaw) :
    ∃ fd : FuncData, (∀ (s : Shared) (v : Value), BindsTo s fd ⟨[v], []⟩ [("_law_script", v)]) ∧ ∀ base : Heap, K.In base → base.Ns mainGlobals mg → Sys base → FnG P wo K mg base CX0 8 fa fd ["_law_script"] (spLaw K) := by
  obtain ⟨f, fd, a, F⟩ := dl.ex
  have e := hfa.symm.trans (PySem.W.mg_of X G a)
  cases e
  have T := all_T X G al
  refine ⟨fd, fun s v => ?_, fun base hb hg hs => ?_⟩
  · obtain ⟨oc, od, kV, doc, pm, an, cdv, ct, osl, rfl, _⟩ := F.ex
    exact .of_eq rfl
  have G_BadBook : ErrG P wo K mg base 1 "BadBook" "part" "part" := al.e_BadBook.errG X G (fun _ _ _ _ _ _ us hl => match us, hl with | [_, _], _ => rfl) (fun _ _ _ _ _ _ _ _ => rfl) fun f fd F => ini_BadBook F
  have G_BadDevice : ErrG P wo K mg base 1 "BadDevice" "part" "part" := al.e_BadDevice.errG X G (fun _ _ _ _ _ _ us hl => match us, hl with | [_, _], _ => rfl) (fun _ _ _ _ _ _ _ _ => rfl) fun f fd F => ini_BadDevice F
  have G_BadWard : ErrG P wo K mg base 1 "BadWard" "part" "part" := al.e_BadWard.errG X G (fun _ _ _ _ _ _ us hl => match us, hl with | [_, _], _ => rfl) (fun _ _ _ _ _ _ _ _ => rfl) fun f fd F => ini_BadWard F
  have G_BadGuest : ErrG P wo K mg base 1 "BadGuest" "part" "part" := al.e_BadGuest.errG X G (fun _ _ _ _ _ _ us hl => match us, hl with | [_, _], _ => rfl) (fun _ _ _ _ _ _ _ _ => rfl) fun f fd F => ini_BadGuest F
  have G_BadOnlooker : ErrG P wo K mg base 1 "BadOnlooker" "part" "part" := al.e_BadOnlooker.errG X G (fun _ _ _ _ _ _ us hl => match us, hl with | [_, _], _ => rfl) (fun _ _ _ _ _ _ _ _ => rfl) fun f fd F => ini_BadOnlooker F
  have G_BadText : ErrG P wo K mg base 1 "BadText" "line" "line" := al.e_BadText.errG X G (fun _ _ _ _ _ _ us hl => match us, hl with | [_, _], _ => rfl) (fun _ _ _ _ _ _ _ _ => rfl) fun f fd F => ini_BadText F
  have G_BadChoice : ErrG P wo K mg base 1 "BadChoice" "choice" "choice" := al.e_BadChoice.errG X G (fun _ _ _ _ _ _ us hl => match us, hl with | [_, _], _ => rfl) (fun _ _ _ _ _ _ _ _ => rfl) fun f fd F => ini_BadChoice F
  have G_TooMany : ErrG P wo K mg base 1 "TooMany" "most" "most" := al.e_TooMany.errG X G (fun _ _ _ _ _ _ us hl => match us, hl with | [_, _], _ => rfl) (fun _ _ _ _ _ _ _ _ => rfl) fun f fd F => ini_TooMany F
  have G_CannotCome : ErrG P wo K mg base 1 "CannotCome" "place" "place" := al.e_CannotCome.errG X G (fun _ _ _ _ _ _ us hl => match us, hl with | [_, _], _ => rfl) (fun _ _ _ _ _ _ _ _ => rfl) fun f fd F => ini_CannotCome F
  have G_Refused : ErrG P wo K mg base 1 "Refused" "paper" "paper" := al.e_Refused.errG X G (fun _ _ _ _ _ _ us hl => match us, hl with | [_, _], _ => rfl) (fun _ _ _ _ _ _ _ _ => rfl) fun f fd F => ini_Refused F
  have G_NeverSure : ErrG P wo K mg base 1 "NeverSure" "paper" "paper" := al.e_NeverSure.errG X G (fun _ _ _ _ _ _ us hl => match us, hl with | [_, _], _ => rfl) (fun _ _ _ _ _ _ _ _ => rfl) fun f fd F => ini_NeverSure F
  have G_NeverStays : ErrG P wo K mg base 1 "NeverStays" "number" "number" := al.e_NeverStays.errG X G (fun _ _ _ _ _ _ us hl => match us, hl with | [_, _], _ => rfl) (fun _ _ _ _ _ _ _ _ => rfl) fun f fd F => ini_NeverStays F
  have G_Uncaught : ErrG P wo K mg base 1 "Uncaught" "paper" "paper" := al.e_Uncaught.errG X G (fun _ _ _ _ _ _ us hl => match us, hl with | [_, _], _ => rfl) (fun _ _ _ _ _ _ _ _ => rfl) fun f fd F => ini_Uncaught F
  have G_BadName : ErrG P wo K mg base 1 "BadName" "name" "name" := al.e_BadName.errG X G (fun _ _ _ _ _ _ us hl => match us, hl with | [_, _], _ => rfl) (fun _ _ _ _ _ _ _ _ => rfl) fun f fd F => ini_BadName F
  have G_NameTaken : ErrG P wo K mg base 1 "NameTaken" "name" "name" := al.e_NameTaken.errG X G (fun _ _ _ _ _ _ us hl => match us, hl with | [_, _], _ => rfl) (fun _ _ _ _ _ _ _ _ => rfl) fun f fd F => ini_NameTaken F
  have G_NoWard : ErrG P wo K mg base 1 "NoWard" "name" "name" := al.e_NoWard.errG X G (fun _ _ _ _ _ _ us hl => match us, hl with | [_, _], _ => rfl) (fun _ _ _ _ _ _ _ _ => rfl) fun f fd F => ini_NoWard F
  have G_NotHeard : ErrG P wo K mg base 1 "NotHeard" "heard" "heard" := al.e_NotHeard.errG X G (fun _ _ _ _ _ _ us hl => match us, hl with | [_, _], _ => rfl) (fun _ _ _ _ _ _ _ _ => rfl) fun f fd F => ini_NotHeard F
  have G_NotAlike : ErrG P wo K mg base 1 "NotAlike" "log" "log" := al.e_NotAlike.errG X G (fun _ _ _ _ _ _ us hl => match us, hl with | [_, _], _ => rfl) (fun _ _ _ _ _ _ _ _ => rfl) fun f fd F => ini_NotAlike F
  have G_Harmful : ErrG P wo K mg base 1 "Harmful" "paper" "paper" := al.e_Harmful.errG X G (fun _ _ _ _ _ _ us hl => match us, hl with | [_, _], _ => rfl) (fun _ _ _ _ _ _ _ _ => rfl) fun f fd F => ini_Harmful F
  have Z_OtherFaces : Err0 K mg "OtherFaces" := ⟨_, PySem.W.mg_of X G al.b_OtherFaces.ns, al.b_OtherFaces.made, al.b_OtherFaces.keep⟩
  have Z_NothingToUndo : Err0 K mg "NothingToUndo" := ⟨_, PySem.W.mg_of X G al.b_NothingToUndo.ns, al.b_NothingToUndo.made, al.b_NothingToUndo.keep⟩
  have Z_NothingToRedo : Err0 K mg "NothingToRedo" := ⟨_, PySem.W.mg_of X G al.b_NothingToRedo.ns, al.b_NothingToRedo.made, al.b_NothingToRedo.keep⟩
  have Z_InvalidCommand : Err0 K mg "InvalidCommand" := ⟨_, PySem.W.mg_of X G al.b_InvalidCommand.ns, al.b_InvalidCommand.made, al.b_InvalidCommand.keep⟩
  have Z_WardError : Err0 K mg "WardError" := ⟨_, PySem.W.mg_of X G al.w.ns, al.w.made, al.w.keep⟩
  have G_law_deck := al.d_law_deck.cal (P := P) (wo := wo) (base := base) X G (fun _ _ _ _ _ _ us hl => match us, hl with | [_], _ => rfl) fun f fd F => ok_law_deck (P := P) (wo := wo) (base := base) F T 
  have G_law_draw := al.d_law_draw.cal (P := P) (wo := wo) (base := base) X G (fun _ _ _ _ _ _ us hl => match us, hl with | [_, _], _ => rfl) fun f fd F => ok_law_draw (P := P) (wo := wo) (base := base) F T 
  have G_law_pick := al.d_law_pick.cal (P := P) (wo := wo) (base := base) X G (fun _ _ _ _ _ _ us hl => match us, hl with | [_, _], _ => rfl) fun f fd F => ok_law_pick (P := P) (wo := wo) (base := base) F T G_law_draw
  have G_law_made_a := al.d_law_made_a.cal (P := P) (wo := wo) (base := base) X G (fun _ _ _ _ _ _ us hl => match us, hl with | [_, _, _], _ => rfl) fun f fd F => ok_law_made_a (P := P) (wo := wo) (base := base) F T G_BadBook G_BadDevice G_BadGuest G_BadOnlooker G_BadText G_BadWard
  have G_law_made_b := al.d_law_made_b.cal (P := P) (wo := wo) (base := base) X G (fun _ _ _ _ _ _ us hl => match us, hl with | [_, _, _], _ => rfl) fun f fd F => ok_law_made_b (P := P) (wo := wo) (base := base) F T G_BadChoice G_CannotCome G_NeverStays G_NeverSure G_Refused G_TooMany
  have G_law_made_c := al.d_law_made_c.cal (P := P) (wo := wo) (base := base) X G (fun _ _ _ _ _ _ us hl => match us, hl with | [_, _, _], _ => rfl) fun f fd F => ok_law_made_c (P := P) (wo := wo) (base := base) F T G_BadName G_NameTaken G_NoWard G_NotAlike G_NotHeard G_Uncaught
  have G_law_made_d := al.d_law_made_d.cal (P := P) (wo := wo) (base := base) X G (fun _ _ _ _ _ _ us hl => match us, hl with | [_, _, _], _ => rfl) fun f fd F => ok_law_made_d (P := P) (wo := wo) (base := base) F T G_Harmful
  have G_law_made_bare := al.d_law_made_bare.cal (P := P) (wo := wo) (base := base) X G (fun _ _ _ _ _ _ us hl => match us, hl with | [_], _ => rfl) fun f fd F => ok_law_made_bare (P := P) (wo := wo) (base := base) F T Z_InvalidCommand Z_NothingToRedo Z_NothingToUndo Z_OtherFaces
  have G_law_sorts := al.d_law_sorts.cal (P := P) (wo := wo) (base := base) X G (fun _ _ _ _ _ _ us hl => match us, hl with | [_], _ => rfl) fun f fd F => ok_law_sorts (P := P) (wo := wo) (base := base) F T 
  have G_law_worth := al.d_law_worth.cal (P := P) (wo := wo) (base := base) X G (fun _ _ _ _ _ _ us hl => match us, hl with | [_, _], _ => rfl) fun f fd F => ok_law_worth (P := P) (wo := wo) (base := base) F T 
  have G_law_is_caught := al.d_law_is_caught.cal (P := P) (wo := wo) (base := base) X G (fun _ _ _ _ _ _ us hl => match us, hl with | [_], _ => rfl) fun f fd F => ok_law_is_caught (P := P) (wo := wo) (base := base) F T G_TooMany hs
  have V0 : Cal P wo K mg base (L2.CX P wo) 3 "_law_value" (spD K mg 2 (F_law_value 0)) := al.d_law_value.cal (ps := ["_law_deck_here", "_law_deep"]) X G (fun _ _ _ _ _ _ us hl => match us, hl with | [_, _], _ => rfl) fun f fd F => fn_none
  have V1 : Cal P wo K mg base (L2.CX P wo) 4 "_law_value" (spD K mg 2 (F_law_value 1)) := al.d_law_value.cal X G (fun _ _ _ _ _ _ us hl => match us, hl with | [_, _], _ => rfl) fun f fd F => ok_law_value F T G_law_draw G_law_pick (by decide) V0
  have V2 : Cal P wo K mg base (L2.CX P wo) 5 "_law_value" (spD K mg 2 (F_law_value 2)) := al.d_law_value.cal X G (fun _ _ _ _ _ _ us hl => match us, hl with | [_, _], _ => rfl) fun f fd F => ok_law_value F T G_law_draw G_law_pick (by decide) V1
  have V3 : Cal P wo K mg base (L2.CX P wo) 6 "_law_value" (spD K mg 2 (F_law_value 3)) := al.d_law_value.cal X G (fun _ _ _ _ _ _ us hl => match us, hl with | [_, _], _ => rfl) fun f fd F => ok_law_value F T G_law_draw G_law_pick (by decide) V2
  have V4 : Cal P wo K mg base (L2.CX P wo) 7 "_law_value" (spD K mg 2 (F_law_value 4)) := al.d_law_value.cal X G (fun _ _ _ _ _ _ us hl => match us, hl with | [_, _], _ => rfl) fun f fd F => ok_law_value F T G_law_draw G_law_pick (by decide) V3
  have G_law_value := V4
  have G_law_made := al.d_law_made.cal (P := P) (wo := wo) (base := base) X G (fun _ _ _ _ _ _ us hl => match us, hl with | [_, _, _], _ => rfl) fun f fd F => ok_law_made (P := P) (wo := wo) (base := base) F T G_law_made_b G_law_made_a G_law_made_bare G_law_made_d G_law_made_c
  exact fnG_law (oklaw F T G_law_deck G_law_value G_law_made G_law_is_caught G_law_sorts G_law_worth Z_WardError hs) fun ns _ => law_q ns
end
end K1

open PySem PySem.W PyProof.Rows
set_option maxHeartbeats 0 in
theorem PySem.Challenge.cw_housewardens_k01_errors_holds : PySem.Challenge.rw_housewardens_k01_errors.Holds := by
  w_on; o_law; k_head; (case hw => w_witness2)
  k_fill
  refine Pd.walkD (l := PySem.Challenge.rw_housewardens_k01_errors) (k := 8) rfl rfl ?hi ⟨rfl, by decide, by decide⟩ (fun w h Y => PySem.W.kIn_of Y) ?F
  case hi => first | decide +kernel | rfl
  case F =>
    intro w mg fa h KX G hmg
    refine' K1.all_go KX G hmg ⟨?w0, ?e_BadBook, ?e_BadDevice, ?e_BadWard, ?e_BadGuest, ?e_BadOnlooker, ?e_BadText, ?e_BadChoice, ?e_TooMany, ?e_CannotCome, ?e_Refused, ?e_NeverSure, ?e_NeverStays, ?e_Uncaught, ?e_BadName, ?e_NameTaken, ?e_NoWard, ?e_NotHeard, ?e_NotAlike, ?e_Harmful, ?b_OtherFaces, ?b_NothingToUndo, ?b_NothingToRedo, ?b_InvalidCommand, ?d_law_deck, ?d_law_draw, ?d_law_pick, ?d_law_made_a, ?d_law_made_b, ?d_law_made_c, ?d_law_made_d, ?d_law_made_bare, ?d_law_sorts, ?d_law_worth, ?d_law_is_caught, ?d_law_value, ?d_law_made, ?z_isinstance, ?z_int, ?z_list, ?z_len, ?z_repr, ?z_tuple, ?z_dict, ?z_range, ?z_enumerate, ?z_Exception, ?z_ValueError, ?hn, ?ht⟩ ?dl
    (case w0 => refine' Pd.EB.mk1 ?xa ?xl ?xga ?xgg ?xha ?xl2 ?xh ?xni ?xtl ?xk; (case xa => k_is); (case xl => k_is); (case xga => k_is); (case xgg => k_is); (case xha => k_is); (case xl2 => k_is); (case xh => rfl); (case xni => k_is); (case xtl => exact Pd.tail_last); (case xk => k_is))
    (case e_BadBook => refine' Pd.EF.mk1 ?xa ?xl ?xga ?xgg ?xha ?xp ?xk ?xi ?xl2 ?xcc ?xkf ?xno; (case xa => k_is); (case xl => k_is); (case xga => k_is); (case xgg => k_is); (case xha => k_is); (case xp => k_is); (case xk => k_is); (case xi => k_is); (case xl2 => k_is); (case xcc => k_is); (case xkf => k_is); (case xno => k_is))
    (case e_BadDevice => refine' Pd.EF.mk1 ?xa ?xl ?xga ?xgg ?xha ?xp ?xk ?xi ?xl2 ?xcc ?xkf ?xno; (case xa => k_is); (case xl => k_is); (case xga => k_is); (case xgg => k_is); (case xha => k_is); (case xp => k_is); (case xk => k_is); (case xi => k_is); (case xl2 => k_is); (case xcc => k_is); (case xkf => k_is); (case xno => k_is))
    (case e_BadWard => refine' Pd.EF.mk1 ?xa ?xl ?xga ?xgg ?xha ?xp ?xk ?xi ?xl2 ?xcc ?xkf ?xno; (case xa => k_is); (case xl => k_is); (case xga => k_is); (case xgg => k_is); (case xha => k_is); (case xp => k_is); (case xk => k_is); (case xi => k_is); (case xl2 => k_is); (case xcc => k_is); (case xkf => k_is); (case xno => k_is))
    (case e_BadGuest => refine' Pd.EF.mk1 ?xa ?xl ?xga ?xgg ?xha ?xp ?xk ?xi ?xl2 ?xcc ?xkf ?xno; (case xa => k_is); (case xl => k_is); (case xga => k_is); (case xgg => k_is); (case xha => k_is); (case xp => k_is); (case xk => k_is); (case xi => k_is); (case xl2 => k_is); (case xcc => k_is); (case xkf => k_is); (case xno => k_is))
    (case e_BadOnlooker => refine' Pd.EF.mk1 ?xa ?xl ?xga ?xgg ?xha ?xp ?xk ?xi ?xl2 ?xcc ?xkf ?xno; (case xa => k_is); (case xl => k_is); (case xga => k_is); (case xgg => k_is); (case xha => k_is); (case xp => k_is); (case xk => k_is); (case xi => k_is); (case xl2 => k_is); (case xcc => k_is); (case xkf => k_is); (case xno => k_is))
    (case e_BadText => refine' Pd.EF.mk1 ?xa ?xl ?xga ?xgg ?xha ?xp ?xk ?xi ?xl2 ?xcc ?xkf ?xno; (case xa => k_is); (case xl => k_is); (case xga => k_is); (case xgg => k_is); (case xha => k_is); (case xp => k_is); (case xk => k_is); (case xi => k_is); (case xl2 => k_is); (case xcc => k_is); (case xkf => k_is); (case xno => k_is))
    (case e_BadChoice => refine' Pd.EF.mk1 ?xa ?xl ?xga ?xgg ?xha ?xp ?xk ?xi ?xl2 ?xcc ?xkf ?xno; (case xa => k_is); (case xl => k_is); (case xga => k_is); (case xgg => k_is); (case xha => k_is); (case xp => k_is); (case xk => k_is); (case xi => k_is); (case xl2 => k_is); (case xcc => k_is); (case xkf => k_is); (case xno => k_is))
    (case e_TooMany => refine' Pd.EF.mk1 ?xa ?xl ?xga ?xgg ?xha ?xp ?xk ?xi ?xl2 ?xcc ?xkf ?xno; (case xa => k_is); (case xl => k_is); (case xga => k_is); (case xgg => k_is); (case xha => k_is); (case xp => k_is); (case xk => k_is); (case xi => k_is); (case xl2 => k_is); (case xcc => k_is); (case xkf => k_is); (case xno => k_is))
    (case e_CannotCome => refine' Pd.EF.mk1 ?xa ?xl ?xga ?xgg ?xha ?xp ?xk ?xi ?xl2 ?xcc ?xkf ?xno; (case xa => k_is); (case xl => k_is); (case xga => k_is); (case xgg => k_is); (case xha => k_is); (case xp => k_is); (case xk => k_is); (case xi => k_is); (case xl2 => k_is); (case xcc => k_is); (case xkf => k_is); (case xno => k_is))
    (case e_Refused => refine' Pd.EF.mk1 ?xa ?xl ?xga ?xgg ?xha ?xp ?xk ?xi ?xl2 ?xcc ?xkf ?xno; (case xa => k_is); (case xl => k_is); (case xga => k_is); (case xgg => k_is); (case xha => k_is); (case xp => k_is); (case xk => k_is); (case xi => k_is); (case xl2 => k_is); (case xcc => k_is); (case xkf => k_is); (case xno => k_is))
    (case e_NeverSure => refine' Pd.EF.mk1 ?xa ?xl ?xga ?xgg ?xha ?xp ?xk ?xi ?xl2 ?xcc ?xkf ?xno; (case xa => k_is); (case xl => k_is); (case xga => k_is); (case xgg => k_is); (case xha => k_is); (case xp => k_is); (case xk => k_is); (case xi => k_is); (case xl2 => k_is); (case xcc => k_is); (case xkf => k_is); (case xno => k_is))
    (case e_NeverStays => refine' Pd.EF.mk1 ?xa ?xl ?xga ?xgg ?xha ?xp ?xk ?xi ?xl2 ?xcc ?xkf ?xno; (case xa => k_is); (case xl => k_is); (case xga => k_is); (case xgg => k_is); (case xha => k_is); (case xp => k_is); (case xk => k_is); (case xi => k_is); (case xl2 => k_is); (case xcc => k_is); (case xkf => k_is); (case xno => k_is))
    (case e_Uncaught => refine' Pd.EF.mk1 ?xa ?xl ?xga ?xgg ?xha ?xp ?xk ?xi ?xl2 ?xcc ?xkf ?xno; (case xa => k_is); (case xl => k_is); (case xga => k_is); (case xgg => k_is); (case xha => k_is); (case xp => k_is); (case xk => k_is); (case xi => k_is); (case xl2 => k_is); (case xcc => k_is); (case xkf => k_is); (case xno => k_is))
    (case e_BadName => refine' Pd.EF.mk1 ?xa ?xl ?xga ?xgg ?xha ?xp ?xk ?xi ?xl2 ?xcc ?xkf ?xno; (case xa => k_is); (case xl => k_is); (case xga => k_is); (case xgg => k_is); (case xha => k_is); (case xp => k_is); (case xk => k_is); (case xi => k_is); (case xl2 => k_is); (case xcc => k_is); (case xkf => k_is); (case xno => k_is))
    (case e_NameTaken => refine' Pd.EF.mk1 ?xa ?xl ?xga ?xgg ?xha ?xp ?xk ?xi ?xl2 ?xcc ?xkf ?xno; (case xa => k_is); (case xl => k_is); (case xga => k_is); (case xgg => k_is); (case xha => k_is); (case xp => k_is); (case xk => k_is); (case xi => k_is); (case xl2 => k_is); (case xcc => k_is); (case xkf => k_is); (case xno => k_is))
    (case e_NoWard => refine' Pd.EF.mk1 ?xa ?xl ?xga ?xgg ?xha ?xp ?xk ?xi ?xl2 ?xcc ?xkf ?xno; (case xa => k_is); (case xl => k_is); (case xga => k_is); (case xgg => k_is); (case xha => k_is); (case xp => k_is); (case xk => k_is); (case xi => k_is); (case xl2 => k_is); (case xcc => k_is); (case xkf => k_is); (case xno => k_is))
    (case e_NotHeard => refine' Pd.EF.mk1 ?xa ?xl ?xga ?xgg ?xha ?xp ?xk ?xi ?xl2 ?xcc ?xkf ?xno; (case xa => k_is); (case xl => k_is); (case xga => k_is); (case xgg => k_is); (case xha => k_is); (case xp => k_is); (case xk => k_is); (case xi => k_is); (case xl2 => k_is); (case xcc => k_is); (case xkf => k_is); (case xno => k_is))
    (case e_NotAlike => refine' Pd.EF.mk1 ?xa ?xl ?xga ?xgg ?xha ?xp ?xk ?xi ?xl2 ?xcc ?xkf ?xno; (case xa => k_is); (case xl => k_is); (case xga => k_is); (case xgg => k_is); (case xha => k_is); (case xp => k_is); (case xk => k_is); (case xi => k_is); (case xl2 => k_is); (case xcc => k_is); (case xkf => k_is); (case xno => k_is))
    (case e_Harmful => refine' Pd.EF.mk1 ?xa ?xl ?xga ?xgg ?xha ?xp ?xk ?xi ?xl2 ?xcc ?xkf ?xno; (case xa => k_is); (case xl => k_is); (case xga => k_is); (case xgg => k_is); (case xha => k_is); (case xp => k_is); (case xk => k_is); (case xi => k_is); (case xl2 => k_is); (case xcc => k_is); (case xkf => k_is); (case xno => k_is))
    (case b_OtherFaces => refine' Pd.EB.mk1 ?xa ?xl ?xga ?xgg ?xha ?xl2 ?xh ?xni ?xtl ?xk; (case xa => k_is); (case xl => k_is); (case xga => k_is); (case xgg => k_is); (case xha => k_is); (case xl2 => k_is); (case xh => rfl); (case xni => k_is); (case xtl => (refine' Pd.tail_one ?ya ?yb ?yh ?yn; (case ya => k_is); (case yb => k_is); (case yh => rfl); (case yn => k_is))); (case xk => k_is))
    (case b_NothingToUndo => refine' Pd.EB.mk1 ?xa ?xl ?xga ?xgg ?xha ?xl2 ?xh ?xni ?xtl ?xk; (case xa => k_is); (case xl => k_is); (case xga => k_is); (case xgg => k_is); (case xha => k_is); (case xl2 => k_is); (case xh => rfl); (case xni => k_is); (case xtl => (refine' Pd.tail_one ?ya ?yb ?yh ?yn; (case ya => k_is); (case yb => k_is); (case yh => rfl); (case yn => k_is))); (case xk => k_is))
    (case b_NothingToRedo => refine' Pd.EB.mk1 ?xa ?xl ?xga ?xgg ?xha ?xl2 ?xh ?xni ?xtl ?xk; (case xa => k_is); (case xl => k_is); (case xga => k_is); (case xgg => k_is); (case xha => k_is); (case xl2 => k_is); (case xh => rfl); (case xni => k_is); (case xtl => (refine' Pd.tail_one ?ya ?yb ?yh ?yn; (case ya => k_is); (case yb => k_is); (case yh => rfl); (case yn => k_is))); (case xk => k_is))
    (case b_InvalidCommand => refine' Pd.EB.mk1 ?xa ?xl ?xga ?xgg ?xha ?xl2 ?xh ?xni ?xtl ?xk; (case xa => k_is); (case xl => k_is); (case xga => k_is); (case xgg => k_is); (case xha => k_is); (case xl2 => k_is); (case xh => rfl); (case xni => k_is); (case xtl => (refine' Pd.tail_one ?ya ?yb ?yh ?yn; (case ya => k_is); (case yb => k_is); (case yh => rfl); (case yn => k_is))); (case xk => k_is))
    (case d_law_deck => refine' Pd.DF.mk1 ?xa ?xl ?xc ?xk; (case xa => k_is); (case xl => k_is); (case xc => k_is); (case xk => k_is))
    (case d_law_draw => refine' Pd.DF.mk1 ?xa ?xl ?xc ?xk; (case xa => k_is); (case xl => k_is); (case xc => k_is); (case xk => k_is))
    (case d_law_pick => refine' Pd.DF.mk1 ?xa ?xl ?xc ?xk; (case xa => k_is); (case xl => k_is); (case xc => k_is); (case xk => k_is))
    (case d_law_made_a => refine' Pd.DF.mk1 ?xa ?xl ?xc ?xk; (case xa => k_is); (case xl => k_is); (case xc => k_is); (case xk => k_is))
    (case d_law_made_b => refine' Pd.DF.mk1 ?xa ?xl ?xc ?xk; (case xa => k_is); (case xl => k_is); (case xc => k_is); (case xk => k_is))
    (case d_law_made_c => refine' Pd.DF.mk1 ?xa ?xl ?xc ?xk; (case xa => k_is); (case xl => k_is); (case xc => k_is); (case xk => k_is))
    (case d_law_made_d => refine' Pd.DF.mk1 ?xa ?xl ?xc ?xk; (case xa => k_is); (case xl => k_is); (case xc => k_is); (case xk => k_is))
    (case d_law_made_bare => refine' Pd.DF.mk1 ?xa ?xl ?xc ?xk; (case xa => k_is); (case xl => k_is); (case xc => k_is); (case xk => k_is))
    (case d_law_sorts => refine' Pd.DF.mk1 ?xa ?xl ?xc ?xk; (case xa => k_is); (case xl => k_is); (case xc => k_is); (case xk => k_is))
    (case d_law_worth => refine' Pd.DF.mk1 ?xa ?xl ?xc ?xk; (case xa => k_is); (case xl => k_is); (case xc => k_is); (case xk => k_is))
    (case d_law_is_caught => refine' Pd.DF.mk1 ?xa ?xl ?xc ?xk; (case xa => k_is); (case xl => k_is); (case xc => k_is); (case xk => k_is))
    (case d_law_value => refine' Pd.DF.mk1 ?xa ?xl ?xc ?xk; (case xa => k_is); (case xl => k_is); (case xc => k_is); (case xk => k_is))
    (case d_law_made => refine' Pd.DF.mk1 ?xa ?xl ?xc ?xk; (case xa => k_is); (case xl => k_is); (case xc => k_is); (case xk => k_is))
    (case dl => refine' Pd.DF.mk1 ?xa ?xl ?xc ?xk; (case xa => k_is); (case xl => k_is); (case xc => k_is); (case xk => k_is))
    (case z_isinstance => k_is); (case z_int => k_is); (case z_list => k_is); (case z_len => k_is); (case z_repr => k_is); (case z_tuple => k_is); (case z_dict => k_is); (case z_range => k_is); (case z_enumerate => k_is); (case z_Exception => k_is); (case z_ValueError => k_is)
    (case hn => k_is); (case ht => k_is)

