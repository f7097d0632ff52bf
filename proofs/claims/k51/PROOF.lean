import PyProof.Rows.All
import Wide.All
import OpenK.AllK
import Wide.FinOn
import HandS.ForMost
import HandS.ForExc
import HandS.Iter
import HandS.Walk
import KE.GoesMore
import KE.GoesEnum
import HandS.Evl
import HandS.IsInst
import HandS.Codes
import PySem.Challenge.RW_housewardens_k51_barred_books
import HandS.OwnEq
import HandS.Style
import HandS.TupAny
import HandS.Conv
import KE.KRevSl
set_option Elab.async false
set_option linter.all false
set_option maxRecDepth 100000
set_option maxHeartbeats 4000000
/-! A layer over the hand layer: calls that know that nothing is being shown around them (no repr under way). -/
namespace Hg
open PySem L2
open PySem.Spec PyProof.Rows

/-- around: no repr under way -/
def Quiet (A : Around) : Prop := A.guards = some []
theorem Quiet.deeper {A : Around} {env : Env} (q : Quiet A) : Quiet (A.deeper env) := q

/-- a def keeps its promise wherever no repr is under way -/
structure FnG (P : Program) (w : World) (K : PySem.W.Frag) (mg : Str → Option Value) (base : Heap)
    (CX : CXT) (k : Nat) (f : Addr) (fd : FuncData) (ps : List Str) (sp : Sp) : Prop where
  len : ∀ vs H Q E, sp vs H Q E → vs.length = ps.length
  go : ∀ (A : Around) (out : List Env) (s : Shared) (H : Hp) (args : Args) (us : List Value) (vs : List V) (Q : VK) (E : XK),
    Quiet A → Room k A → Env0 P w K mg base A out s H → BindsTo s fd args (ps.zip us) → Vals vs us → sp vs H Q E →
    codeAny (model P w) A (.call (.ref f) args) (CR CX out P w H s Q E) s

theorem FnG.mono {P : Program} {w : World} {K : PySem.W.Frag} {mg : Str → Option Value} {base : Heap} {CX : CXT}
    {j k : Nat} {f : Addr} {fd : FuncData} {ps : List Str} {sp : Sp}
    (F : FnG P w K mg base CX j f fd ps sp) (h : j ≤ k) : FnG P w K mg base CX k f fd ps sp :=
  ⟨F.len, fun A o s H a us vs Q E g r => F.go A o s H a us vs Q E g (r.mono h)⟩

section
variable {P : Program} {w : World} {K : PySem.W.Frag} {mg : Str → Option Value} {base : Heap} {CX : CXT}
/-- a def by its body, where no repr is under way -/
theorem fnG {k : Nat} {f : Addr} {x q : Str} {st : Stmt} {fd : FuncData} {N ps : List Str} {sp : Sp}
    (F : Fun K x q st f fd) (S : FnScope N ps (defScope st)) (len : ∀ vs H Q E, sp vs H Q E → vs.length = ps.length)
    (hb : ∀ (cdv : Value) (A : Around) (out : List Env) (s : Shared) (H : Hp) (vs : List V) (Q : VK) (E : XK), Quiet A →
      Room k (A.deeper (envOfC q (defScope st) s.heap.objs.size f cdv)) → sp vs H Q E →
      ∃ t, PSs (cxOf CX P w K mg base N q (defScope st) f cdv A out s H E) (defBody st) t ∧
        t { nx := fun _ H' => Q .non H', rt := Q } (start N vs) H) :
    FnG P w K mg base CX (k + 1) f fd ps sp := by
  obtain ⟨oc, od, kV, doc, pm, an, cdv, ct, osl, rfl, lk, hcd⟩ := F.ex
  refine ⟨len, ?_⟩
  intro A out s H args us vs Q E g hr e0 hbd r hsp
  have hl := len vs H Q E hsp
  have keep : ∀ b o, base.get? b = some o → s.heap.get? b = some o := fun b o e => (e0.bs b o e).1
  have KX : K.In s.heap := e0.mod.kin.keeps keep
  have lim := e0.mod.nolimit.keeps keep
  refine codeAny_call_function hr.depth (KX _ _ lk) rfl S.co S.gen rfl (PySem.W.codeRec_of KX hcd) (hbd _ _ _ _ ?_)
  refine wpAny_newFunctionEnv_cells S.kind ?hk ?hw
  case hk =>
    rintro ⟨n, v⟩ hy
    have hn := (List.of_mem_zip hy).1
    rcases S.par n hn with z | z
    · exact Or.inl z
    · exact Or.inr ⟨z, PySem.W.cellsFrom_some _ _ _ (Or.inl z)⟩
  case hw =>
    intro env he s1 xx
    subst he
    refine ⟨lim.keeps xx.toInCall.keep, codeAny_func ?_⟩
    obtain ⟨t, ht, hq⟩ := hb cdv A out s H vs Q E g (hr.deeper _) hsp
    have I := inv_start (CX := CX) (P := P) (w := w) (E := E) S hr.hd e0 hl r xx
    refine wpAny_mono (ht.run [] s1 (start N vs) H _ I hq) ?_ (fun _ _ z => z)
    intro fl s' hs
    have fin : ∀ {σ' : L2.St} {H' : Hp} {v : V} {u : Value},
        Inv (cxOf CX P w K mg base N q (defScope st) f cdv A out s H E) [] σ' H' s' → RelV v u → Q v H' →
        CE out P w H s Q u s' := by
      intro σ' H' v u J rv qq
      exact ⟨v, H', J.os, J.bare, J.base, J.hok, rv, qq⟩
    cases fl with
    | ret u => obtain ⟨v, σ', H', J, rv, qq⟩ := hs; exact fin J rv qq
    | next => obtain ⟨σ', H', J, qq⟩ := hs; exact fin (v := .non) (u := .none) J rfl qq
    | brk => obtain ⟨_, _, _, z⟩ := hs; exact z.elim
    | cont => obtain ⟨_, _, _, z⟩ := hs; exact z.elim
end

/-- a def of the module that may be called by its name -/
structure Cal (P : Program) (w : World) (K : PySem.W.Frag) (mg : Str → Option Value) (base : Heap) (CX : CXT)
    (k : Nat) (x : Str) (sp : Sp) : Prop where
  ex : ∃ (f : Addr) (fd : FuncData) (ps : List Str), FnG P w K mg base CX k f fd ps sp ∧ mg x = some (.ref f) ∧
    PySem.W.keepIn K (.ref f) = true ∧ Binds K fd ps []

section
variable {X : Cx} {CX : CXT} {k j : Nat} {f : Addr} {fd : FuncData} {ps : List Str} {sp : Sp} {E : XK} {x : Str} {p pos : Pos}
  {e : Expr} {es : List Expr} {t : TA}
/-- the callee runs -/
theorem runG {pins : List (Addr × Obj)} {σ : L2.St} {H : Hp} {s : Shared} {Q : VK} {us : List Value} {vs : List V}
    (F : FnG X.prog X.w X.K X.mg X.base CX k f fd ps sp) (g : Quiet X.A) (hr : Room k X.A) (hb : Binds X.K fd ps []) (hx : Passes CX X E)
    (I : Inv X pins σ H s) (r : Vals vs us) (h : sp vs H Q E) :
    wpAny (model X.prog X.w) X.A (call (.ref f) us) (EP X pins σ Q) X.xe s := by
  have hl : (us ++ []).length = ps.length := by rw [List.append_nil, ← r.length]; exact F.len vs H Q E h
  have b := hb s us I.kIn hl
  rw [List.append_nil] at b
  refine wpAny_call (codeAny_mono (F.go X.A X.stack s H ⟨us, []⟩ us vs Q E g hr I.env0 b r h) ?_)
  intro res s' hq
  match res, hq with
  | .error er, hq => exact hx pins σ H s er s' I hq
  | .ok (.ret u), hq => exact I.after hq
  | .ok .next, hq => exact hq.elim
  | .ok .brk, hq => exact hq.elim
  | .ok .cont, hq => exact hq.elim
/-- f(e, ..) -/
theorem pe_g (c : Cal X.prog X.w X.K X.mg X.base CX k x sp) (g : Quiet X.A) (hr : Room j X.A) (hk : k ≤ j) (hg : Gl X x) (hx : Passes CX X E)
    (ha : PA X (e :: es) t) (hdb : (x == ("__debug__" : Str)) = false := by decide)
    (he : starEach (e :: es) X.env = (false, eval e X.env) :: starEach es X.env := by rfl)
    (hpl : (backTo pos (starEach es X.env)).any (·.1) = false := by rfl) :
    PE X (.Call (.Name x p) (e :: es) [] pos) (fun σ H Q => t σ H fun vs H1 => sp vs H1 Q E) := by
  obtain ⟨f, fd, ps, F, hm, kp, b⟩ := c.ex
  refine ⟨fun pins s σ H Q I h => wpAny_Call_Name_kw (ld_glob I hg hm ?_ hdb)⟩
  refine PySem.W.callWith_K (h₀ := X.base) I.ok.mod.kin kp (thn (ha.run pos pins s σ H _ I h) ?_) he hpl
  rintro us s1 ⟨vs, H1, I1, r, q⟩
  exact ⟨I1.kIn, runG F g (hr.mono hk) b hx I1 r q⟩
end
end Hg

/-! The end of a law's row over the layer Hg: the law's own call, from its promise. -/
namespace Hg
open PySem L2
open PySem.Spec PyProof.Rows

/-- sys.modules stands in the base -/
def Sys (base : Heap) : Prop := ∃ mm, base.Ns sysModules mm

section
variable {P : Program} {w : World} {K : PySem.W.Frag} {mg mb : Str → Option Value} {k : Nat} {fa a : Addr} {fd : FuncData} {x : Str} {sp : Sp}
  {s1 : Shared} {vs : List Value} {ns : List Int}
/-- what the law's call leaves -/
abbrev Good (s1 : Shared) (r : Result) (s' : Shared) : Prop :=
  r = .ok (.ret (.bool true)) ∧ OldK s1.heap s'.heap ∧ s'.os = s1.os ∧ AllBare s'.gens

/-- from an abstract heap in which nothing but the script is tracked, locked -/
theorem law_from {H : Hp} (KX : K.In s1.heap) (hns : s1.heap.Ns mainGlobals mg) (hb : s1.heap.Ns builtinsNs mb)
    (hbb : ∀ y : Str, y ≠ "__name__" → mb y = bootBuiltins y) (hlim : s1.heap.NoLimit) (hsy : Sys s1.heap) (hg : s1.gens = #[])
    (ha : s1.heap.get? a = some { cls := .type "list", data := .seq vs.toArray }) (hr : Room k callerA)
    (F : ∀ base : Heap, K.In base → base.Ns mainGlobals mg → Sys base → FnG P w K mg base CX0 k fa fd [x] sp)
    (hbind : ∀ (s : Shared) (u : Value), BindsTo s fd ⟨[u], []⟩ [(x, u)])
    (hO : Only H) (hok : HOk P w H s1.heap) (hA : ∀ b, H b ≠ none → b = a) (hK : H a ≠ none → K.lookup a = none)
    (hsp : sp [.ref a] H (fun v _ => v = .bl true) (fun _ _ _ => False)) :
    codeAny (model P w) callerA (.call (.ref fa) ⟨[.ref a], []⟩) (Good s1) s1 := by
  have notA : ∀ {b : Addr} {o : Obj}, s1.heap.get? b = some o → (∀ n, o.data ≠ .seq vs.toArray n) → H b = none := by
    intro b o e d
    cases q : H b with
    | none => rfl
    | some u =>
      have eb := hA b (by rw [q]; exact fun z => nomatch z)
      rw [eb, ha] at e
      cases e
      exact absurd rfl (d _)
  have nsK : ∀ {b : Addr} {m : Str → Option Value}, s1.heap.Ns b m → (hidT s1.heap H).Ns b m := by
    rintro b m ⟨o, es, ep, e, d, r⟩
    exact ⟨o, es, ep, hidT_get e (notA e fun n z => by rw [d] at z; cases z), d, r⟩
  have hKb : K.In (hidT s1.heap H) := by
    intro b o e
    refine hidT_get (KX b o e) ?_
    cases q : H b with
    | none => rfl
    | some u =>
      have ne : H b ≠ none := by rw [q]; exact fun z => nomatch z
      have eb := hA b ne
      rw [eb] at ne e
      rw [hK ne] at e
      cases e
  have M : Mod K mg (hidT s1.heap H) := by
    obtain ⟨mc, h1, h2⟩ := hlim
    exact ⟨hKb, nsK hns, ⟨mb, nsK hb, hbb⟩, mc, nsK h1, h2⟩
  have e0 : Env0 P w K mg (hidT s1.heap H) callerA [] s1 H := by
    refine ⟨rfl, M, fun b o e => of_hidT e, Nat.le_of_eq (hidT_size _ _), trivial, ?_, hok, .of_eq hg⟩
    intro b z
    cases z
  have G := F _ hKb (nsK hns) (let ⟨mm, hmm⟩ := hsy; ⟨mm, nsK hmm⟩)
  refine codeAny_mono (G.go callerA [] s1 H ⟨[.ref a], []⟩ [.ref a] [.ref a] _ _ rfl hr e0 (hbind s1 (.ref a)) (.cons rfl .nil) hsp) ?_
  intro r s' h
  match r, h with
  | .error e, h => exact h.elim
  | .ok .next, h => exact h.elim
  | .ok .brk, h => exact h.elim
  | .ok .cont, h => exact h.elim
  | .ok (.ret u), h =>
    obtain ⟨v, H', os, bare, un, hok', r', q⟩ := h
    have q2 : v = .bl true := q
    subst q2
    have r2 : u = Value.bool true := r'
    subst r2
    refine ⟨rfl, OldK.of_keep ?_, os, bare⟩
    intro b o e
    cases q : H b with
    | none => exact un.keep b o e q (fun z => nomatch z) (fun z => nomatch z)
    | some u =>
      rcases hO b with z | ⟨ob, xs, z⟩
      · rw [q] at z; cases z
      · obtain ⟨e1, _⟩ := hok b _ z
        obtain ⟨e2, _⟩ := hok' b _ (un.frzs b ob _ z)
        rw [e1] at e
        cases e
        exact e2

/-- the law's call -/
theorem law_go (KX : K.In s1.heap) (hns : s1.heap.Ns mainGlobals mg) (hb : s1.heap.Ns builtinsNs mb)
    (hbb : ∀ y : Str, y ≠ "__name__" → mb y = bootBuiltins y) (hlim : s1.heap.NoLimit) (hsy : Sys s1.heap) (hg : s1.gens = #[])
    (ha : s1.heap.get? a = some { cls := .type "list", data := .seq vs.toArray }) (hi : IntsAre vs ns) (hl : ns.length ≤ sizeLine) (hr : Room k callerA)
    (F : ∀ base : Heap, K.In base → base.Ns mainGlobals mg → Sys base → FnG P w K mg base CX0 k fa fd [x] sp)
    (hbind : ∀ (s : Shared) (u : Value), BindsTo s fd ⟨[u], []⟩ [(x, u)])
    (hsp : ∀ H : Hp, Only H → SqL K H a (ns.map V.int) → sp [.ref a] H (fun v _ => v = .bl true) (fun _ _ _ => False)) :
    codeAny (model P w) callerA (.call (.ref fa) ⟨[.ref a], []⟩) (Good s1) s1 := by
  have rv := vals_ints hi
  have lv := hi.length
  have nn : ∀ {b : Addr} {u : HO}, (fun _ => none : Hp) b = some u → False := fun z => nomatch z
  cases hk : K.lookup a with
  | some o =>
    have e := KX a o hk
    rw [ha] at e
    cases e
    have hS : SqL K (fun _ => none) a (ns.map V.int) := by
      refine Or.inr ⟨_, vs.toArray, _, hk, rfl, rfl, rfl, ?_, by simpa using rv⟩
      rw [List.size_toArray, lv]
      exact hl
    have hO : Only (fun _ => none) := fun _ => Or.inl rfl
    exact law_from (H := fun _ => none) KX hns hb hbb hlim hsy hg ha hr F hbind hO (fun b u z => (nn (b := b) z).elim) (fun b z => absurd rfl z) (fun z => absurd rfl z) (hsp _ hO hS)
  | none =>
    let o : Obj := { cls := .type "list", data := .seq vs.toArray }
    let u : HO := .frz o (.lst (ns.map V.int))
    let H : Hp := fun b => if b = a then some u else none
    have Ha : H a = some u := if_pos rfl
    have Hn : ∀ {b}, b ≠ a → H b = none := fun h => if_neg h
    have hO : Only H := by
      intro b
      by_cases h : b = a
      · exact Or.inr ⟨_, _, by rw [h]; exact Ha⟩
      · exact Or.inl (Hn h)
    refine law_from (H := H) KX hns hb hbb hlim hsy hg ha hr F hbind hO ?_ ?_ (fun _ => hk) (hsp H hO (Or.inl (Or.inr ⟨o, Ha⟩)))
    · intro b v z
      by_cases h : b = a
      · subst h
        rw [Ha] at z
        cases z
        refine ⟨ha, ?_, vs, _, rv, ha⟩
        rw [List.length_map]
        exact hl
      · rw [Hn h] at z
        cases z
    · intro b z
      by_cases h : b = a
      · exact h
      · exact absurd (Hn h) z
end

/-- the goal that the head leaves, from the law's promise -/
theorem walkG {l : PySem.W.OpenLaw} {n k : Nat} {q : Program} {loose : List Str} {XP : (Str → Option Value) → Heap → Prop} {YP : World → Heap → Prop}
    {d : DefRec} {K : Params → PySem.W.Frag} {sp : PySem.W.Frag → Sp} {x : Str}
    (hn : l.most = some n) (hn2 : n ≤ sizeLine) (hdf : d.params.defaults = []) (hr : Room k callerA)
    (hi : importsNone q = true) (hY : ∀ (w : World) (h : Heap), YP w h → (K w.params).In h)
    (F : ∀ (w : World) (mg : Str → Option Value) (fa : Addr) (h : Heap), (K w.params).In h → h.Ns mainGlobals mg → mg d.name = some (.ref fa) →
      ∃ fd : FuncData, (∀ (s : Shared) (u : Value), BindsTo s fd ⟨[u], []⟩ [(x, u)]) ∧
        ∀ base : Heap, (K w.params).In base → base.Ns mainGlobals mg → Sys base → FnG l.prog w (K w.params) mg base CX0 k fa fd [x] (sp (K w.params)))
    (hsp : ∀ (K : PySem.W.Frag) (H : Hp) (a : Addr) (ns : List Int), ns.length ≤ n → Only H → SqL K H a (ns.map V.int) →
      sp K [.ref a] H (fun v _ => v = .bl true) (fun _ _ _ => False)) :
    PySem.W.WalkO q loose XP YP l.row.toRowW d [] (fun f vs => PySem.call f vs) := by
  refine Att.attach_call hn hdf ?_
  intro w s0 s1 mg mb fa o pm cd doc a vs ns G Y ho hd hcd hmg hobj hints hlen hg
  have KX := hY w _ Y
  obtain ⟨fd, hb, hF⟩ := F w mg fa _ KX G.T.g hmg
  exact law_go KX G.T.g G.T.b G.T.builtins G.T.nolimit (let ⟨mm, h1, _⟩ := (G.T.seer hi).mods; ⟨mm, h1⟩) hg hobj hints (Nat.le_trans hlen hn2) hr hF hb fun H hO hS => hsp _ H a ns hlen hO hS
end Hg

/-! repr of data of any depth: None, bools, ints, texts, lists, tuples, dicts by ints and texts. -/
namespace Hg
open PySem L2
open PySem.Spec PyProof.Rows

def keyD : Key → PyData
  | .inl i => .int i
  | .inr x => .str x
mutual
/-- v is this datum in the heap H -/
inductive Dd (K : PySem.W.Frag) (H : Hp) : V → PyData → Prop
  | non : Dd K H .non .none
  | bl (b : Bool) : Dd K H (.bl b) (.bool b)
  | int (i : Int) : Dd K H (.int i) (.int i)
  | str (x : Str) : Dd K H (.str x) (.str x)
  | lst {a : Addr} {xs : List V} {ds : List PyData} : SqL K H a xs → DdAll K H xs ds → Dd K H (.ref a) (.list ds)
  | tup {a : Addr} {xs : List V} {ds : List PyData} : SqT K H a xs → DdAll K H xs ds → Dd K H (.ref a) (.tuple ds)
  | dct {a : Addr} {kvs : List (Key × V)} {ds : List PyData} : Rd H a (.dK kvs) → DdAll K H (kvs.map (·.2)) ds →
      Dd K H (.ref a) (.dict ((kvs.map fun p => keyD p.1).zip ds))
inductive DdAll (K : PySem.W.Frag) (H : Hp) : List V → List PyData → Prop
  | nil : DdAll K H [] []
  | cons {v : V} {vs : List V} {d : PyData} {ds : List PyData} : Dd K H v d → DdAll K H vs ds → DdAll K H (v :: vs) (d :: ds)
end

theorem DdAll.length {K : PySem.W.Frag} {H : Hp} : ∀ {vs : List V} {ds : List PyData}, DdAll K H vs ds → vs.length = ds.length
  | _, _, .nil => rfl
  | _, _, .cons _ h => congrArg (· + 1) h.length


section
variable {X : Cx} {pins : List (Addr × Obj)} {σ : L2.St} {H : Hp} {s : Shared}
theorem Sys.at (y : Sys X.base) (I : Inv X pins σ H s) : ∃ o es ep, s.heap.get? sysModules = some o ∧ o.data = .dict es ep ∧ H sysModules = none := by
  obtain ⟨mm, o, es, ep, e, d, _⟩ := y
  exact ⟨o, es, ep, (I.bs _ _ e).1, d, (I.bs _ _ e).2⟩
theorem keys_read {P : Program} {w : World} {h : Heap} : ∀ {kvs : List (Key × V)} {vs : List (Key × Value)} {es : List DictEntry}, KV kvs vs →
    Pairs (mixKind P w) es vs → ReadsAll h (es.map (·.key)) (kvs.map fun p => keyD p.1) []
  | [], _, _, r, p => by
    cases r
    cases p
    exact .nil
  | (k, v) :: kvs, _, _, r, p => by
    cases r with
    | cons r1 r2 =>
      rename_i q vs'
      obtain ⟨kq, vq⟩ := q
      obtain ⟨e1, e2⟩ := r1
      have e1' : k = kq := e1
      subst e1'
      cases p with
      | cons p1 p2 p3 =>
        rename_i e es'
        have hs : keyIs k e.key = true := p1
        have rest := keys_read (h := h) r2 p3
        show ReadsAll h (e.key :: es'.map (·.key)) (keyD k :: kvs.map fun p => keyD p.1) ([] ++ [])
        rcases keyIs_shape hs with ⟨i, t, rfl, eq⟩ | ⟨x, t, rfl, eq⟩
        · exact .cons (by rw [eq]; exact .int i t) rest
        · exact .cons (by rw [eq]; exact .str x t) rest
theorem vals_of {P : Program} {w : World} : ∀ {kvs : List (Key × V)} {vs : List (Key × Value)} {es : List DictEntry}, KV kvs vs →
    Pairs (mixKind P w) es vs → Vals (kvs.map (·.2)) (es.map (·.val))
  | [], _, _, r, p => by
    cases r
    cases p
    exact .nil
  | (k, v) :: kvs, _, _, r, p => by
    cases r with
    | cons r1 r2 =>
      cases p with
      | cons p1 p2 p3 =>
        refine .cons ?_ (vals_of r2 p3)
        have z := r1.2
        rw [← p2] at z
        exact z
theorem zip_fst {α β : Type} : ∀ {as : List α} {bs : List β}, as.length = bs.length → (as.zip bs).map (·.1) = as
  | [], _, _ => rfl
  | a :: as, b :: bs, h => by
    show a :: (as.zip bs).map (·.1) = a :: as
    rw [zip_fst (Nat.succ.inj h)]
theorem zip_snd {α β : Type} : ∀ {as : List α} {bs : List β}, as.length = bs.length → (as.zip bs).map (·.2) = bs
  | [], [], _ => rfl
  | a :: as, b :: bs, h => by
    show b :: (as.zip bs).map (·.2) = b :: bs
    rw [zip_snd (Nat.succ.inj h)]
mutual
theorem Dd.reads (y : Sys X.base) (I : Inv X pins σ H s) : ∀ {v : V} {d : PyData} {u : Value}, Dd X.K H v d → RelV v u → ∃ as, Reads s.heap u d as ∧ sysModules ∉ as
  | _, _, _, .non, r => by
    cases r
    exact ⟨[], .none, fun z => nomatch z⟩
  | _, _, _, .bl b, r => by
    cases r
    exact ⟨[], .bool b, fun z => nomatch z⟩
  | _, _, _, .int i, r => by
    obtain ⟨t, rfl⟩ := r
    exact ⟨[], .int i t, fun z => nomatch z⟩
  | _, _, _, .str x, r => by
    obtain ⟨t, rfl⟩ := r
    exact ⟨[], .str x t, fun z => nomatch z⟩
  | _, _, _, .lst (a := a) hs ha, r => by
    cases r
    obtain ⟨its, rv, ⟨o, n, ho, hc, _, hd⟩, _⟩ := I.list hs
    obtain ⟨as, hr, hn⟩ := DdAll.reads y I ha rv
    refine ⟨_, .list ho hc hd hr, ?_⟩
    intro z
    rcases List.mem_cons.mp z with z | z
    · obtain ⟨o2, es, ep, e2, d2, _⟩ := y.at I
      rw [z, ho] at e2
      cases e2
      rw [hd] at d2
      cases d2
    · exact hn z
  | _, _, _, .tup hs ha, r => by
    cases r
    obtain ⟨its, rv, ⟨o, ho, hc, n, hd⟩, _⟩ := I.tuple hs
    obtain ⟨as, hr, hn⟩ := DdAll.reads y I ha rv
    exact ⟨_, .tuple ho hc hd hr, hn⟩
  | _, _, _, .dct (a := a) (kvs := kvs) (ds := ds) hs ha, r => by
    cases r
    obtain ⟨_, hne, vs, kv, o, es, ep, ho, hx, hd, _, hp, _⟩ := hs.ok I.hok
    have hl : (kvs.map fun p => keyD p.1).length = ds.length := by
      rw [List.length_map, ← ha.length, List.length_map]
    obtain ⟨as, hr, hn⟩ := DdAll.reads y I ha (vals_of kv hp)
    refine ⟨_, .dict ho hx.1 hd (as := []) (bs := as) ?_ ?_, ?_⟩
    · rw [zip_fst hl]
      exact keys_read kv hp
    · rw [zip_snd hl]
      exact hr
    · intro z
      rcases List.mem_cons.mp z with z | z
      · rw [← z] at hne
        exact absurd hne (by decide)
      · exact hn z
theorem DdAll.reads (y : Sys X.base) (I : Inv X pins σ H s) : ∀ {vs : List V} {ds : List PyData} {us : List Value}, DdAll X.K H vs ds → Vals vs us → ∃ as, ReadsAll s.heap us ds as ∧ sysModules ∉ as
  | _, _, _, .nil, r => by
    cases r
    exact ⟨[], .nil, fun z => nomatch z⟩
  | _, _, _, .cons h1 h2, r => by
    cases r with
    | cons r1 r2 =>
      obtain ⟨as, q1, n1⟩ := Dd.reads y I h1 r1
      obtain ⟨bs, q2, n2⟩ := DdAll.reads y I h2 r2
      refine ⟨as ++ bs, .cons q1 q2, fun z => ?_⟩
      rcases List.mem_append.mp z with z | z
      · exact n1 z
      · exact n2 z
end
end

/-- what repr can show -/
structure Shows (d : PyData) : Prop where
  ok : d.showable = true
  dp : d.depth ≤ 60
  sz : d.shown.length ≤ sizeLine

section
variable {X : Cx}
theorem call_repr (g : Quiet X.A) (hu : X.A.units + 64 < cLine) (y : Sys X.base) : CallR X (.builtin "repr") (fun xs H Q => ∃ v d, xs = [v] ∧ Dd X.K H v d ∧ Shows d ∧ Q (.str d.shown) H) := by
  intro pins s σ H xs us Q I r h
  obtain ⟨v, d, rfl, hd, S, q⟩ := h
  cases r with
  | cons rv rn =>
    cases rn
    rename_i u
    have fin : ∀ (x : Str) (t tk : Tok), x = d.shown → EP X pins σ Q (.str x t) { s with toks := tk } := by
      rintro x t tk rfl
      exact ⟨.str d.shown, H, I.tok tk, ⟨t, rfl⟩, q⟩
    have ref : ∀ a : Addr, u = .ref a → wpAny (model X.prog X.w) X.A (call (.builtin "repr") [.ref a]) (EP X pins σ Q) X.xe s := by
      intro a ea
      obtain ⟨as, hr, hn⟩ := Dd.reads y I hd rv
      rw [ea] at hr
      refine repr_of_reads' hr S.ok (fun _ => hn) g (by have := S.dp; omega) (fun _ _ e => e) ?_ S.sz
      intro h' t tk k
      exact ⟨.str d.shown, H, I.kept (t' := tk) k, ⟨t, rfl⟩, q⟩
    cases hd with
    | non =>
      cases rv
      exact PySem.P.repr_of_none (fin _ _ _ (by simp only [PyData.shown]))
    | bl b =>
      cases rv
      exact PySem.P.repr_of_bool (fin _ _ _ (by simp only [PyData.shown]))
    | int i =>
      obtain ⟨t, rfl⟩ := rv
      exact PySem.P.repr_of_int (by simpa [PyData.showable] using S.ok) (fin _ _ _ (by simp only [PyData.shown]))
    | str x =>
      obtain ⟨t, rfl⟩ := rv
      have z := S.sz
      simp only [PyData.shown] at z
      exact PySem.P.repr_of_str (fin _ _ _ (by simp only [PyData.shown])) z
    | lst hs ha =>
      cases rv
      exact ref _ rfl
    | tup hs ha =>
      cases rv
      exact ref _ rfl
    | dct hs ha =>
      cases rv
      exact ref _ rfl
end
end Hg

/-! enumerate(t), t a tuple. -/
namespace He1
open PySem
open Sem (wp)
set_option maxHeartbeats 1000000 in
theorem new1 {v : Value} {o : Obj} {G : Heap → Prop} (B : Begins v o G) :
    Meets (Builtin.«enumerate.__new__» ⟨[.type "enumerate", v], []⟩) (fun _ R s => G s.heap ∧
      R (.ok (.ret (.ref (s.heap.push o).objs.size)))
        { s with heap := (s.heap.push o).push { cls := .type "enumerate", data := .fields #[.none, .bool false, .ref s.heap.objs.size, rawInt 0, .none, .none] } }) :=
  .of_wp fun prog w A R s h => by
    obtain ⟨hp, g, d, tk, os⟩ := s
    obtain ⟨h1, h⟩ := h
    have hs := sub_enumerate
    have q : ∀ {A' : Around} {E : Value → Shared → Prop} {Q : Value → Shared → Prop}, Q (.ref hp.objs.size) ⟨hp.push o, g, d, tk, os⟩ →
        wpAny (model prog w) A' (pyIter v) Q E ⟨hp, g, d, tk, os⟩ := fun z => B.iter prog w _ _ ⟨hp, g, d, tk, os⟩ _ h1 z
    wp_walk using q
    refine wpAny_stack_any fun st => wpAny_pure ?_
    split
    · rename_i c _ _ _ _ _
      cases (c == Value.type "enumerate") <;> (wp_walk using q; exact ⟨_, rfl, h⟩)
    · wp_walk using q
      exact ⟨_, rfl, h⟩
section
variable {prog : Program} {w : World} {A : Around} {E : Value → Shared → Prop} {s : Shared}
theorem call1 {t : Addr} {items : Array Value} {Q : Value → Shared → Prop} (hT : s.heap.IsTuple t items)
    (h : ∀ h', IsEnum h' (s.heap.objs.size + 1) s.heap.objs.size 0 .none → h'.IsTupleIter s.heap.objs.size t 0 →
      (∀ b o, s.heap.get? b = some o → h'.get? b = some o) → Q (.ref (s.heap.objs.size + 1)) { s with heap := h' }) :
    wpAny (model prog w) A (call (.type "enumerate") [.ref t]) Q E s := by
  refine callType_new F.called_enumerate (by decide) (F.typeCall_enumerate_1 _) (F.newCall_enumerate_1 _) (fun obj => F.args_object_init_2 obj _) F.entry_enumerate_new
    (new1 (begins_tuple t items)) ⟨hT, ?_⟩
  generalize ho : ({ cls := .type "tuple_iterator", data := .fields #[.ref t, .int 0 0] } : Obj) = o
  have fr : o.isFreed = false := by rw [← ho]; rfl
  have hz : (s.heap.push o).objs.size = s.heap.objs.size + 1 := Heap.size_push ..
  show _ ∧ _
  rw [hz]
  generalize hoe : ({ cls := .type "enumerate", data := .fields #[.none, .bool false, .ref s.heap.objs.size, rawInt 0, .none, .none] } : Obj) = oe
  have he : ((s.heap.push o).push oe).get? (s.heap.objs.size + 1) = some oe := by
    have z := Heap.get?_push_size (s.heap.push o) (o := oe) (by rw [← hoe]; rfl)
    rw [hz] at z
    exact z
  have hi : ((s.heap.push o).push oe).get? s.heap.objs.size = some o := Heap.get?_push_of_some _ (Heap.get?_push_size _ fr)
  refine ⟨⟨oe, he, by rw [← hoe]⟩, h _ (by rw [← hoe] at he ⊢; exact he) ⟨o, hi, by rw [← ho], by rw [← ho]; rfl⟩ ?_⟩
  intro b ob x
  exact Heap.get?_push_of_some _ (Heap.get?_push_of_some _ x)
theorem end1 {e it t : Addr} {i j : Nat} {items : Array Value} {old : Value} {Q : Option Value → Shared → Prop} (hh : A.handled = none)
    (he : IsEnum s.heap e it i old) (hit : s.heap.IsTupleIter it t j) (ht : s.heap.IsTuple t items) (hx : items[j]? = none)
    (hQ : ∀ h', Heap.ExtBut it s.heap h' → Q none { s with heap := h' }) : wpAny (model prog w) A (pyNext (.ref e)) Q E s := by
  have hT : s.TypeIs (.ref e) "enumerate" := ⟨_, he, rfl⟩
  unfold pyNext
  refine wpAny_bind (wpAny_attempt (wpAny_callSpecial?_slot (name := Str.ofString "__next__") hT F.slot_enumerate_next ?_))
  refine wpAny_call_entry F.slot_enumerate_next hT F.entry_enumerate_next ?_ (F.args_enumerate_next_1 _)
  show wpAny _ _ (field (.ref e) 2 >>= _) _ _ _
  refine wpAny_bind (wpAny_field he rfl (x := .ref it) rfl (wpAny_bind (wpAny_nextOf_tuple_end hh hit ht hx ?_)))
  rintro h' x hx1 ⟨o, ho, hc⟩
  exact wpAny_bind (wpAny_isInstance (T := "StopIteration") (b := true) ⟨o, ho, hc⟩ isSubtype_stop (wpAny_pure (hQ _ hx1)))
end
end He1
namespace Hg
open PySem L2
open PySem.Spec PyProof.Rows
/-- the tuple at a, each item in a new pair -/
def Itet (K : PySem.W.Frag) (a : Addr) : It :=
  ⟨fun i H => ∃ (xs : List V) (x : V), SqT K H a xs ∧ xs[i]? = some x,
   fun i H v H' => ∃ T x, v = .ref T ∧ H T = none ∧ H' = upd H T (.tup [.int (i : Nat), x]) ∧ ∀ xs, SqT K H a xs → xs[i]? = some x,
   fun i H => ∃ xs : List V, SqT K H a xs ∧ xs.length ≤ i⟩
theorem two_of {b e it : Addr} (h : b ∈ [e, it]) : b = e ∨ b = it := by simpa using h
theorem turn_enumT {P : Program} {w : World} {K : PySem.W.Frag} {elts : List Expr} {kk : Nat} {tpos : Pos} (a e it : Addr) :
    Turn P w K (.Tuple elts kk tpos) (Itet K a) [e, it] e
      (fun i h => (∃ old, IsEnum h e it ((i : Nat) : Int) old) ∧ h.IsTupleIter it a i ∧ e ≠ it ∧ a ≠ it ∧ a ≠ e) where
  mem := by simp
  obj := by
    rintro i h ⟨⟨old, he⟩, ⟨o, ho, hc, hd⟩, _⟩ b hb
    rcases two_of hb with rfl | rfl
    · exact ⟨_, he, fun v z => nomatch z⟩
    · exact ⟨o, ho, fun v z => by rw [hd] at z; cases z⟩
  keep := by
    rintro i h h' ⟨⟨old, he⟩, hi, hne⟩ k
    exact ⟨⟨old, k e (by simp) _ he⟩, hi.at fun o z => k it (by simp) o z, hne⟩
  item := by
    intro X hP hw hK hc i pins s σ H E I hf st hg
    subst hP hw hK
    obtain ⟨⟨old, he⟩, hit, hne, hai, hae⟩ := st
    obtain ⟨xs, x, hq, hx⟩ := hg
    obtain ⟨its, rv, p, hz⟩ := I.tuple hq
    obtain ⟨u, hu, ru⟩ := rv.get hx
    have hel : e < s.heap.objs.size := Heap.lt_size he
    have hil : it < s.heap.objs.size := by
      obtain ⟨_, z, _⟩ := hit
      exact Heap.lt_size z
    have hT : s.heap.IsTuple a its.toArray := p
    have D := Draws.tuple (prog := X.prog) (w := X.w) (A := X.A.in1) (I.ok.hd hc) it a hai its.toArray
    have hlen : i < its.toArray.size := by
      obtain ⟨z, _⟩ := List.getElem?_eq_some_iff.mp hu
      simpa using z
    refine wpAny_pyNext_enum_itemC (c := ((i : Nat) : Int)) D he ⟨hit, hT⟩ hlen hne (by simp [hne, Ne.symm hae]) ?_
    intro x' h' tk hP' ho st' hT' hsz hk
    have ex : x' = u := by
      have z : its.toArray[i]? = some x' := hP'
      have z2 : its.toArray[i]? = some u := by simpa using hu
      rw [z2] at z
      exact (Option.some.inj z).symm
    subst ex
    refine ⟨_, rfl, wpAny_letOwnedTupleGo_enum (s := { s with heap := h', toks := tk + 1 }) ho ?_⟩
    intro h'' he' sb
    have hT2 : h''.get? s.heap.objs.size = some { cls := .type "tuple", data := .seq #[.int i tk, x'] } := (sb.2 _ (Nat.ne_of_gt hel)).trans hT'
    have new : ObjOk X.prog X.w (upd H s.heap.objs.size (.tup [.int (i : Nat), x])) h'' s.heap.objs.size (.tup [.int (i : Nat), x]) :=
      ⟨by show 2 ≤ sizeLine; decide, [.int i tk, x'], .cons ⟨_, rfl⟩ (.cons ru .nil), ⟨_, hT2, rfl, _, rfl⟩⟩
    have I1 : Inv X pins σ (upd H s.heap.objs.size (.tup [.int (i : Nat), x])) { s with heap := h'', toks := tk + 1 } := by
      refine I.turnedNew (ch := [e, it]) ?_ hf (Nat.le_refl _) new
      intro b ob hb z
      have n1 : b ≠ e := fun y => hb (by simp [y])
      have n2 : b ≠ it := fun y => hb (by simp [y])
      exact (sb.2 b n1).trans (hk b ob n1 n2 z)
    refine ⟨.ref s.heap.objs.size, _, I1, rfl, ⟨_, x, rfl, I.hok.fresh (Nat.le_refl _), rfl, ?_⟩, ⟨⟨x', ?_⟩, st'.1.at fun o z => (sb.2 it (Ne.symm hne)).trans z, hne, hai, hae⟩, ?_⟩
    · intro ys hy
      rw [I.tuple_inj hy hq]
      exact hx
    · have e1 : ((i + 1 : Nat) : Int) = (i : Int) + 1 := by omega
      rw [e1]
      exact he'
    · intro b hb
      have hb' : b < s.heap.objs.size := by
        rcases two_of hb with rfl | rfl
        · exact hel
        · exact hil
      rw [upd_ne (Nat.ne_of_lt hb')]
      exact (hf b hb).1
  done := by
    intro X hP hw hK hc i pins s σ H E I hf st hg
    subst hP hw hK
    obtain ⟨⟨old, he⟩, hit, hne, hai, hae⟩ := st
    obtain ⟨xs, hq, hx⟩ := hg
    obtain ⟨its, rv, p, hz⟩ := I.tuple hq
    have hT : s.heap.IsTuple a its.toArray := p
    obtain ⟨f0, f1, f2, f3, f4, f5⟩ := hf it (by simp)
    have hl := rv.length
    exact He1.end1 (I.ok.hd hc) he hit hT (by simp; omega) fun h' eb => ⟨rfl, I.turned (t' := s.toks) (fun b o hb z => eb b o hb z) f0 f1 f3 f4 f5⟩
  self := by
    rintro A i s Q E ⟨⟨_, he⟩, _⟩ h
    exact wpAny_pyIter_enum he h
def iEnumT (K : PySem.W.Frag) (ta : TA) : TI := fun σ H R => ta σ H fun vs H1 => ∃ a xs, vs = [.ref a] ∧ SqT K H1 a xs ∧ R (Itet K a) H1
theorem pi_enumT {X : Cx} {e : Expr} {ta : TA} {p pos tpos : Pos} {elts : List Expr} {kk : Nat} (hg : Gl X "enumerate") (hm : X.mg "enumerate" = none) (ha : PA X [e] ta)
    (hs : starEach [e] X.env = [(false, eval e X.env)] := by rfl) :
    PI X (.Tuple elts kk tpos) (.Call (.Name "enumerate" p) [e] [] pos) (iEnumT X.K ta) := by
  refine ⟨fun pins s σ H R I h => ?_⟩
  refine Call_ (ld_blt I hg hm boot_enumerate (PyProof.Rows.callWith_type1 (thn (ha.run pos pins s σ H _ I h) ?_) hs rfl))
  rintro us s1 ⟨vs, H1, I1, r1, a, xs, ex, hq, q⟩
  subst ex
  cases r1 with
  | cons r rr =>
    cases rr
    cases r
    obtain ⟨its, rv, p', hz⟩ := I1.tuple hq
    have la : a < s1.heap.objs.size := p'.lt
    refine He1.call1 p' fun h' he hit hk => wpAny_pyIter_enum he ?_
    have I2 : Inv X pins σ H1 { s1 with heap := h' } := I1.kept (t' := s1.toks) hk
    refine ⟨s1.heap.objs.size + 1, [s1.heap.objs.size + 1, s1.heap.objs.size], _, _, H1, rfl, I2, turn_enumT a (s1.heap.objs.size + 1) s1.heap.objs.size,
      ⟨⟨.none, he⟩, hit, Nat.succ_ne_self _, Nat.ne_of_lt la, Nat.ne_of_lt (Nat.lt_succ_of_lt la)⟩, ?_, q⟩
    intro b hb
    have hle : s1.heap.objs.size ≤ b := by
      rcases two_of hb with z | z
      · rw [z]; exact Nat.le_add_right _ _
      · rw [z]; exact Nat.le_refl _
    exact I1.fpOk hle (I1.hok.fresh hle)
theorem walk_enumT {K : PySem.W.Frag} {a : Addr} {xs : List V} : Walk (Itet K a) xs.length (fun H => SqT K H a xs) (YPair (fun i => some (.int (i : Nat))) (fun i => xs[i]?)) := by
  refine ⟨fun i _ hi q => ⟨xs, xs[i], q, by simp [hi]⟩, fun _ q => ⟨xs, q, Nat.le_refl _⟩, ?_⟩
  rintro i H v H' _ q ⟨T, x, h1, h2, h3, h4⟩
  exact ⟨T, .int (i : Nat), x, h1, h2, h3, rfl, h4 xs q⟩
end Hg

/-! Data in heaps that grow: what it is, how it is asked. -/
namespace Hg
open PySem L2 Evl
open PySem.Spec PyProof.Rows

section
variable {K : PySem.W.Frag} {H H' : Hp} {v : V} {d : PyData}
mutual
theorem Dd.ex (e : Ex H H') : ∀ {v : V} {d : PyData}, Dd K H v d → Dd K H' v d
  | _, _, .non => .non
  | _, _, .bl b => .bl b
  | _, _, .int i => .int i
  | _, _, .str x => .str x
  | _, _, .lst h ha => .lst (ex_l e h) (ha.ex e)
  | _, _, .tup h ha => .tup (ex_t e h) (ha.ex e)
  | _, _, .dct h ha => .dct (ex_rd e h) (ha.ex e)
theorem DdAll.ex (e : Ex H H') : ∀ {vs : List V} {ds : List PyData}, DdAll K H vs ds → DdAll K H' vs ds
  | _, _, .nil => .nil
  | _, _, .cons h ha => .cons (h.ex e) (ha.ex e)
end
theorem DdAll.get : ∀ {vs : List V} {ds : List PyData} {i : Nat} {v : V}, DdAll K H vs ds → vs[i]? = some v → ∃ d, ds[i]? = some d ∧ Dd K H v d
  | _, _, _, _, .nil, e => by simp at e
  | _, _, 0, _, .cons h _, e => by
    simp at e
    subst e
    exact ⟨_, rfl, h⟩
  | _, _, i + 1, _, .cons _ ha, e => ha.get (i := i) (by simpa using e)
theorem DdAll.append : ∀ {vs ws : List V} {ds es : List PyData}, DdAll K H vs ds → DdAll K H ws es → DdAll K H (vs ++ ws) (ds ++ es)
  | _, _, _, _, .nil, b => b
  | _, _, _, _, .cons h a, b => .cons h (a.append b)

/-- the name of a datum's type -/
def tyD : PyData → String
  | .none => "NoneType"
  | .bool _ => "bool"
  | .int _ => "int"
  | .str _ => "str"
  | .list _ => "list"
  | .tuple _ => "tuple"
  | .dict _ => "dict"
theorem tyX_of (h : Dd K H v d) : TyX K H v (.type (tyD d)) := by
  cases h with
  | non => exact .base .non
  | bl b => exact .base (.bl b)
  | int i => exact .base (.int i)
  | str x => exact .base (.str x)
  | lst hs _ =>
    rcases hs with (h | ⟨o, h⟩) | ⟨o, its, n, h, c, _⟩
    · exact .base (.lst h)
    · exact .base (.frz h)
    · exact .kList h c
  | tup hs _ =>
    rcases hs with (h | ⟨o, h⟩) | ⟨o, its, n, h, c, _⟩
    · exact .base (.tup h)
    · exact .fTuple h
    · exact .kTuple h c
  | dct hs _ =>
    rcases hs with h | ⟨o, h⟩
    · exact .base (.dK h)
    · exact .fDict h
/-- isinstance(d, T), T a built-in type -/
def isT (T : String) (d : PyData) : Bool := (kitB (tyD d) T).getD false
theorem kit_all : (["NoneType", "bool", "int", "str", "list", "tuple", "dict"].all fun n => ["int", "bool", "str", "tuple", "list", "dict"].all fun T => kitB n T == some ((kitB n T).getD false)) = true := by decide +kernel
theorem kit_at (d : PyData) (T : String) (hT : T ∈ ["int", "bool", "str", "tuple", "list", "dict"]) : kitB (tyD d) T = some (isT T d) := by
  have h : tyD d ∈ ["NoneType", "bool", "int", "str", "list", "tuple", "dict"] := by cases d <;> simp [tyD]
  exact beq_iff_eq.mp (List.all_eq_true.mp (List.all_eq_true.mp kit_all _ h) T hT)
theorem kit_int (d : PyData) : kitB (tyD d) "int" = some (isT "int" d) := kit_at d _ (by simp)
theorem kit_bool (d : PyData) : kitB (tyD d) "bool" = some (isT "bool" d) := kit_at d _ (by simp)
theorem kit_str (d : PyData) : kitB (tyD d) "str" = some (isT "str" d) := kit_at d _ (by simp)
theorem kit_tuple (d : PyData) : kitB (tyD d) "tuple" = some (isT "tuple" d) := kit_at d _ (by simp)
theorem rc_isi {T : String} (h : Dd K H v d) (k : kitB (tyD d) T = some (isT T d)) : RC (rIsi K) [v, .ty T] H (.bl (isT T d)) :=
  fun H1 e Q q => ⟨v, .ty T, _, _, _, rfl, .ty T, tyX_of (h.ex e), kit_ty k, q H1 (Ex.refl H1)⟩
/-- isinstance(e, T) -/
theorem ev_isi {te : TE} {σ : L2.St} {T : String} (he : Ev te σ H v) (h : Dd K H v d) (k : kitB (tyD d) T = some (isT T d)) :
    Ev (tCB (rIsi K) (tCons te (tCons (tC (.ty T)) tNil))) σ H (.bl (isT T d)) :=
  ev_cb (ea_cons he (ea_cons ev_c ea_nil)) (rc_isi h k)
def isWhole : PyData → Bool
  | .int _ => true
  | _ => false
def tab (T : String) : List Bool := ["NoneType", "bool", "int", "str", "list", "tuple", "dict"].map fun n => (kitB n T).getD false
theorem tab_int : tab "int" = [false, true, true, false, false, false, false] := by decide +kernel
theorem tab_bool : tab "bool" = [false, true, false, false, false, false, false] := by decide +kernel
theorem tab_str : tab "str" = [false, false, false, true, false, false, false] := by decide +kernel
theorem tab_tuple : tab "tuple" = [false, false, false, false, false, true, false] := by decide +kernel
def tyN : PyData → Nat
  | .none => 0
  | .bool _ => 1
  | .int _ => 2
  | .str _ => 3
  | .list _ => 4
  | .tuple _ => 5
  | .dict _ => 6
theorem isT_tab (T : String) (d : PyData) : some (isT T d) = (tab T)[tyN d]? := by cases d <;> rfl
theorem isT_int (d : PyData) : isT "int" d = (match d with | .int _ => true | .bool _ => true | _ => false) := by
  have h := isT_tab "int" d
  rw [tab_int] at h
  cases d <;> exact Option.some.inj h
theorem isT_bool (d : PyData) : isT "bool" d = (match d with | .bool _ => true | _ => false) := by
  have h := isT_tab "bool" d
  rw [tab_bool] at h
  cases d <;> exact Option.some.inj h
def isTup : PyData → Bool
  | .tuple _ => true
  | _ => false
def isStr : PyData → Bool
  | .str _ => true
  | _ => false
theorem isT_tuple (d : PyData) : isT "tuple" d = isTup d := by
  have h := isT_tab "tuple" d
  rw [tab_tuple] at h
  cases d <;> exact Option.some.inj h
theorem isT_str (d : PyData) : isT "str" d = isStr d := by
  have h := isT_tab "str" d
  rw [tab_str] at h
  cases d <;> exact Option.some.inj h
theorem isWhole_eq (d : PyData) : (isT "int" d && !isT "bool" d) = isWhole d := by
  rw [isT_int, isT_bool]
  cases d <;> rfl
end
/-- a call, to a value -/
theorem ev_d {H : Hp} {σ : L2.St} {sp : Sp} {vs : List V} {E : XK} {ta : TA} {z : V} (h : EvA ta σ H vs) (hs : SpV sp vs H z) : Ev (tCall sp [] E ta) σ H z :=
  ev_call h (by rw [List.append_nil]; exact hs)
/-- a promise: a truth value of the arguments' data -/
def spB (K : PySem.W.Frag) (n : Nat) (pre : List PyData → Prop) (f : List PyData → Bool) : Sp := fun vs H Q _ =>
  ∃ ds, DdAll K H vs ds ∧ ds.length = n ∧ pre ds ∧ ∀ H2, Ex H H2 → Q (.bl (f ds)) H2
theorem spB_go {K : PySem.W.Frag} {H : Hp} {n : Nat} {pre : List PyData → Prop} {f : List PyData → Bool} {vs : List V} {ds : List PyData} (h : DdAll K H vs ds) (hl : ds.length = n) (hp : pre ds) :
    SpV (spB K n pre f) vs H (.bl (f ds)) := fun H1 e Q q E => ⟨ds, h.ex e, hl, hp, q⟩
theorem spB_len {K : PySem.W.Frag} {H : Hp} {n : Nat} {pre : List PyData → Prop} {f : List PyData → Bool} {vs : List V} {Q : VK} {E : XK} (h : spB K n pre f vs H Q E) : vs.length = n := by
  obtain ⟨ds, a, b, _⟩ := h
  rw [a.length, b]
end Hg

/-! Comprehensions over tuples, texts, pairs; all(..); sizes. -/
namespace Hg
open PySem L2 Evl
open PySem.Spec PyProof.Rows

mutual
/-- no list, tuple, text of more than a thousand -/
def small : PyData → Bool
  | .list xs => decide (xs.length ≤ 1000) && smallAll xs
  | .tuple xs => decide (xs.length ≤ 1000) && smallAll xs
  | .str x => decide (x.length ≤ 1000)
  | _ => true
def smallAll : List PyData → Bool
  | [] => true
  | d :: ds => small d && smallAll ds
end
theorem smallAll_mem : ∀ {ds : List PyData} {d : PyData}, smallAll ds = true → d ∈ ds → small d = true
  | [], _, _, h => nomatch h
  | c :: ds, d, s, h => by
    have s' : (small c && smallAll ds) = true := by simpa only [smallAll] using s
    obtain ⟨s1, s2⟩ := Bool.and_eq_true_iff.mp s'
    rcases List.mem_cons.mp h with rfl | h
    · exact s1
    · exact smallAll_mem s2 h
theorem small_tuple {ds : List PyData} (s : small (.tuple ds) = true) : ds.length ≤ 1000 ∧ smallAll ds = true := by
  have s' : (decide (ds.length ≤ 1000) && smallAll ds) = true := by simpa only [small] using s
  obtain ⟨s1, s2⟩ := Bool.and_eq_true_iff.mp s'
  exact ⟨of_decide_eq_true s1, s2⟩
theorem small_str {x : Str} (s : small (.str x) = true) : x.length ≤ 1000 := by
  have s' : decide (x.length ≤ 1000) = true := by simpa only [small] using s
  exact of_decide_eq_true s'

section
variable {K : PySem.W.Frag} {σ : L2.St} {H H' : Hp} {te : TE} {t : TT} {x y z v : V}
theorem et_yes : EvT tYes σ H true := fun H1 e Q q => q H1 (Ex.refl H1)
theorem given_all {n : Nat} {v : Nat → V} : given n (fun _ => true) v = (List.range n).map v := by
  unfold given
  rw [List.filter_eq_self.mpr (fun _ _ => rfl)]
/-- over a tuple -/
theorem el_lcT {a : Addr} {xs : List V} {tl : TE} {j : Nat} {vs : List Nat} (f : Nat → Bool) (v : Nat → V) (h : Ev tl σ H (.ref a)) (hx : SqT K H a xs) (hz : xs.length ≤ 40000)
    (hw : ∀ x, wipe ((wipe σ vs).set j (some x)) vs = wipe σ vs)
    (ht : ∀ (i : Nat) (x : V) H1, Ex H H1 → xs[i]? = some x → EvT t ((wipe σ vs).set j (some x)) H1 (f i))
    (he : ∀ (i : Nat) (x : V) H1, Ex H H1 → xs[i]? = some x → f i = true → Ev te ((wipe σ vs).set j (some x)) H1 (v i)) :
    EvL (tLc (iTup K tl) (gName j) t te vs) σ H (given xs.length f v) := by
  intro H0 e Q q
  refine h H0 e _ fun H1 e1 => ⟨a, rfl, ⟨xs, ex_t (e.trans e1) hx⟩, fun Dl hD => ?_⟩
  refine lc_tup (xs := xs) (Cw H1 f v Dl) ⟨hD, Ex.new hD, upd_same⟩ (fun i H' _ p => ex_t ((e.trans e1).trans p.2.1) hx) ?_ fun H' p => q Dl H' (fresh_back e1 p.1) (e1.trans p.2.1) p.2.2
  intro i x H' hi p
  have hl := (List.getElem?_eq_some_iff.mp hi).1
  exact ⟨hw x, cw_turn p (by omega) (ht i x H1 (e.trans e1) hi) (he i x H1 (e.trans e1) hi)⟩
/-- over a text -/
theorem el_lcS {w : Str} {tl : TE} {j : Nat} {vs : List Nat} (f : Nat → Bool) (v : Nat → V) (h : Ev tl σ H (.str w)) (hz : w.cps.size ≤ 40000)
    (hw : ∀ x, wipe ((wipe σ vs).set j (some x)) vs = wipe σ vs)
    (ht : ∀ (i : Nat) (c : Nat) H1, Ex H H1 → w.cps[i]? = some c → EvT t ((wipe σ vs).set j (some (.str ⟨#[c]⟩))) H1 (f i))
    (he : ∀ (i : Nat) (c : Nat) H1, Ex H H1 → w.cps[i]? = some c → f i = true → Ev te ((wipe σ vs).set j (some (.str ⟨#[c]⟩))) H1 (v i)) :
    EvL (tLc (iStr tl) (gName j) t te vs) σ H (given w.cps.size f v) := by
  intro H0 e Q q
  refine h H0 e _ fun H1 e1 => ⟨w, rfl, fun Dl hD => ?_⟩
  refine lc_it walk_str (Cw H1 f v Dl) ⟨hD, Ex.new hD, upd_same⟩ (fun _ _ _ _ => trivial) ?_ fun H' p => q Dl H' (fresh_back e1 p.1) (e1.trans p.2.1) p.2.2
  rintro i x H' H'' hi p ⟨rfl, c, hc, rfl⟩
  exact ⟨hw _, cw_turn p (by omega) (ht i c H1 (e.trans e1) hc) (he i c H1 (e.trans e1) hc)⟩
/-- over range(n), n perhaps below nought -/
theorem el_lcR1' {ta : TA} {j : Nat} {vs : List Nat} {n : Int} (f : Nat → Bool) (v : Nat → V) (h : EvA ta σ H [.int n]) (hn : -40000 ≤ n ∧ n ≤ 40000) (hw : ∀ x, wipe ((wipe σ vs).set j (some x)) vs = wipe σ vs)
    (ht : ∀ (i : Nat) H1, Ex H H1 → (i : Int) < n → EvT t ((wipe σ vs).set j (some (.int (i : Int)))) H1 (f i))
    (he : ∀ (i : Nat) H1, Ex H H1 → (i : Int) < n → f i = true → Ev te ((wipe σ vs).set j (some (.int (i : Int)))) H1 (v i)) :
    EvL (tLc (iRng1 ta) (gName j) t te vs) σ H (given n.toNat f v) := by
  intro H0 e Q q
  refine h H0 e _ fun H1 e1 => ⟨n, rfl, by omega, by omega, fun Dl hD => ?_⟩
  refine lc_range (lo := 0) (n := n.toNat) (Cw H1 f v Dl) ⟨hD, Ex.new hD, upd_same⟩ ?_ fun H' p => q Dl H' (fresh_back e1 p.1) (e1.trans p.2.1) p.2.2
  intro i H' hi p
  have e0 : (0 : Int) + (i : Int) = (i : Int) := Int.zero_add _
  rw [e0]
  exact ⟨hw _, cw_turn p (by omega) (ht i H1 (e.trans e1) (by omega)) (he i H1 (e.trans e1) (by omega))⟩
theorem ev_all {bs : List Bool} (h : EvL te σ H (bs.map V.bl)) : Ev (tCB (rAll K) (tCons te tNil)) σ H (.bl (bs.all id)) := by
  intro H1 e Q q
  refine h H1 e _ fun p H2 _ e2 hp => ?_
  exact ⟨p, bs, rfl, sq_of hp, q H2 e2⟩
/-- a op1 b op2 c, values; b once -/
theorem ev_chain {r r' : R2} {ta tb tc : TE} {p q : Bool} (ha : Ev ta σ H x) (hb : Ev tb σ H y) (hc : p = true → Ev tc σ H z) (h1 : RV r x y H (.bl p)) (h2 : p = true → RV r' y z H (.bl q)) :
    Ev (tChain r r' ta tb tc) σ H (.bl (p && q)) := by
  intro H1 e Q k
  refine ha H1 e _ fun H2 e2 => hb H2 (e.trans e2) _ fun H3 e3 => h1 H3 ((e.trans e2).trans e3) _ fun H4 e4 => ⟨p, rfl, ?_⟩
  have e14 := (e2.trans e3).trans e4
  cases p with
  | true => exact iteT (hc rfl H4 (e.trans e14) _ fun H5 e5 => h2 rfl H5 ((e.trans e14).trans e5) Q fun H6 e6 => k H6 ((e14.trans e5).trans e6))
  | false => exact iteF (k H4 e14)
/-- len -/
theorem ev_lenT {a : Addr} {xs : List V} (h : Ev te σ H (.ref a)) (hx : SqT K H a xs) : Ev (tCB (fun vs H Q => ∃ x n, vs = [x] ∧ LenV K x H n ∧ Q (.int n) H) (tCons te tNil)) σ H (.int xs.length) := by
  intro H1 e Q q
  refine h H1 e _ fun H2 e2 => ⟨_, xs.length, rfl, Or.inr ⟨xs, ex_t (e.trans e2) hx, rfl⟩, q H2 e2⟩
theorem ev_lenS {w : Str} (h : Ev te σ H (.str w)) (hz : w.length ≤ 1000) : Ev (tCB (fun vs H Q => ∃ x n, vs = [x] ∧ LenV K x H n ∧ Q (.int n) H) (tCons te tNil)) σ H (.int w.length) := by
  intro H1 e Q q
  exact h H1 e _ fun H2 e2 => ⟨_, w.length, rfl, ⟨Nat.le_of_lt (small1000 hz), rfl⟩, q H2 e2⟩
end
section
variable {X : Cx}
/-! rules that read the written part, for a block (its K is the def's) -/
theorem ix_tupK (K : PySem.W.Frag) (h : X.K = K := by rfl) : IxR X (rIxT K) := h ▸ ix_tup
theorem ix_listK (K : PySem.W.Frag) (h : X.K = K := by rfl) : IxR X (rIxL K) := h ▸ ix_list
theorem call_isiAt (K : PySem.W.Frag) (h : X.K = K := by rfl) : CallR X (.builtin "isinstance") (rIsi K) := h ▸ call_isi
theorem pg_tupK (K : PySem.W.Frag) {es : List Expr} {k : Nat} {pos : Pos} {t : TGs} {n : Nat} (hc : X.calm = true) (hh : PGs X es t)
    (hn : (assignEach es X.env).length = n := by rfl) (hst : (assignEach es X.env).findIdx? (·.1) = none := by rfl) (h : X.K = K := by rfl) : PG X (.Tuple es k pos) (gTup K n t) := h ▸ pg_tup hc hh hn hst
theorem op_inK (K : PySem.W.Frag) (h : X.K = K := by rfl) : OpR X (compareOp .In) (rIn K false) := h ▸ op_in_seq
theorem op_ninK (K : PySem.W.Frag) (h : X.K = K := by rfl) : OpR X (compareOp .NotIn) (rIn K true) := h ▸ op_notIn_seq
end
end Hg

namespace Bk
open PySem L2 Evl Hg
def top (i : Nat) : PySem.Stmt := PySem.Challenge.pw_housewardens_k51_barred_books.main.body.getD i (.Pass ⟨0, 0, 0, 0⟩)
abbrev s_is_integer : PySem.Stmt := top 8
abbrev s_is_between : PySem.Stmt := top 9
abbrev s_are_between : PySem.Stmt := top 10
abbrev s_do_ascend : PySem.Stmt := top 11
abbrev s_are_ascending : PySem.Stmt := top 12
abbrev s_are_letters : PySem.Stmt := top 13
abbrev s_is_tuple_of : PySem.Stmt := top 14
structure Tx (K : PySem.W.Frag) (mg : Str → Option Value) : Prop where
  b_isinstance : mg "isinstance" = none
  b_int : mg "int" = none
  b_bool : mg "bool" = none
  b_tuple : mg "tuple" = none
  b_str : mg "str" = none
  b_all : mg "all" = none
  b_range : mg "range" = none
  b_len : mg "len" = none
/-- a def that may be called by its name -/
structure Df (P : Program) (w : World) (K : PySem.W.Frag) (mg : Str → Option Value) (base : Heap) (k : Nat) (x : Str) (sp : Sp) : Prop where
  ex : ∃ (f : Addr) (fd : FuncData) (ps : List Str), FnOk P w K mg base CX0 k f fd ps sp ∧ mg x = some (.ref f) ∧ PySem.W.keepIn K (.ref f) = true ∧ Binds K fd ps []
section
variable {X : Cx} {k j : Nat} {x : Str} {sp : Sp} {p pos : Pos} {e : Expr} {es : List Expr} {t : TA}
theorem pe_d (c : Df X.prog X.w X.K X.mg X.base k x sp) (hr : Room j X.A) (hk : k ≤ j) (hg : Gl X x) (ha : PA X (e :: es) t)
    (hdb : (x == ("__debug__" : Str)) = false := by decide) (he : starEach (e :: es) X.env = (false, eval e X.env) :: starEach es X.env := by rfl)
    (hpl : (backTo pos (starEach es X.env)).any (·.1) = false := by rfl) :
    PE X (.Call (.Name x p) (e :: es) [] pos) (tCall sp [] E0 t) := by
  obtain ⟨f, fd, ps, F, hm, kp, b⟩ := c.ex
  exact pe_call F (hr.mono hk) hg hm kp b .nil pass0 ha hdb he hpl
end
/-! the mathematics -/
def betw (lo hi : Int) : PyData → Bool
  | .int i => decide (lo ≤ i) && decide (i ≤ hi)
  | _ => false
def areBetw (lo hi : Int) : PyData → Bool
  | .tuple ds => ds.all (betw lo hi)
  | _ => false
def intOf : PyData → Int
  | .int i => i
  | _ => 0
/-- each one less than the next -/
def asc : List Int → Bool
  | a :: b :: r => decide (a < b) && asc (b :: r)
  | _ => true
def areAsc (lo hi : Int) : PyData → Bool
  | .tuple ds => ds.all (betw lo hi) && asc (ds.map intOf)
  | _ => false
def codesI (x : Str) : List Int := x.cps.toList.map Int.ofNat
def isHeard : PyData → Bool
  | .str x => x.cps.toList.all (fun c => decide (97 ≤ c) && decide (c ≤ 122)) && asc (codesI x)
  | _ => false
def hasLen (n : Int) : PyData → Bool
  | .tuple ds => decide ((ds.length : Int) = n)
  | _ => false
theorem asc_range (ns : List Int) : asc ns = ((List.range (ns.length - 1)).map fun i => decide (ns.getD i 0 < ns.getD (i + 1) 0)).all id := by
  induction ns with
  | nil => rfl
  | cons a r ih =>
    cases r with
    | nil => rfl
    | cons b r =>
      show (decide (a < b) && asc (b :: r)) = _
      rw [ih]
      show _ = ((List.range (r.length + 1)).map fun i => decide ((a :: b :: r).getD i 0 < (a :: b :: r).getD (i + 1) 0)).all id
      rw [List.range_succ_eq_map, List.map_cons, List.all_cons, List.map_map]
      rfl
theorem ints_of {K : PySem.W.Frag} {H : Hp} {lo hi : Int} : ∀ {vs : List V} {ds : List PyData}, DdAll K H vs ds → ds.all (betw lo hi) = true → vs = (ds.map intOf).map V.int
  | _, _, .nil, _ => rfl
  | _, _, .cons (v := v) (d := d) h ha, e => by
    rw [List.all_cons, Bool.and_eq_true] at e
    have z := ints_of ha e.2
    cases h with
    | int i =>
      rw [z]
      rfl
    | non => exact absurd e.1 (by simp [betw])
    | bl b => exact absurd e.1 (by simp [betw])
    | str x => exact absurd e.1 (by simp [betw])
    | lst _ _ => exact absurd e.1 (by simp [betw])
    | tup _ _ => exact absurd e.1 (by simp [betw])
    | dct _ _ => exact absurd e.1 (by simp [betw])
/-! the promises -/
def sp1 (K : PySem.W.Frag) (f : PyData → Bool) : Sp := fun vs H Q _ => ∃ v d, vs = [v] ∧ Dd K H v d ∧ small d = true ∧ ∀ H2, Ex H H2 → Q (.bl (f d)) H2
def sp3 (K : PySem.W.Frag) (f : Int → Int → PyData → Bool) : Sp := fun vs H Q _ => ∃ v d lo hi, vs = [v, .int lo, .int hi] ∧ Dd K H v d ∧ small d = true ∧ ∀ H2, Ex H H2 → Q (.bl (f lo hi d)) H2
def sp2 (K : PySem.W.Frag) (f : Int → PyData → Bool) : Sp := fun vs H Q _ => ∃ v d n, vs = [v, .int n] ∧ Dd K H v d ∧ small d = true ∧ ∀ H2, Ex H H2 → Q (.bl (f n d)) H2
/-- a tuple of ints, or a text -/
def spAsc (K : PySem.W.Frag) : Sp := fun vs H Q _ =>
  (∃ a ns, vs = [.ref a] ∧ SqT K H a (ns.map V.int) ∧ ns.length ≤ 1000 ∧ ∀ H2, Ex H H2 → Q (.bl (asc ns)) H2) ∨
  (∃ x : Str, vs = [.str x] ∧ x.length ≤ 1000 ∧ ∀ H2, Ex H H2 → Q (.bl (asc (codesI x))) H2)
section
variable {K : PySem.W.Frag} {H : Hp}
theorem go1 {f : PyData → Bool} {v : V} {d : PyData} (h : Dd K H v d) (s : small d = true) : SpV (sp1 K f) [v] H (.bl (f d)) := fun H1 e Q q E => ⟨v, d, rfl, h.ex e, s, q⟩
theorem go3 {f : Int → Int → PyData → Bool} {v : V} {d : PyData} {lo hi : Int} (h : Dd K H v d) (s : small d = true) : SpV (sp3 K f) [v, .int lo, .int hi] H (.bl (f lo hi d)) := fun H1 e Q q E => ⟨v, d, lo, hi, rfl, h.ex e, s, q⟩
theorem go2 {f : Int → PyData → Bool} {v : V} {d : PyData} {n : Int} (h : Dd K H v d) (s : small d = true) : SpV (sp2 K f) [v, .int n] H (.bl (f n d)) := fun H1 e Q q E => ⟨v, d, n, rfl, h.ex e, s, q⟩
theorem goAT {a : Addr} {ns : List Int} (h : SqT K H a (ns.map V.int)) (s : ns.length ≤ 1000) : SpV (spAsc K) [.ref a] H (.bl (asc ns)) := fun H1 e Q q E => Or.inl ⟨a, ns, rfl, ex_t e h, s, q⟩
theorem goAS {x : Str} (s : x.length ≤ 1000) : SpV (spAsc K) [.str x] H (.bl (asc (codesI x))) := fun H1 e Q q E => Or.inr ⟨x, rfl, s, q⟩
end
section
variable {P : Program} {w : World} {K : PySem.W.Frag} {mg : Str → Option Value} {base : Heap}
theorem sc_is_integer : FnScope ["thing"] ["thing"] (defScope s_is_integer) := ⟨rfl, rfl, rfl, by decide +kernel, rfl, by decide +kernel, by decide +kernel⟩
theorem ok_is_integer {f : Addr} {fd : FuncData} (F : Fun K "is_integer" "is_integer" s_is_integer f fd) (T : Tx K mg) :
    FnOk P w K mg base CX0 1 f fd ["thing"] (sp1 K isWhole) := by
  refine F.ok sc_is_integer (fun vs H Q E h => by obtain ⟨v, d, rfl, _⟩ := h; rfl) (fun cdv A outer s H vs Q E hr h => ?_)
  obtain ⟨v, d, rfl, hd, sm, k⟩ := h
  refine ⟨_, (pss_one (ps_ret (pe_and (pe_callB call_isi (by rfl) T.b_isinstance (by decide +kernel) (pa_cons (pv 0) (pa_cons (pe_bltn (v := .ty "int") rfl T.b_int (by decide +kernel) rfl) pa_nil))) (pe_one (pe_not (pe_callB call_isi (by rfl) T.b_isinstance (by decide +kernel) (pa_cons (pv 0) (pa_cons (pe_bltn (v := .ty "bool") rfl T.b_bool (by decide +kernel) rfl) pa_nil)))))))), ?_⟩
  refine s_ret (ev_andV (ev_isi (ev_var rfl) hd (kit_int d)) (fun _ => ev_notV (ev_isi (ev_var rfl) hd (kit_bool d)))) (fun H1 e => ?_)
  rw [isWhole_eq]
  exact k H1 e
theorem sc_is_between : FnScope ["thing", "low", "high"] ["thing", "low", "high"] (defScope s_is_between) := ⟨rfl, rfl, rfl, by decide +kernel, rfl, by decide +kernel, by decide +kernel⟩
theorem ok_is_between {f : Addr} {fd : FuncData} (F : Fun K "is_between" "is_between" s_is_between f fd) (T : Tx K mg) (G : Df P w K mg base 1 "is_integer" (sp1 K isWhole)) :
    FnOk P w K mg base CX0 2 f fd ["thing", "low", "high"] (sp3 K betw) := by
  refine F.ok sc_is_between (fun vs H Q E h => by obtain ⟨v, d, lo, hi, rfl, _⟩ := h; rfl) (fun cdv A outer s H vs Q E hr h => ?_)
  obtain ⟨v, d, lo, hi, rfl, hd, sm, k⟩ := h
  refine ⟨_, (pss_one (ps_ret (pe_and (pe_d G hr (by decide) rfl (pa_cons (pv 0) pa_nil)) (pe_one (pe_chain op_le op_le (pv 1) (pv 0) (pv 2)))))), ?_⟩
  have i0 : Ev (tCall (sp1 K isWhole) [] E0 (tCons (tVar 0) tNil)) (start ["thing", "low", "high"] [v, .int lo, .int hi]) H (.bl (isWhole d)) := ev_d (ea_cons (ev_var rfl) ea_nil) (go1 hd sm)
  by_cases hw : isWhole d = true
  · cases d with
    | int i =>
      cases hd
      refine s_ret (ev_andV i0 fun _ => ev_chain (ev_var rfl) (ev_var rfl) (fun _ => ev_var rfl) rv_I0 (fun _ => rv_I0)) (fun H1 e => ?_)
      exact k H1 e
    | _ => cases hw
  · have hf : isWhole d = false := by simpa using hw
    refine s_ret (ev_andV (b := false) i0 fun z => absurd z hw) (fun H1 e => ?_)
    have eb : betw lo hi d = false := by cases d <;> first | rfl | exact absurd rfl hw
    rw [hf]
    have := k H1 e
    rw [eb] at this
    exact this
theorem sc_are_between : FnScope ["thing", "low", "high", "part"] ["thing", "low", "high"] (defScope s_are_between) := ⟨rfl, rfl, rfl, by decide +kernel, rfl, by decide +kernel, by decide +kernel⟩
theorem ok_are_between {f : Addr} {fd : FuncData} (F : Fun K "are_between" "are_between" s_are_between f fd) (T : Tx K mg) (G : Df P w K mg base 2 "is_between" (sp3 K betw)) :
    FnOk P w K mg base CX0 3 f fd ["thing", "low", "high"] (sp3 K areBetw) := by
  refine F.ok sc_are_between (fun vs H Q E h => by obtain ⟨v, d, lo, hi, rfl, _⟩ := h; rfl) (fun cdv A outer s H vs Q E hr h => ?_)
  obtain ⟨v, d, lo, hi, rfl, hd, sm, k⟩ := h
  refine ⟨_, (pss_one (ps_ret (pe_and (pe_callB call_isi (by rfl) T.b_isinstance (by decide +kernel) (pa_cons (pv 0) (pa_cons (pe_bltn (v := .ty "tuple") rfl T.b_tuple (by decide +kernel) rfl) pa_nil))) (pe_one (pe_callB (cr_all rfl) (by rfl) T.b_all (by decide +kernel) (pa_cons (pe_lc (own := [("part", 3)]) rfl sc_are_between.nd (pi_tup (pv 0)) (blkOk_by (own := [("part", 3)]) (N := ["thing", "low", "high", "part"]) (sc := defScope s_are_between) (by decide +kernel)) (fun _ _ _ _ _ => (pg_name (i := 3) sc_are_between.nd rfl (Or.inl rfl))) (fun _ _ _ _ _ => pts_nil) (fun _ _ _ _ _ => (pe_d G hr (by decide) rfl (pa_cons (pv 3) (pa_cons (pv 1) (pa_cons (pv 2) pa_nil)))))) pa_nil)))))), ?_⟩
  have i0 := ev_isi (K := K) (σ := start ["thing", "low", "high", "part"] [v, .int lo, .int hi]) (te := tVar 0) (ev_var rfl) hd (kit_tuple d)
  rw [isT_tuple] at i0
  by_cases ht : ∃ ds, d = .tuple ds
  · obtain ⟨ds, rfl⟩ := ht
    cases hd with
    | tup hs ha =>
      rename_i a xs
      have hl := ha.length
      obtain ⟨s1, s2⟩ := small_tuple sm
      refine s_ret (ev_andV (b := ds.all (betw lo hi)) i0 fun _ => ?_) (fun H1 e => k H1 e)
      have el := el_lcT (K := K) (σ := start ["thing", "low", "high", "part"] [.ref a, .int lo, .int hi]) (H := H) (t := tYes) (te := tCall (sp3 K betw) [] E0 (tCons (tVar 3) (tCons (tVar 1) (tCons (tVar 2) tNil)))) (tl := tVar 0) (j := 3) (vs := [3])
        (fun _ => true) (fun i => .bl (betw lo hi (ds.getD i .none))) (ev_var rfl) hs (by omega) (fun _ => rfl) (fun _ _ _ _ _ => et_yes) ?_
      · rw [given_all] at el
        have e : (List.range xs.length).map (fun i => V.bl (betw lo hi (ds.getD i .none))) = (ds.map (betw lo hi)).map V.bl := by
          rw [hl, List.map_map]
          refine List.ext_getElem (by simp) fun i h1 h2 => ?_
          simp at h1
          simp [h1]
        rw [e] at el
        have := ev_all (K := K) el
        rw [List.all_map] at this
        exact this
      · intro i x H1 e hx _
        obtain ⟨d', hd', hx'⟩ := ha.get hx
        have e2 : ds.getD i .none = d' := by rw [List.getD_eq_getElem?_getD, hd']; rfl
        rw [e2]
        exact ev_d (ea_cons (ev_var rfl) (ea_cons (ev_var rfl) (ea_cons (ev_var rfl) ea_nil))) (go3 (hx'.ex e) (smallAll_mem s2 (List.mem_of_getElem? hd')))
  · have e1 : isTup d = false := by cases d <;> first | rfl | exact absurd ⟨_, rfl⟩ ht
    have e2 : areBetw lo hi d = false := by cases d <;> first | rfl | exact absurd ⟨_, rfl⟩ ht
    rw [e1] at i0
    refine s_ret (ev_andV (b := false) i0 fun z => nomatch z) (fun H1 e => ?_)
    have := k H1 e
    rw [e2] at this
    exact this
end
end Bk

namespace Bk
open PySem L2 Evl Hg
section
variable {P : Program} {w : World} {K : PySem.W.Frag} {mg : Str → Option Value} {base : Heap}
theorem map_bl (n : Nat) (f : Nat → Bool) : (List.range n).map (fun i => V.bl (f i)) = ((List.range n).map f).map V.bl := by rw [List.map_map]; rfl
theorem size_len (x : Str) : x.cps.size = x.length := rfl
theorem lt_one (a b : Nat) : decide ((⟨#[a]⟩ : Str).cps.toList < (⟨#[b]⟩ : Str).cps.toList) = decide (a < b) := by
  have e : ((⟨#[a]⟩ : Str).cps.toList < (⟨#[b]⟩ : Str).cps.toList) ↔ a < b := by
    show [a] < [b] ↔ a < b
    rw [List.cons_lt_cons_iff]
    simp
  by_cases h : a < b
  · rw [decide_eq_true h, decide_eq_true (e.mpr h)]
  · rw [decide_eq_false h, decide_eq_false (fun z => h (e.mp z))]
theorem sc_do_ascend : FnScope ["row", "at"] ["row"] (defScope s_do_ascend) := ⟨rfl, rfl, rfl, by decide +kernel, rfl, by decide +kernel, by decide +kernel⟩
theorem ok_do_ascend {f : Addr} {fd : FuncData} (F : Fun K "do_ascend" "do_ascend" s_do_ascend f fd) (T : Tx K mg) :
    FnOk P w K mg base CX0 1 f fd ["row"] (spAsc K) := by
  refine F.ok sc_do_ascend (fun vs H Q E h => by rcases h with ⟨a, ns, rfl, _⟩ | ⟨x, rfl, _⟩ <;> rfl) (fun cdv A outer s H vs Q E hr h => ?_)
  rcases h with ⟨a, ns, rfl, hs, hl, k⟩ | ⟨x, rfl, hl, k⟩
  · refine ⟨_, (pss_one (ps_ret (pe_callB (cr_all rfl) (by rfl) T.b_all (by decide +kernel) (pa_cons (pe_lc (own := [("at", 1)]) rfl sc_do_ascend.nd (pi_range1 rfl T.b_range (pa_cons (pe_op op_sub (pe_callB call_len (by rfl) T.b_len (by decide +kernel) (pa_cons (pv 0) pa_nil)) pe_int) pa_nil)) (blkOk_by (own := [("at", 1)]) (N := ["row", "at"]) (sc := defScope s_do_ascend) (by decide +kernel)) (fun _ _ _ _ _ => (pg_name (i := 1) sc_do_ascend.nd rfl (Or.inl rfl))) (fun _ _ _ _ _ => pts_nil) (fun _ _ _ _ _ => (pe_cmpR op_lt (pe_ix (ix_tupK K) (pv 0) (pv 1) (fun _ _ => rfl)) (pe_ix (ix_tupK K) (pv 0) (pe_op op_add (pv 1) pe_int) (fun _ _ => rfl)) (nomark _)))) pa_nil)))), ?_⟩
    have hlen : (ns.map V.int).length = ns.length := List.length_map _
    have el := el_lcR1' (σ := start ["row", "at"] [.ref a]) (H := H) (t := tYes) (n := (ns.length : Int) - 1)
      (te := tOp (rI0 fun i j => V.bl (decide (i < j))) (tOp (rIxT K) (tVar 0) (tVar 1)) (tOp (rIxT K) (tVar 0) (tOp (rI0 fun i j => V.int (i + j)) (tVar 1) (tC (.int 1)))))
      (j := 1) (vs := [1]) (fun _ => true) (fun i => .bl (decide (ns.getD i 0 < ns.getD (i + 1) 0)))
      (ea_cons (ev_op (r := rI0 fun i j => V.int (i - j)) (ev_lenT (K := K) (ev_var (i := 0) rfl) hs) ev_c (by rw [hlen]; exact rv_I0)) ea_nil) (by omega) (fun _ => rfl) (fun _ _ _ _ => et_yes) ?_
    · refine s_ret (ev_all (K := K) (bs := (List.range (ns.length - 1)).map fun i => decide (ns.getD i 0 < ns.getD (i + 1) 0)) ?_) (fun H1 e => ?_)
      · rw [given_all, map_bl] at el
        have e1 : ((ns.length : Int) - 1).toNat = ns.length - 1 := by omega
        rw [e1] at el
        exact el
      · rw [← asc_range]
        exact k H1 e
    · intro i H1 e hi _
      have h1 : (ns.map V.int)[i]? = some (V.int (ns.getD i 0)) := by
        rw [List.getElem?_map, List.getElem?_eq_getElem (by omega)]
        simp [show i < ns.length by omega]
      have h2 : (ns.map V.int)[i + 1]? = some (V.int (ns.getD (i + 1) 0)) := by
        rw [List.getElem?_map, List.getElem?_eq_getElem (by omega)]
        simp [show i + 1 < ns.length by omega]
      refine ev_op (ev_op (ev_var rfl) (ev_var rfl) (rv_ixT (ex_t e hs) (atI_nat h1))) (ev_op (ev_var rfl) (ev_op (ev_var rfl) ev_c rv_I0) (rv_ixT (ex_t e hs) ?_)) rv_I0
      have := atI_nat h2
      exact this
  · refine ⟨_, (pss_one (ps_ret (pe_callB (cr_all rfl) (by rfl) T.b_all (by decide +kernel) (pa_cons (pe_lc (own := [("at", 1)]) rfl sc_do_ascend.nd (pi_range1 rfl T.b_range (pa_cons (pe_op op_sub (pe_callB call_len (by rfl) T.b_len (by decide +kernel) (pa_cons (pv 0) pa_nil)) pe_int) pa_nil)) (blkOk_by (own := [("at", 1)]) (N := ["row", "at"]) (sc := defScope s_do_ascend) (by decide +kernel)) (fun _ _ _ _ _ => (pg_name (i := 1) sc_do_ascend.nd rfl (Or.inl rfl))) (fun _ _ _ _ _ => pts_nil) (fun _ _ _ _ _ => (pe_cmpR op_lt_str (pe_ix ix_str (pv 0) (pv 1) (fun _ _ => rfl)) (pe_ix ix_str (pv 0) (pe_op op_add (pv 1) pe_int) (fun _ _ => rfl)) (nomark _)))) pa_nil)))), ?_⟩
    have hlen : (codesI x).length = x.length := by
      unfold codesI
      rw [List.length_map, Array.length_toList]
      rfl
    have el := el_lcR1' (σ := start ["row", "at"] [.str x]) (H := H) (t := tYes) (n := (x.length : Int) - 1)
      (te := tOp (fun x y H Q => ∃ i j, x = V.str i ∧ y = V.str j ∧ Q (.bl (decide (i.cps.toList < j.cps.toList))) H) (tOp rIxS (tVar 0) (tVar 1)) (tOp rIxS (tVar 0) (tOp (rI0 fun i j => V.int (i + j)) (tVar 1) (tC (.int 1)))))
      (j := 1) (vs := [1]) (fun _ => true) (fun i => .bl (decide ((codesI x).getD i 0 < (codesI x).getD (i + 1) 0)))
      (ea_cons (ev_op (r := rI0 fun i j => V.int (i - j)) (ev_lenS (K := K) (ev_var (i := 0) rfl) hl) ev_c rv_I0) ea_nil) (by omega) (fun _ => rfl) (fun _ _ _ _ => et_yes) ?_
    · refine s_ret (ev_all (K := K) (bs := (List.range ((codesI x).length - 1)).map fun i => decide ((codesI x).getD i 0 < (codesI x).getD (i + 1) 0)) ?_) (fun H1 e => ?_)
      · rw [given_all, map_bl] at el
        have e1 : ((x.length : Int) - 1).toNat = (codesI x).length - 1 := by rw [hlen]; omega
        rw [e1] at el
        exact el
      · rw [← asc_range]
        exact k H1 e
    · intro i H1 e hi _
      have hL : x.cps.toList.length = x.length := Array.length_toList
      have g1 : ∀ j, j < x.length → ∃ c, x.cps.toList[j]? = some c ∧ (codesI x).getD j 0 = (c : Int) := by
        intro j hj
        refine ⟨x.cps.toList[j]'(by omega), List.getElem?_eq_getElem _, ?_⟩
        unfold codesI
        rw [List.getD_eq_getElem?_getD, List.getElem?_map, List.getElem?_eq_getElem (by omega)]
        rfl
      obtain ⟨c1, h1, q1⟩ := g1 i (by omega)
      obtain ⟨c2, h2, q2⟩ := g1 (i + 1) (by omega)
      refine ev_op (x := .str ⟨#[c1]⟩) (y := .str ⟨#[c2]⟩) (ev_op (ev_var rfl) (ev_var rfl) (rv_ixS (by omega) (atI_nat h1))) (ev_op (ev_var rfl) (ev_op (ev_var rfl) ev_c rv_I0) (rv_ixS (by omega) ?_)) ?_
      · have := atI_nat h2
        exact this
      · intro H2 e2 Q2 kk
        refine ⟨_, _, rfl, rfl, ?_⟩
        rw [lt_one, show decide (c1 < c2) = decide ((codesI x).getD i 0 < (codesI x).getD (i + 1) 0) by rw [q1, q2]; simp]
        exact kk H2 (Ex.refl H2)
end
end Bk

namespace Bk
open PySem L2 Evl Hg
section
variable {P : Program} {w : World} {K : PySem.W.Frag} {mg : Str → Option Value} {base : Heap} {H : Hp}
theorem sc_are_ascending : FnScope ["thing", "low", "high"] ["thing", "low", "high"] (defScope s_are_ascending) := ⟨rfl, rfl, rfl, by decide +kernel, rfl, by decide +kernel, by decide +kernel⟩
theorem ok_are_ascending {f : Addr} {fd : FuncData} (F : Fun K "are_ascending" "are_ascending" s_are_ascending f fd) (G1 : Df P w K mg base 3 "are_between" (sp3 K areBetw)) (G2 : Df P w K mg base 1 "do_ascend" (spAsc K)) :
    FnOk P w K mg base CX0 4 f fd ["thing", "low", "high"] (sp3 K areAsc) := by
  refine F.ok sc_are_ascending (fun vs H Q E h => by obtain ⟨v, d, lo, hi, rfl, _⟩ := h; rfl) (fun cdv A outer s H vs Q E hr h => ?_)
  obtain ⟨v, d, lo, hi, rfl, hd, sm, k⟩ := h
  refine ⟨_, (pss_one (ps_ret (pe_and (pe_d G1 hr (by decide) rfl (pa_cons (pv 0) (pa_cons (pv 1) (pa_cons (pv 2) pa_nil)))) (pe_one (pe_d G2 hr (by decide) rfl (pa_cons (pv 0) pa_nil)))))), ?_⟩
  have i0 : Ev (tCall (sp3 K areBetw) [] E0 (tCons (tVar 0) (tCons (tVar 1) (tCons (tVar 2) tNil)))) (start ["thing", "low", "high"] [v, .int lo, .int hi]) H (.bl (areBetw lo hi d)) :=
    ev_d (ea_cons (ev_var rfl) (ea_cons (ev_var rfl) (ea_cons (ev_var rfl) ea_nil))) (go3 hd sm)
  by_cases hw : areBetw lo hi d = true
  · cases hd with
    | tup hs ha =>
      rename_i a xs ds
      have e : xs = (ds.map intOf).map V.int := ints_of ha hw
      rw [e] at hs
      have hl : (ds.map intOf).length ≤ 1000 := by rw [List.length_map]; exact (small_tuple sm).1
      refine s_ret (ev_andV i0 fun _ => ev_d (ea_cons (ev_var rfl) ea_nil) (goAT hs hl)) (fun H1 e => k H1 e)
    | _ => cases hw
  · have hf : areBetw lo hi d = false := by simpa using hw
    refine s_ret (ev_andV (b := false) i0 fun z => absurd z hw) (fun H1 e => ?_)
    have eb : areAsc lo hi d = false := by
      cases d with
      | tuple ds =>
        show (ds.all (betw lo hi) && _) = false
        have z : ds.all (betw lo hi) = false := hf
        rw [z]
        rfl
      | _ => rfl
    have := k H1 e
    rw [eb] at this
    rw [hf]
    exact this
theorem le_a (c : Nat) : (!decide ((⟨#[c]⟩ : Str).cps.toList < ("a" : Str).cps.toList)) = decide (97 ≤ c) := by
  rw [show ("a" : Str) = ⟨#[97]⟩ by decide +kernel, lt_one]
  by_cases h : c < 97
  · rw [decide_eq_true h, decide_eq_false (by omega)]
    rfl
  · rw [decide_eq_false h, decide_eq_true (by omega)]
    rfl
theorem le_z (c : Nat) : (!decide (("z" : Str).cps.toList < (⟨#[c]⟩ : Str).cps.toList)) = decide (c ≤ 122) := by
  rw [show ("z" : Str) = ⟨#[122]⟩ by decide +kernel, lt_one]
  by_cases h : 122 < c
  · rw [decide_eq_true h, decide_eq_false (by omega)]
    rfl
  · rw [decide_eq_false h, decide_eq_true (by omega)]
    rfl
theorem sc_are_letters : FnScope ["thing", "letter"] ["thing"] (defScope s_are_letters) := ⟨rfl, rfl, rfl, by decide +kernel, rfl, by decide +kernel, by decide +kernel⟩
theorem ok_are_letters {f : Addr} {fd : FuncData} (F : Fun K "are_letters" "are_letters" s_are_letters f fd) (T : Tx K mg) (G2 : Df P w K mg base 1 "do_ascend" (spAsc K)) :
    FnOk P w K mg base CX0 2 f fd ["thing"] (sp1 K isHeard) := by
  refine F.ok sc_are_letters (fun vs H Q E h => by obtain ⟨v, d, rfl, _⟩ := h; rfl) (fun cdv A outer s H vs Q E hr h => ?_)
  obtain ⟨v, d, rfl, hd, sm, k⟩ := h
  refine ⟨_, (pss_one (ps_ret (pe_and (pe_callB call_isi (by rfl) T.b_isinstance (by decide +kernel) (pa_cons (pv 0) (pa_cons (pe_bltn (v := .ty "str") rfl T.b_str (by decide +kernel) rfl) pa_nil))) (pe_and (pe_callB (cr_all rfl) (by rfl) T.b_all (by decide +kernel) (pa_cons (pe_lc (own := [("letter", 1)]) rfl sc_are_letters.nd (pi_str (pv 0)) (blkOk_by (own := [("letter", 1)]) (N := ["thing", "letter"]) (sc := defScope s_are_letters) (by decide +kernel)) (fun _ _ _ _ _ => (pg_name (i := 1) sc_are_letters.nd rfl (Or.inl rfl))) (fun _ _ _ _ _ => pts_nil) (fun _ _ _ _ _ => (pe_chain op_le_str op_le_str pe_str (pv 1) pe_str))) pa_nil)) (pe_one (pe_d G2 hr (by decide) rfl (pa_cons (pv 0) pa_nil))))))), ?_⟩
  have i0 := ev_isi (K := K) (σ := start ["thing", "letter"] [v]) (te := tVar 0) (ev_var rfl) hd (kit_str d)
  rw [isT_str] at i0
  by_cases ht : ∃ x, d = .str x
  · obtain ⟨x, rfl⟩ := ht
    cases hd
    have sl := small_str sm
    have hsz : x.cps.size = x.length := rfl
    refine s_ret (ev_andV (b := x.cps.toList.all (fun c => decide (97 ≤ c) && decide (c ≤ 122)) && asc (codesI x)) i0 fun _ => ev_andV ?_ fun _ => ev_d (ea_cons (ev_var rfl) ea_nil) (goAS sl)) (fun H1 e => k H1 e)
    have el := el_lcS (σ := start ["thing", "letter"] [.str x]) (H := H) (t := tYes) (w := x)
      (te := tChain (fun x y H Q => ∃ i j, x = V.str i ∧ y = V.str j ∧ Q (.bl (!decide (j.cps.toList < i.cps.toList))) H) (fun x y H Q => ∃ i j, x = V.str i ∧ y = V.str j ∧ Q (.bl (!decide (j.cps.toList < i.cps.toList))) H) (tC (.str "a")) (tVar 1) (tC (.str "z")))
      (tl := tVar 0) (j := 1) (vs := [1]) (fun _ => true) (fun i => .bl (decide (97 ≤ x.cps.toList.getD i 0) && decide (x.cps.toList.getD i 0 ≤ 122))) (ev_var rfl) (by omega) (fun _ => rfl) (fun _ _ _ _ _ => et_yes) ?_
    · rw [given_all] at el
      have e : (List.range x.cps.size).map (fun i => V.bl (decide (97 ≤ x.cps.toList.getD i 0) && decide (x.cps.toList.getD i 0 ≤ 122))) = (x.cps.toList.map fun c => decide (97 ≤ c) && decide (c ≤ 122)).map V.bl := by
        rw [List.map_map, ← Array.length_toList]
        refine List.ext_getElem (by simp) fun i h1 h2 => ?_
        simp at h1
        simp [h1]
      rw [e] at el
      have := ev_all (K := K) el
      rw [List.all_map] at this
      exact this
    · intro i c H1 e hc _
      have hc' : x.cps.toList.getD i 0 = c := by
        rw [List.getD_eq_getElem?_getD, Array.getElem?_toList, hc]
        rfl
      rw [hc']
      refine ev_chain ev_c (ev_var rfl) (fun _ => ev_c) ?_ (fun _ => ?_)
      · intro H2 e2 Q2 kk
        refine ⟨_, _, rfl, rfl, ?_⟩
        rw [le_a]
        exact kk H2 (Ex.refl H2)
      · intro H2 e2 Q2 kk
        refine ⟨_, _, rfl, rfl, ?_⟩
        rw [le_z]
        exact kk H2 (Ex.refl H2)
  · have e1 : isStr d = false := by cases d <;> first | rfl | exact absurd ⟨_, rfl⟩ ht
    have e2 : isHeard d = false := by cases d <;> first | rfl | exact absurd ⟨_, rfl⟩ ht
    rw [e1] at i0
    refine s_ret (ev_andV (b := false) i0 fun z => nomatch z) (fun H1 e => ?_)
    have := k H1 e
    rw [e2] at this
    exact this
theorem sc_is_tuple_of : FnScope ["thing", "many"] ["thing", "many"] (defScope s_is_tuple_of) := ⟨rfl, rfl, rfl, by decide +kernel, rfl, by decide +kernel, by decide +kernel⟩
theorem ok_is_tuple_of {f : Addr} {fd : FuncData} (F : Fun K "is_tuple_of" "is_tuple_of" s_is_tuple_of f fd) (T : Tx K mg) :
    FnOk P w K mg base CX0 1 f fd ["thing", "many"] (sp2 K hasLen) := by
  refine F.ok sc_is_tuple_of (fun vs H Q E h => by obtain ⟨v, d, n, rfl, _⟩ := h; rfl) (fun cdv A outer s H vs Q E hr h => ?_)
  obtain ⟨v, d, n, rfl, hd, sm, k⟩ := h
  refine ⟨_, (pss_one (ps_ret (pe_and (pe_callB call_isi (by rfl) T.b_isinstance (by decide +kernel) (pa_cons (pv 0) (pa_cons (pe_bltn (v := .ty "tuple") rfl T.b_tuple (by decide +kernel) rfl) pa_nil))) (pe_one (pe_cmpR op_eq (pe_callB call_len (by rfl) T.b_len (by decide +kernel) (pa_cons (pv 0) pa_nil)) (pv 1) (nomark _)))))), ?_⟩
  have i0 := ev_isi (K := K) (σ := start ["thing", "many"] [v, .int n]) (te := tVar 0) (ev_var rfl) hd (kit_tuple d)
  rw [isT_tuple] at i0
  cases hd with
  | tup hs ha =>
    rename_i a xs ds
    refine s_ret (ev_andV (b := decide ((ds.length : Int) = n)) i0 fun _ => ?_) (fun H1 e => k H1 e)
    refine ev_op (ev_lenT (K := K) (ev_var rfl) hs) (ev_var rfl) ?_
    rw [ha.length]
    have := rv_eq (H := H) (x := .int ds.length) (y := .int n) rfl
    rw [show decide (V.int (ds.length : Int) = V.int n) = decide ((ds.length : Int) = n) by simp] at this
    exact this
  | _ => exact s_ret (ev_andV (b := false) i0 fun z => nomatch z) (fun H1 e => k H1 e)
end
end Bk

namespace Bk
open PySem L2 Evl Hg
abbrev s_is_heard : PySem.Stmt := top 31
abbrev s_are_rooms : PySem.Stmt := top 32
abbrev s_are_standings : PySem.Stmt := top 33
abbrev s_can_look_into : PySem.Stmt := top 34
abbrev s_is_move : PySem.Stmt := top 35
/-! the mathematics of books -/
def someD : PyData → Bool
  | .tuple ds => decide (0 < (ds.length : Int))
  | _ => false
def areRooms (d : PyData) : Bool := areBetw (-1) 9 d && someD d
def areStand (n : Int) (d : PyData) : Bool := areAsc 0 (n - 1) d && someD d
def intsOf : PyData → List Int
  | .tuple ds => ds.map intOf
  | _ => []
def looks (r : Int) (d : PyData) : Bool := areAsc 0 9 d && !(intsOf d).contains r
def isMove (rs : List Int) : PyData → Bool
  | .tuple [o, t, h, f, e, th] => (betw 0 (rs.length - 1) o && (betw 0 (rs.length - 1) t && isHeard h)) && (areAsc 0 99 f && (looks (rs.getD (intOf o).toNat 0) e && looks (rs.getD (intOf o).toNat 0) th))
  | _ => false
/-- consts of the module -/
structure Ty (K : PySem.W.Frag) (mg : Str → Option Value) : Prop extends Tx K mg where
  k_AWAY : ∃ u, mg "AWAY" = some u ∧ RelV (.int (-1)) u
  k_GREATEST_ROOM : ∃ u, mg "GREATEST_ROOM" = some u ∧ RelV (.int 9) u
  k_GREATEST_FACE : ∃ u, mg "GREATEST_FACE" = some u ∧ RelV (.int 99) u
  b_enumerate : mg "enumerate" = none
/-- rooms, a tuple of ints -/
def spStand (K : PySem.W.Frag) : Sp := fun vs H Q _ => ∃ (a : Addr) (rs : List Int) (v : V) (d : PyData), vs = [.ref a, v] ∧ SqT K H a (rs.map V.int) ∧ Dd K H v d ∧ small d = true ∧ ∀ H2, Ex H H2 → Q (.bl (areStand rs.length d)) H2
def spMove (K : PySem.W.Frag) : Sp := fun vs H Q _ => ∃ (a : Addr) (rs : List Int) (v : V) (d : PyData), vs = [.ref a, v] ∧ SqT K H a (rs.map V.int) ∧ Dd K H v d ∧ small d = true ∧ ∀ H2, Ex H H2 → Q (.bl (isMove rs d)) H2
def spLook (K : PySem.W.Frag) : Sp := fun vs H Q _ => ∃ v d r, vs = [v, .int r] ∧ Dd K H v d ∧ small d = true ∧ ∀ H2, Ex H H2 → Q (.bl (looks r d)) H2
theorem goS {K : PySem.W.Frag} {H : Hp} {a : Addr} {rs : List Int} {v : V} {d : PyData} (hs : SqT K H a (rs.map V.int)) (h : Dd K H v d) (s : small d = true) : SpV (spStand K) [.ref a, v] H (.bl (areStand rs.length d)) := fun H1 e Q q E => ⟨a, rs, v, d, rfl, ex_t e hs, h.ex e, s, q⟩
theorem goM {K : PySem.W.Frag} {H : Hp} {a : Addr} {rs : List Int} {v : V} {d : PyData} (hs : SqT K H a (rs.map V.int)) (h : Dd K H v d) (s : small d = true) : SpV (spMove K) [.ref a, v] H (.bl (isMove rs d)) := fun H1 e Q q E => ⟨a, rs, v, d, rfl, ex_t e hs, h.ex e, s, q⟩
theorem goL {K : PySem.W.Frag} {H : Hp} {v : V} {d : PyData} {r : Int} (h : Dd K H v d) (s : small d = true) : SpV (spLook K) [v, .int r] H (.bl (looks r d)) := fun H1 e Q q E => ⟨v, d, r, rfl, h.ex e, s, q⟩
theorem in_ints (r : Int) : ∀ ns : List Int, inV (.int r) (ns.map V.int) = ns.contains r
  | [] => rfl
  | n :: ns => by
    show (eqV (.int n) (.int r) || inV (.int r) (ns.map V.int)) = _
    rw [in_ints r ns, List.contains_cons]
    show ((n == r) || _) = ((r == n) || _)
    rw [show (n == r) = (r == n) from Bool.eq_iff_iff.mpr ⟨fun h => by simp at h; simp [h], fun h => by simp at h; simp [h]⟩]
theorem flat_ints : ∀ ns : List Int, (ns.map V.int).all flatV = true
  | [] => rfl
  | _ :: ns => flat_ints ns
section
variable {P : Program} {w : World} {K : PySem.W.Frag} {mg : Str → Option Value} {base : Heap} {H : Hp}
theorem sc_is_heard : FnScope ["thing"] ["thing"] (defScope s_is_heard) := ⟨rfl, rfl, rfl, by decide +kernel, rfl, by decide +kernel, by decide +kernel⟩
theorem ok_is_heard {f : Addr} {fd : FuncData} (F : Fun K "is_heard" "is_heard" s_is_heard f fd) (G : Df P w K mg base 2 "are_letters" (sp1 K isHeard)) :
    FnOk P w K mg base CX0 3 f fd ["thing"] (sp1 K isHeard) := by
  refine F.ok sc_is_heard (fun vs H Q E h => by obtain ⟨v, d, rfl, _⟩ := h; rfl) (fun cdv A outer s H vs Q E hr h => ?_)
  obtain ⟨v, d, rfl, hd, sm, k⟩ := h
  exact ⟨_, (pss_one (ps_ret (pe_d G hr (by decide) rfl (pa_cons (pv 0) pa_nil)))), s_ret (ev_d (ea_cons (ev_var rfl) ea_nil) (go1 hd sm)) k⟩
theorem sc_are_rooms : FnScope ["thing"] ["thing"] (defScope s_are_rooms) := ⟨rfl, rfl, rfl, by decide +kernel, rfl, by decide +kernel, by decide +kernel⟩
theorem gt_nil {n : Nat} : RV (rI0 fun i j => V.bl (decide (j < i))) (.int n) (.int 0) H (.bl (decide (0 < (n : Int)))) := rv_I0
theorem ok_are_rooms {f : Addr} {fd : FuncData} (F : Fun K "are_rooms" "are_rooms" s_are_rooms f fd) (T : Ty K mg) (G : Df P w K mg base 3 "are_between" (sp3 K areBetw)) :
    FnOk P w K mg base CX0 4 f fd ["thing"] (sp1 K areRooms) := by
  refine F.ok sc_are_rooms (fun vs H Q E h => by obtain ⟨v, d, rfl, _⟩ := h; rfl) (fun cdv A outer s H vs Q E hr h => ?_)
  obtain ⟨v, d, rfl, hd, sm, k⟩ := h
  refine ⟨_, (pss_one (ps_ret (pe_and (pe_d G hr (by decide) rfl (pa_cons (pv 0) (pa_cons (C8.pe_gc rfl T.k_AWAY) (pa_cons (C8.pe_gc rfl T.k_GREATEST_ROOM) pa_nil)))) (pe_one (pe_cmpR op_gt (pe_callB call_len (by rfl) T.b_len (by decide +kernel) (pa_cons (pv 0) pa_nil)) pe_int (nomark _)))))), ?_⟩
  refine s_ret (ev_andV (a := areBetw (-1) 9 d) (b := someD d) (ev_d (ea_cons (ev_var rfl) (ea_cons ev_c (ea_cons ev_c ea_nil))) (go3 hd sm)) fun z => ?_) k
  cases hd with
  | tup hs ha => exact ev_op (ev_lenT (K := K) (ev_var rfl) hs) ev_c (by rw [ha.length]; exact gt_nil)
  | _ => cases z
theorem sc_are_standings : FnScope ["rooms", "thing"] ["rooms", "thing"] (defScope s_are_standings) := ⟨rfl, rfl, rfl, by decide +kernel, rfl, by decide +kernel, by decide +kernel⟩
theorem ok_are_standings {f : Addr} {fd : FuncData} (F : Fun K "are_standings" "are_standings" s_are_standings f fd) (T : Ty K mg) (G : Df P w K mg base 4 "are_ascending" (sp3 K areAsc)) :
    FnOk P w K mg base CX0 5 f fd ["rooms", "thing"] (spStand K) := by
  refine F.ok sc_are_standings (fun vs H Q E h => by obtain ⟨a, rs, v, d, rfl, _⟩ := h; rfl) (fun cdv A outer s H vs Q E hr h => ?_)
  obtain ⟨a, rs, v, d, rfl, hs, hd, sm, k⟩ := h
  refine ⟨_, (pss_one (ps_ret (pe_and (pe_d G hr (by decide) rfl (pa_cons (pv 1) (pa_cons pe_int (pa_cons (pe_op op_sub (pe_callB call_len (by rfl) T.b_len (by decide +kernel) (pa_cons (pv 0) pa_nil)) pe_int) pa_nil)))) (pe_one (pe_cmpR op_gt (pe_callB call_len (by rfl) T.b_len (by decide +kernel) (pa_cons (pv 1) pa_nil)) pe_int (nomark _)))))), ?_⟩
  have hlen : (rs.map V.int).length = rs.length := List.length_map _
  refine s_ret (ev_andV (a := areAsc 0 (rs.length - 1) d) (b := someD d) (ev_d (ea_cons (ev_var rfl) (ea_cons ev_c (ea_cons (ev_op (r := rI0 fun i j => V.int (i - j)) (ev_lenT (K := K) (ev_var (i := 0) rfl) hs) ev_c (by rw [hlen]; exact rv_I0)) ea_nil))) (go3 hd sm)) fun z => ?_) k
  cases hd with
  | tup hs ha => exact ev_op (ev_lenT (K := K) (ev_var rfl) hs) ev_c (by rw [ha.length]; exact gt_nil)
  | _ => cases z
theorem sc_can_look_into : FnScope ["thing", "room"] ["thing", "room"] (defScope s_can_look_into) := ⟨rfl, rfl, rfl, by decide +kernel, rfl, by decide +kernel, by decide +kernel⟩
theorem areAsc_betw {lo hi : Int} {ds : List PyData} (h : areAsc lo hi (.tuple ds) = true) : ds.all (betw lo hi) = true := (Bool.and_eq_true_iff.mp h).1
theorem ok_can_look_into {f : Addr} {fd : FuncData} (F : Fun K "can_look_into" "can_look_into" s_can_look_into f fd) (T : Ty K mg) (G : Df P w K mg base 4 "are_ascending" (sp3 K areAsc)) :
    FnOk P w K mg base CX0 5 f fd ["thing", "room"] (spLook K) := by
  refine F.ok sc_can_look_into (fun vs H Q E h => by obtain ⟨v, d, r, rfl, _⟩ := h; rfl) (fun cdv A outer s H vs Q E hr h => ?_)
  obtain ⟨v, d, r, rfl, hd, sm, k⟩ := h
  refine ⟨_, (pss_one (ps_ret (pe_and (pe_d G hr (by decide) rfl (pa_cons (pv 0) (pa_cons pe_int (pa_cons (C8.pe_gc rfl T.k_GREATEST_ROOM) pa_nil)))) (pe_one (pe_cmpR op_notIn_seq (pv 1) (pv 0) (by rfl)))))), ?_⟩
  refine s_ret (ev_andV (a := areAsc 0 9 d) (b := !(intsOf d).contains r) (ev_d (ea_cons (ev_var rfl) (ea_cons ev_c (ea_cons ev_c ea_nil))) (go3 hd sm)) fun z => ?_) k
  cases hd with
  | tup hs ha =>
    rename_i a xs ds
    have e : xs = (ds.map intOf).map V.int := ints_of ha (areAsc_betw z)
    rw [e] at hs
    refine ev_op (ev_var rfl) (ev_var rfl) ?_
    have := rv_niT (K := K) (x := .int r) hs rfl (flat_ints _)
    rw [in_ints] at this
    exact this
  | _ => cases z
theorem sc_is_move : FnScope ["rooms", "thing", "origin", "target", "heard", "faces", "empty", "there", "last"] ["rooms", "thing"] (defScope s_is_move) := ⟨rfl, rfl, rfl, by decide +kernel, rfl, by decide +kernel, by decide +kernel⟩
theorem len6 {α : Type} : ∀ {l : List α}, l.length = 6 → ∃ a b c d e f, l = [a, b, c, d, e, f]
  | [a, b, c, d, e, f], _ => ⟨a, b, c, d, e, f, rfl⟩
theorem ok_is_move {f : Addr} {fd : FuncData} (F : Fun K "is_move" "is_move" s_is_move f fd) (T : Ty K mg) (G1 : Df P w K mg base 1 "is_tuple_of" (sp2 K hasLen)) (G2 : Df P w K mg base 2 "is_between" (sp3 K betw))
    (G3 : Df P w K mg base 3 "is_heard" (sp1 K isHeard)) (G4 : Df P w K mg base 4 "are_ascending" (sp3 K areAsc)) (G5 : Df P w K mg base 5 "can_look_into" (spLook K)) :
    FnOk P w K mg base CX0 6 f fd ["rooms", "thing"] (spMove K) := by
  refine F.ok sc_is_move (fun vs H Q E h => by obtain ⟨a, rs, v, d, rfl, _⟩ := h; rfl) (fun cdv A outer s H vs Q E hr h => ?_)
  obtain ⟨a, rs, v, d, rfl, hs, hd, sm, k⟩ := h
  refine ⟨_, (pss_cons (ps_if (pt_not (pt_val (pe_d G1 hr (by decide) rfl (pa_cons (pv 1) (pa_cons pe_int pa_nil))))) (pss_one (ps_ret pe_bl)) pss_nil)
  (pss_cons (ps_asg (pv 1) (pg_tup rfl (pgs_cons (pg_name (i := 2) sc_is_move.nd rfl (Or.inl rfl)) (pgs_cons (pg_name (i := 3) sc_is_move.nd rfl (Or.inl rfl)) (pgs_cons (pg_name (i := 4) sc_is_move.nd rfl (Or.inl rfl)) (pgs_cons (pg_name (i := 5) sc_is_move.nd rfl (Or.inl rfl)) (pgs_cons (pg_name (i := 6) sc_is_move.nd rfl (Or.inl rfl)) (pgs_cons (pg_name (i := 7) sc_is_move.nd rfl (Or.inl rfl)) pgs_nil))))))))
  (pss_cons (ps_set (i := 8) sc_is_move.nd rfl (Or.inl rfl) (pe_op op_sub (pe_callB call_len (by rfl) T.b_len (by decide +kernel) (pa_cons (pv 0) pa_nil)) pe_int))
  (pss_cons (ps_if (pt_not (PW.pt (pw_and (pt_val (pe_d G2 hr (by decide) rfl (pa_cons (pv 2) (pa_cons pe_int (pa_cons (pv 8) pa_nil))))) (pw_and (pt_val (pe_d G2 hr (by decide) rfl (pa_cons (pv 3) (pa_cons pe_int (pa_cons (pv 8) pa_nil))))) (pw_and1 (pt_val (pe_d G3 hr (by decide) rfl (pa_cons (pv 4) pa_nil)))))))) (pss_one (ps_ret pe_bl)) pss_nil)
  (pss_cons (ps_if (pt_not (pt_val (pe_d G4 hr (by decide) rfl (pa_cons (pv 5) (pa_cons pe_int (pa_cons (C8.pe_gc rfl T.k_GREATEST_FACE) pa_nil)))))) (pss_one (ps_ret pe_bl)) pss_nil)
  (pss_one (ps_ret (pe_and (pe_d G5 hr (by decide) rfl (pa_cons (pv 6) (pa_cons (pe_ix ix_tup (pv 0) (pv 2) (fun _ _ => rfl)) pa_nil))) (pe_one (pe_d G5 hr (by decide) rfl (pa_cons (pv 7) (pa_cons (pe_ix ix_tup (pv 0) (pv 2) (fun _ _ => rfl)) pa_nil)))))))))))), ?_⟩
  refine q_when (b := !hasLen 6 d) (et_not (et_test (ev_d (ea_cons (ev_var rfl) (ea_cons ev_c ea_nil)) (go2 hd sm)))) (fun z H1 e1 => ?_) (fun z H1 e1 => ?_)
  · have e : isMove rs d = false := by
      have z' : hasLen 6 d = false := by simpa using z
      cases d with
      | tuple ds =>
        by_cases hl : ds.length = 6
        · exact absurd z' (by simp [hasLen, hl])
        · match ds, hl with
          | [], _ => rfl
          | [_], _ => rfl
          | [_, _], _ => rfl
          | [_, _, _], _ => rfl
          | [_, _, _, _], _ => rfl
          | [_, _, _, _, _], _ => rfl
          | [_, _, _, _, _, _], hl => exact absurd rfl hl
          | _ :: _ :: _ :: _ :: _ :: _ :: _ :: _, _ => rfl
      | _ => rfl
    refine s_ret ev_c fun H2 e2 => ?_
    have := k H2 (e1.trans e2)
    rw [e] at this
    exact this
  · have z' : hasLen 6 d = true := by simpa using z
    cases hd with
    | tup ht ha =>
      rename_i b xs ds
      have hl : ds.length = 6 := by
        have : ((ds.length : Int) = 6) := of_decide_eq_true z'
        omega
      obtain ⟨o, t, h, fc, em, th, rfl⟩ := len6 hl
      obtain ⟨_, s2⟩ := small_tuple sm
      obtain ⟨vo, vt, vh, vf, ve, vth, rfl, ho, htt, hh, hf, hem, hth⟩ : ∃ vo vt vh vf ve vth, xs = [vo, vt, vh, vf, ve, vth] ∧ Dd K H vo o ∧ Dd K H vt t ∧ Dd K H vh h ∧ Dd K H vf fc ∧ Dd K H ve em ∧ Dd K H vth th := by
        cases ha with
        | cons h1 ha => cases ha with
          | cons h2 ha => cases ha with
            | cons h3 ha => cases ha with
              | cons h4 ha => cases ha with
                | cons h5 ha => cases ha with
                  | cons h6 ha =>
                    cases ha
                    exact ⟨_, _, _, _, _, _, rfl, h1, h2, h3, h4, h5, h6⟩
      have sm' : ∀ {q}, q ∈ [o, t, h, fc, em, th] → small q = true := fun z => smallAll_mem s2 z
      refine ⟨.ref b, rfl, b, _, rfl, ex_t e1 ht, rfl, _, _, rfl, _, _, rfl, _, _, rfl, _, _, rfl, _, _, rfl, _, _, rfl, rfl, ?_⟩
      have hs1 := ex_t e1 hs
      have hlen : (rs.map V.int).length = rs.length := List.length_map _
      refine q_asg (v := .int (rs.length - 1)) (ev_op (r := rI0 fun i j => V.int (i - j)) (ev_lenT (K := K) (ev_var (i := 0) rfl) hs1) ev_c (by rw [hlen]; exact rv_I0)) fun H2 e2 => ?_
      have e12 := e1.trans e2
      refine q_when (b := !(betw 0 (rs.length - 1) o && (betw 0 (rs.length - 1) t && isHeard h)))
        (et_not (et_and (et_test (ev_d (ea_cons (ev_var rfl) (ea_cons ev_c (ea_cons (ev_var rfl) ea_nil))) (go3 (ho.ex e12) (sm' (by simp))))) fun _ =>
          et_and (et_test (ev_d (ea_cons (ev_var rfl) (ea_cons ev_c (ea_cons (ev_var rfl) ea_nil))) (go3 (htt.ex e12) (sm' (by simp))))) fun _ =>
            et_test (ev_d (ea_cons (ev_var rfl) ea_nil) (go1 (hh.ex e12) (sm' (by simp)))))) (fun z H3 e3 => ?_) (fun z H3 e3 => ?_)
      · refine s_ret ev_c fun H4 e4 => ?_
        have z1 : (betw 0 (rs.length - 1) o && (betw 0 (rs.length - 1) t && isHeard h)) = false := by
          cases q : (betw 0 (rs.length - 1) o && (betw 0 (rs.length - 1) t && isHeard h)) with
          | true => rw [q] at z; cases z
          | false => rfl
        have := k H4 ((e12.trans e3).trans e4)
        rw [show isMove rs (.tuple [o, t, h, fc, em, th]) = false by show (_ && _) = false; rw [z1]; rfl] at this
        exact this
      · have z1 : (betw 0 (rs.length - 1) o && (betw 0 (rs.length - 1) t && isHeard h)) = true := by
          cases q : (betw 0 (rs.length - 1) o && (betw 0 (rs.length - 1) t && isHeard h)) with
          | true => rfl
          | false => rw [q] at z; cases z
        have e13 := e12.trans e3
        refine q_when (b := !areAsc 0 99 fc) (et_not (et_test (ev_d (ea_cons (ev_var rfl) (ea_cons ev_c (ea_cons ev_c ea_nil))) (go3 (hf.ex e13) (sm' (by simp)))))) (fun z H4 e4 => ?_) (fun z H4 e4 => ?_)
        · refine s_ret ev_c fun H5 e5 => ?_
          have z2 : areAsc 0 99 fc = false := by simpa using z
          have := k H5 ((e13.trans e4).trans e5)
          rw [show isMove rs (.tuple [o, t, h, fc, em, th]) = false by show (_ && (_ && _)) = false; rw [z1, z2]; rfl] at this
          exact this
        · have z2 : areAsc 0 99 fc = true := by simpa using z
          have e14 := e13.trans e4
          have ho2 : betw 0 (rs.length - 1) o = true := (Bool.and_eq_true_iff.mp z1).1
          cases o with
          | int i =>
            cases ho
            obtain ⟨b1, b2⟩ := Bool.and_eq_true_iff.mp ho2
            have b1 := of_decide_eq_true b1
            have b2 := of_decide_eq_true b2
            have hix : (rs.map V.int)[i.toNat]? = some (.int (rs.getD i.toNat 0)) := by
              rw [List.getElem?_map, List.getD_eq_getElem?_getD, List.getElem?_eq_getElem (by omega)]
              rfl
            have hat : atI (rs.map V.int) i = some (.int (rs.getD i.toNat 0)) := by
              have := atI_nat hix
              rw [show ((i.toNat : Nat) : Int) = i by omega] at this
              exact this
            refine s_ret (ev_andV (a := looks (rs.getD i.toNat 0) em) (b := looks (rs.getD i.toNat 0) th)
              (ev_d (ea_cons (ev_var rfl) (ea_cons (ev_op (ev_var rfl) (ev_var rfl) (rv_ixT (ex_t e14 hs) hat)) ea_nil)) (goL (hem.ex e14) (sm' (by simp)))) fun _ =>
              ev_d (ea_cons (ev_var rfl) (ea_cons (ev_op (ev_var rfl) (ev_var rfl) (rv_ixT (ex_t e14 hs) hat)) ea_nil)) (goL (hth.ex e14) (sm' (by simp)))) fun H5 e5 => ?_
            have := k H5 (e14.trans e5)
            rw [show isMove rs (.tuple [.int i, t, h, fc, em, th]) = (looks (rs.getD i.toNat 0) em && looks (rs.getD i.toNat 0) th) by show (_ && (_ && _)) = _; rw [z1, z2]; rfl] at this
            exact this
          | _ => cases ho2
    | _ => cases z'
end
end Bk

namespace Bk
open PySem L2 Evl Hg
abbrev s_init : PySem.Stmt := inClass (top 36) 0
abbrev s_eq : PySem.Stmt := inClass (top 36) 2
abbrev s_without : PySem.Stmt := inClass (top 36) 5
def allMoves (rs : List Int) : PyData → Bool
  | .tuple ms => ms.all (isMove rs)
  | _ => false
def bookOk (dr dm df : PyData) : Bool := areRooms dr && (allMoves (intsOf dr) dm && areStand (intsOf dr).length df)
structure Tb (K : PySem.W.Frag) (mg : Str → Option Value) (C : Addr) : Prop extends Ty K mg where
  ins : C8.InsC K C
  nR : NoAttr K C "rooms"
  nM : NoAttr K C "moves"
  nF : NoAttr K C "first"
  c_Book : mg "Book" = some (.ref C)
def three (vr vm vf : V) : List (Str × V) := putF "first" vf (putF "moves" vm (putF "rooms" vr []))
theorem n_fm : ¬ (("first" : Str) = "moves") := by decide +kernel
theorem n_fr : ¬ (("first" : Str) = "rooms") := by decide +kernel
theorem n_mr : ¬ (("moves" : Str) = "rooms") := by decide +kernel
theorem three_r (vr vm vf : V) : (three vr vm vf).lookup ("rooms" : Str) = some vr := by
  unfold three
  rw [lookup_putF, if_neg (Ne.symm n_fr), lookup_putF, if_neg (Ne.symm n_mr), lookup_putF, if_pos rfl]
theorem three_m (vr vm vf : V) : (three vr vm vf).lookup ("moves" : Str) = some vm := by
  unfold three
  rw [lookup_putF, if_neg (Ne.symm n_fm), lookup_putF, if_pos rfl]
theorem three_f (vr vm vf : V) : (three vr vm vf).lookup ("first" : Str) = some vf := by
  unfold three
  rw [lookup_putF, if_pos rfl]
theorem three_no (vr vm vf : V) {m : Str} (h1 : ¬ m = "first") (h2 : ¬ m = "moves") (h3 : ¬ m = "rooms") : (three vr vm vf).lookup m = none := by
  unfold three
  rw [lookup_putF, if_neg h1, lookup_putF, if_neg h2, lookup_putF, if_neg h3]
  rfl
theorem few1 (a : V) : (putF "rooms" a []).length < 1000 := by
  have := length_putF "rooms" a []
  simp only [List.length_nil] at this
  omega
theorem few2 (a b : V) : (putF "moves" b (putF "rooms" a [])).length < 1000 := by
  have := length_putF "moves" b (putF "rooms" a [])
  have := length_putF "rooms" a []
  simp only [List.length_nil] at this
  omega
/-- a book stands at p -/
def BookAt (C : Addr) (H : Hp) (p : Addr) (vr vm vf : V) : Prop := ∃ dx, H p = some (.ins C dx (three vr vm vf))
theorem BookAt.ex {C : Addr} {H H' : Hp} {p : Addr} {vr vm vf : V} (e : Ex H H') (b : BookAt C H p vr vm vf) : BookAt C H' p vr vm vf := let ⟨dx, h⟩ := b; ⟨dx, e _ _ h⟩
/-- __init__ of good parts -/
def spInit (K : PySem.W.Frag) (C : Addr) : Sp := fun vs H Q _ => ∃ (p dx : Addr) (vr vm vf : V) (dr dm df : PyData), vs = [.ref p, vr, vm, vf] ∧ H p = some (.ins C dx []) ∧
  Dd K H vr dr ∧ Dd K H vm dm ∧ Dd K H vf df ∧ small dr = true ∧ small dm = true ∧ small df = true ∧ bookOk dr dm df = true ∧
  ∀ H2, (∀ b o, H b = some o → b ≠ p → H2 b = some o) → BookAt C H2 p vr vm vf → Q .non H2
section
variable {K : PySem.W.Frag} {H : Hp}
/-- attributes -/
theorem ev_fld {C p : Addr} {vr vm vf v : V} {te : TE} {σ : L2.St} {f : Str} (c : Cls K C) (n : NoAttr K C f) (he : Ev te σ H (.ref p)) (b : BookAt C H p vr vm vf) (hl : (three vr vm vf).lookup f = some v) : Ev (tFld K te f) σ H v := by
  obtain ⟨dx, hp⟩ := b
  intro H1 e Q q
  exact he H1 e _ fun H2 e2 => ⟨p, C, dx, _, v, rfl, (e.trans e2) _ _ hp, c, n, hl, q H2 e2⟩
theorem rooms_of {v : V} {d : PyData} (h : Dd K H v d) (ok : areRooms d = true) : ∃ a rs, v = .ref a ∧ SqT K H a (rs.map V.int) ∧ intsOf d = rs ∧ 0 < rs.length := by
  obtain ⟨h1, h2⟩ := Bool.and_eq_true_iff.mp ok
  cases h with
  | tup hs ha =>
    rename_i a xs ds
    have e := ints_of ha h1
    rw [e] at hs
    refine ⟨a, ds.map intOf, rfl, hs, rfl, ?_⟩
    have : 0 < (ds.length : Int) := of_decide_eq_true h2
    rw [List.length_map]
    omega
  | _ => cases h1
end
section
variable {P : Program} {w : World} {K : PySem.W.Frag} {mg : Str → Option Value} {base : Heap} {C : Addr}
theorem sc_init : FnScope ["self", "rooms", "moves", "first", "number", "move"] ["self", "rooms", "moves", "first"] (defScope s_init) := ⟨rfl, rfl, rfl, by decide +kernel, rfl, by decide +kernel, by decide +kernel⟩
theorem ok_init {f : Addr} {fd : FuncData} (F : Fun K "__init__" "Book.__init__" s_init f fd) (T : Tb K mg C) (G1 : Df P w K mg base 4 "are_rooms" (sp1 K areRooms)) (G2 : Df P w K mg base 6 "is_move" (spMove K))
    (G3 : Df P w K mg base 5 "are_standings" (spStand K)) : FnOk P w K mg base CX0 7 f fd ["self", "rooms", "moves", "first"] (spInit K C) := by
  refine F.ok sc_init (fun vs H Q E h => by obtain ⟨p, dx, vr, vm, vf, dr, dm, df, rfl, _⟩ := h; rfl) (fun cdv A outer s H vs Q E hr h => ?_)
  obtain ⟨p, dx, vr, vm, vf, dr, dm, df, rfl, hp, hdr, hdm, hdf, sr, sm, sf, ok, k⟩ := h
  refine ⟨_, (pss_cons (ps_if (pt_not (pt_val (pe_d G1 hr (by decide) rfl (pa_cons (pv 1) pa_nil)))) (pss_one ps_never) pss_nil)
  (pss_cons (ps_if (pt_not (pt_val (pe_callB call_isi (by rfl) T.b_isinstance (by decide +kernel) (pa_cons (pv 2) (pa_cons (pe_bltn (v := .ty "tuple") rfl T.b_tuple (by decide +kernel) rfl) pa_nil))))) (pss_one ps_never) pss_nil)
  (pss_cons (ps_for PassesOwn.never rfl (pi_enumT rfl T.b_enumerate (pa_cons (pv 2) pa_nil)) (pg_tup rfl (pgs_cons (pg_name (i := 4) sc_init.nd rfl (Or.inl rfl)) (pgs_cons (pg_name (i := 5) sc_init.nd rfl (Or.inl rfl)) pgs_nil))) (pss_one (ps_if (pt_not (pt_val (pe_d G2 hr (by decide) rfl (pa_cons (pv 1) (pa_cons (pv 5) pa_nil))))) (pss_one ps_never) pss_nil)))
  (pss_cons (ps_if (pt_not (pt_val (pe_d G3 hr (by decide) rfl (pa_cons (pv 1) (pa_cons (pv 3) pa_nil))))) (pss_one ps_never) pss_nil)
  (pss_cons (ps_fld (pv 0) (pv 1) rfl)
  (pss_cons (ps_fld (pv 0) (pv 2) rfl)
  (pss_one (ps_fld (pv 0) (pv 3) rfl)))))))), ?_⟩
  obtain ⟨o1, o23⟩ := Bool.and_eq_true_iff.mp ok
  obtain ⟨o2, o3⟩ := Bool.and_eq_true_iff.mp o23
  obtain ⟨ar, rs, rfl, hs, ers, hpos⟩ := rooms_of hdr o1
  rw [ers] at o2 o3
  refine q_when (b := false) (et_is (et_not (et_test (ev_d (ea_cons (ev_var rfl) ea_nil) (go1 hdr sr)))) (by rw [o1]; rfl)) (fun z => nomatch z) (fun _ H1 e1 => ?_)
  cases hdm with
  | tup ht ha =>
    rename_i am xs ms
    have i0 := ev_isi (K := K) (σ := start ["self", "rooms", "moves", "first", "number", "move"] [.ref p, .ref ar, .ref am, vf]) (H := H1) (te := tVar 2) (ev_var rfl) (Dd.tup (ex_t e1 ht) (ha.ex e1)) (kit_tuple _)
    rw [isT_tuple] at i0
    refine q_when (b := false) (et_not (et_test i0)) (fun z => nomatch z) (fun _ H2 e2 => ?_)
    have e12 := e1.trans e2
    obtain ⟨sl, s2⟩ := small_tuple sm
    refine ⟨.ref am, rfl, am, xs, rfl, ex_t e12 ht, ?_⟩
    refine for_it (walk_enumT (K := K) (a := am) (xs := xs)) (fun i σ' H' => Ex H H' ∧ ∃ v4 v5, σ' = [some (.ref p), some (.ref ar), some (.ref am), some vf, v4, v5]) ⟨e12, none, none, rfl⟩
      (fun i σ' H' _ q => ex_t q.1 ht) ?_ ?_
    · rintro i x σ' H' H'' hi ⟨eH, v4, v5, rfl⟩ ⟨T1, x1, y1, rfl, hn, rfl, hx1, hy1⟩
      cases hx1
      have eN : Ex H (upd H' T1 (.tup [.int (i : Nat), y1])) := eH.trans (Ex.new hn)
      refine ⟨T1, [.int (i : Nat), y1], rfl, Or.inl (Or.inl upd_same), rfl, .int (i : Nat), [y1], rfl, y1, [], rfl, rfl, ?_⟩
      obtain ⟨d', hd', hdd⟩ := ha.get hy1
      have hm : isMove rs d' = true := List.all_eq_true.mp o2 d' (List.mem_of_getElem? hd')
      refine s_when (b := false) (et_is (et_not (et_test (ev_d (ea_cons (ev_var rfl) (ea_cons (ev_var rfl) ea_nil)) (goM (ex_t eN hs) (hdd.ex eN) (smallAll_mem s2 (List.mem_of_getElem? hd')))))) (by rw [hm]; rfl)) (fun z => nomatch z) (fun _ H3 e3 => ?_)
      exact ⟨eN.trans e3, _, _, rfl⟩
    · rintro σ' H' ⟨eH, v4, v5, rfl⟩
      refine q_when (b := false) (et_is (et_not (et_test (ev_d (ea_cons (ev_var rfl) (ea_cons (ev_var rfl) ea_nil)) (goS (ex_t eH hs) (hdf.ex eH) sf)))) (by rw [o3]; rfl)) (fun z => nomatch z) (fun _ H3 e3 => ?_)
      have e03 := eH.trans e3
      refine ⟨.ref ar, rfl, .ref p, rfl, p, C, dx, [], rfl, e03 _ _ hp, T.ins.cl, T.nR, by decide, ?_⟩
      refine ⟨.ref am, rfl, .ref p, rfl, p, C, dx, _, rfl, upd_same, T.ins.cl, T.nM, few1 _, ?_⟩
      refine ⟨vf, rfl, .ref p, rfl, p, C, dx, _, rfl, upd_same, T.ins.cl, T.nF, few2 _ _, ?_⟩
      rw [upd_upd, upd_upd]
      refine k _ (fun b o hb hne => ?_) ⟨dx, upd_same⟩
      rw [upd_ne hne]
      exact e03 b o hb
  | _ => cases o2
end
end Bk

namespace Hg
open PySem L2 Evl
section
variable {K : PySem.W.Frag} {σ : L2.St} {H H' : Hp} {te : TE} {t : TT} {x y z v : V}
mutual
theorem Dd.dp : ∀ {v : V} {d : PyData}, Dd K H v d → d.canLay0 = true → Dp K H v d
  | _, _, .non, _ => .non
  | _, _, .bl b, _ => .bl b
  | _, _, .int i, _ => .int i
  | _, _, .str x, _ => .str x
  | _, _, .lst h ha, c => .lst h (ha.dp (by simpa [PyData.canLay0] using c))
  | _, _, .tup h ha, c => .tup h (ha.dp (by simpa [PyData.canLay0] using c))
  | _, _, .dct _ _, c => by simp [PyData.canLay0] at c
theorem DdAll.dp : ∀ {vs : List V} {ds : List PyData}, DdAll K H vs ds → PyData.canLayAll0 ds = true → DpAll K H vs ds
  | _, _, .nil, _ => .nil
  | _, _, .cons (d := d) (ds := ds) h ha, c => by
    have c' : (d.canLay0 && PyData.canLayAll0 ds) = true := by simpa only [PyData.canLayAll0] using c
    obtain ⟨c1, c2⟩ := Bool.and_eq_true_iff.mp c'
    exact .cons (h.dp c1) (ha.dp c2)
end
theorem rv_same {d : PyData} (h1 : Dd K H x d) (h2 : Dd K H y d) (s : SeqAt.shaped d = true) : RV (rEqD K) x y H (.bl true) := by
  intro H1 e Q q
  have c := SeqAt.canLay_of_shaped s
  refine ⟨d, d, (h1.ex e).dp c, (h2.ex e).dp c, s, s, ?_⟩
  rw [SeqAt.eqv_refl d c]
  exact q H1 (Ex.refl H1)
theorem ex_ins {T : Addr} {o : HO} {Dl : Addr} {f : Nat → Bool} {v : Nat → V} {i : Nat} (p : Cw H f v Dl i H') (hn : H' T = none) : Cw H f v Dl i (upd H' T o) := by
  obtain ⟨p1, p2, p3⟩ := p
  refine ⟨p1, p2.trans (Ex.new hn), ?_⟩
  rw [upd_ne (ne_of_none p3 hn)]
  exact p3
/-- [e for i, x in enumerate(t) if ..], t a tuple -/
theorem el_lcE {a : Addr} {xs : List V} {ta : TA} {j1 j2 : Nat} {vs : List Nat} (f : Nat → Bool) (v : Nat → V) (h : EvA ta σ H [.ref a]) (hx : SqT K H a xs) (hz : xs.length ≤ 40000)
    (hw : ∀ x y, wipe (((wipe σ vs).set j1 (some x)).set j2 (some y)) vs = wipe σ vs)
    (ht : ∀ (i : Nat) (x : V) H1, Ex H H1 → xs[i]? = some x → EvT t (((wipe σ vs).set j1 (some (.int (i : Nat)))).set j2 (some x)) H1 (f i))
    (he : ∀ (i : Nat) (x : V) H1, Ex H H1 → xs[i]? = some x → f i = true → Ev te (((wipe σ vs).set j1 (some (.int (i : Nat)))).set j2 (some x)) H1 (v i)) :
    EvL (tLc (iEnumT K ta) (gTup K 2 (gCons (gName j1) (gCons (gName j2) gNil))) t te vs) σ H (given xs.length f v) := by
  intro H0 e Q q
  refine h H0 e _ fun H1 e1 => ⟨a, xs, rfl, ex_t (e.trans e1) hx, fun Dl hD => ?_⟩
  refine lc_it (walk_enumT (K := K) (a := a) (xs := xs)) (Cw H1 f v Dl) ⟨hD, Ex.new hD, upd_same⟩ (fun i H' _ p => ex_t ((e.trans e1).trans p.2.1) hx) ?_ fun H' p => q Dl H' (fresh_back e1 p.1) (e1.trans p.2.1) p.2.2
  rintro i x H' H'' hi p ⟨T1, x1, y1, rfl, hn, rfl, hx1, hy1⟩
  cases hx1
  refine ⟨T1, [.int (i : Nat), y1], rfl, Or.inl (Or.inl upd_same), rfl, .int (i : Nat), [y1], rfl, y1, [], rfl, rfl, hw _ _, ?_⟩
  exact cw_turn (ex_ins p hn) (by omega) (ht i y1 H1 (e.trans e1) hy1) (he i y1 H1 (e.trans e1) hy1)
theorem DdAll.pick {vs : List V} {ds : List PyData} (h : DdAll K H vs ds) : ∀ (l : List Nat), (∀ i ∈ l, i < vs.length) → DdAll K H (l.map fun i => vs.getD i .non) (l.map fun i => ds.getD i .none)
  | [], _ => .nil
  | i :: l, hl => by
    have hi := hl i List.mem_cons_self
    have e1 : vs[i]? = some (vs.getD i .non) := by rw [List.getD_eq_getElem?_getD, List.getElem?_eq_getElem hi]; rfl
    obtain ⟨d, hd, hh⟩ := h.get e1
    have e2 : ds.getD i .none = d := by rw [List.getD_eq_getElem?_getD, hd]; rfl
    refine .cons ?_ (h.pick l fun j hj => hl j (List.mem_cons_of_mem _ hj))
    show Dd K H (vs.getD i .non) (ds.getD i .none)
    rw [e2]
    exact hh
end
end Hg
namespace Bk
open PySem L2 Evl Hg
abbrev s_barred : PySem.Stmt := top 42
abbrev s_is_bar : PySem.Stmt := top 43
/-- equal books stand at a and b -/
def SameBook (K : PySem.W.Frag) (C : Addr) (a b : Addr) (H : Hp) : Prop := ∃ (vr vm vf wr wm wf : V) (dr dm df : PyData), BookAt C H a vr vm vf ∧ BookAt C H b wr wm wf ∧
  Dd K H vr dr ∧ Dd K H wr dr ∧ Dd K H vm dm ∧ Dd K H wm dm ∧ Dd K H vf df ∧ Dd K H wf df ∧ SeqAt.shaped dr = true ∧ SeqAt.shaped dm = true ∧ SeqAt.shaped df = true
theorem SameBook.ex {K : PySem.W.Frag} {C a b : Addr} {H H' : Hp} (e : Ex H H') (h : SameBook K C a b H) : SameBook K C a b H' := by
  obtain ⟨vr, vm, vf, wr, wm, wf, dr, dm, df, b1, b2, h1, h2, h3, h4, h5, h6, s1, s2, s3⟩ := h
  exact ⟨vr, vm, vf, wr, wm, wf, dr, dm, df, b1.ex e, b2.ex e, h1.ex e, h2.ex e, h3.ex e, h4.ex e, h5.ex e, h6.ex e, s1, s2, s3⟩
section
variable {P : Program} {w : World} {K : PySem.W.Frag} {mg : Str → Option Value} {base : Heap} {C : Addr} {H : Hp} {σ : L2.St}
/-- isinstance(x, Book) of a book -/
theorem ev_isBook {te : TE} {p : Addr} {vr vm vf : V} (c : C8.InsC K C) (he : Ev te σ H (.ref p)) (b : BookAt C H p vr vm vf) : Ev (tCB (rIsi K) (tCons te (tCons (tC (.ref C)) tNil))) σ H (.bl true) := by
  refine ev_cb (ea_cons he (ea_cons ev_c ea_nil)) ?_
  intro H1 e Q q
  obtain ⟨dx, hp⟩ := b
  exact ⟨.ref p, .ref C, .ref C, .ref C, true, rfl, .own C, .base (.ins (e _ _ hp) c.cl c.ha c.hn c.htk c.hm), c.me, q H1 (Ex.refl H1)⟩
theorem sc_eq : FnScope ["self", "other"] ["self", "other"] (defScope s_eq) := ⟨rfl, rfl, rfl, by decide +kernel, rfl, by decide +kernel, by decide +kernel⟩
theorem ok_eq {f : Addr} {fd : FuncData} (F : Fun K "__eq__" "Book.__eq__" s_eq f fd) (T : Tb K mg C) : FnOk P w K mg base CX0 1 f fd ["self", "other"] (spEq (SameBook K C)) := by
  refine F.ok sc_eq (fun vs H Q E h => by obtain ⟨a, b, rfl, _⟩ := h; rfl) (fun cdv A outer s H vs Q E hr h => ?_)
  obtain ⟨a, b, rfl, ⟨vr, vm, vf, wr, wm, wf, dr, dm, df, b1, b2, h1, h2, h3, h4, h5, h6, s1, s2, s3⟩, k⟩ := h
  refine ⟨_, (pss_one (ps_ret (pe_and (pe_callB call_isi (by rfl) T.b_isinstance (by decide +kernel) (pa_cons (pv 1) (pa_cons (pe_glob (v := .ref C) rfl T.c_Book rfl) pa_nil))) (pe_and (pe_cmpR (op_eqD hr.units) (pe_fld (pv 0) rfl) (pe_fld (pv 1) rfl) (nomark _)) (pe_and (pe_cmpR (op_eqD hr.units) (pe_fld (pv 0) rfl) (pe_fld (pv 1) rfl) (nomark _)) (pe_one (pe_cmpR (op_eqD hr.units) (pe_fld (pv 0) rfl) (pe_fld (pv 1) rfl) (nomark _)))))))), ?_⟩
  refine s_ret (ev_andV (b := true) (ev_isBook T.ins (ev_var rfl) b2) fun _ => ev_andV (b := true) (ev_op (ev_fld T.ins.cl T.nR (ev_var rfl) b1 (three_r _ _ _)) (ev_fld T.ins.cl T.nR (ev_var rfl) b2 (three_r _ _ _)) (rv_same h1 h2 s1)) fun _ =>
    ev_andV (b := true) (ev_op (ev_fld T.ins.cl T.nM (ev_var rfl) b1 (three_m _ _ _)) (ev_fld T.ins.cl T.nM (ev_var rfl) b2 (three_m _ _ _)) (rv_same h3 h4 s2)) fun _ =>
      ev_op (ev_fld T.ins.cl T.nF (ev_var rfl) b1 (three_f _ _ _)) (ev_fld T.ins.cl T.nF (ev_var rfl) b2 (three_f _ _ _)) (rv_same h5 h6 s3)) (fun H1 e => k H1 e)
/-- evaluates to a new book -/
def EvB (C : Addr) (te : TE) (σ : L2.St) (H : Hp) (vr vm vf : V) : Prop := ∀ H1, Ex H H1 → ∀ Q : VK, (∀ p H2, Ex H1 H2 → BookAt C H2 p vr vm vf → Q (.ref p) H2) → te σ H1 Q
/-- good parts -/
structure Parts (K : PySem.W.Frag) (H : Hp) (vr vm vf : V) (dr dm df : PyData) : Prop where
  r : Dd K H vr dr
  m : Dd K H vm dm
  f : Dd K H vf df
  sr : small dr = true
  sm : small dm = true
  sf : small df = true
  ok : bookOk dr dm df = true
theorem Parts.ex {vr vm vf : V} {dr dm df : PyData} {H H' : Hp} (e : Ex H H') (p : Parts K H vr vm vf dr dm df) : Parts K H' vr vm vf dr dm df := ⟨p.r.ex e, p.m.ex e, p.f.ex e, p.sr, p.sm, p.sf, p.ok⟩
/-- Book(..) of arguments that stand -/
theorem make_go {vr vm vf : V} {dr dm df : PyData} {Q : VK} {E : XK} (p : Parts K H vr vm vf dr dm df) (k : ∀ q H2, Ex H H2 → H q = none → BookAt C H2 q vr vm vf → Q (.ref q) H2) :
    ∀ x dx, H x = none → H dx = none → dx ≠ x → spInit K C (.ref x :: ([vr, vm, vf] ++ [])) (upd (upd H dx (.own x)) x (.ins C dx [])) (fun v H2 => v = .non ∧ Q (.ref x) H2) E := by
  intro x dx hx hdx hne
  have e1 : Ex H (upd (upd H dx (.own x)) x (.ins C dx [])) := by
    intro a o h
    rw [upd_ne (ne_of_none h hx), upd_ne (ne_of_none h hdx)]
    exact h
  have p' := p.ex e1
  refine ⟨x, dx, vr, vm, vf, dr, dm, df, rfl, upd_same, p'.r, p'.m, p'.f, p.sr, p.sm, p.sf, p.ok, fun H2 hk hb => ⟨rfl, k x H2 ?_ hx hb⟩⟩
  intro a o h
  exact hk a o (e1 a o h) (ne_of_none h hx)
def keepL (ns : List Int) (n : Nat) : List Nat := (List.range n).filter fun i => !ns.contains (i : Int)
/-- the items but those with these numbers -/
def kept (ns : List Int) (ms : List PyData) : List PyData := (keepL ns ms.length).map fun i => ms.getD i .none
theorem kept_sub {ns : List Int} {ms : List PyData} {d : PyData} (h : d ∈ kept ns ms) : d ∈ ms := by
  obtain ⟨i, hi, rfl⟩ := List.mem_map.mp h
  have hl : i < ms.length := List.mem_range.mp (List.mem_filter.mp hi).1
  rw [List.getD_eq_getElem?_getD, List.getElem?_eq_getElem hl]
  exact List.getElem_mem hl
theorem kept_len (ns : List Int) (ms : List PyData) : (kept ns ms).length ≤ ms.length := by
  unfold kept keepL
  rw [List.length_map]
  have := List.length_filter_le (fun i : Nat => !ns.contains (i : Int)) (List.range ms.length)
  rw [List.length_range] at this
  exact this
theorem smallAll_of : ∀ {ds : List PyData}, (∀ d ∈ ds, small d = true) → smallAll ds = true
  | [], _ => by simp only [smallAll]
  | d :: ds, h => by
    simp only [smallAll, Bool.and_eq_true]
    exact ⟨h d List.mem_cons_self, smallAll_of fun c hc => h c (List.mem_cons_of_mem _ hc)⟩
theorem small_kept {ns : List Int} {ms : List PyData} (h : small (.tuple ms) = true) : small (.tuple (kept ns ms)) = true := by
  obtain ⟨h1, h2⟩ := small_tuple h
  simp only [small, Bool.and_eq_true, decide_eq_true_eq]
  have := kept_len ns ms
  exact ⟨by omega, smallAll_of fun d hd => smallAll_mem h2 (kept_sub hd)⟩
theorem ok_kept {dr df : PyData} {ms : List PyData} {ns : List Int} (h : bookOk dr (.tuple ms) df = true) : bookOk dr (.tuple (kept ns ms)) df = true := by
  obtain ⟨h1, h23⟩ := Bool.and_eq_true_iff.mp h
  obtain ⟨h2, h3⟩ := Bool.and_eq_true_iff.mp h23
  unfold bookOk
  rw [h1, h3, Bool.true_and, Bool.and_true]
  exact List.all_eq_true.mpr fun d hd => List.all_eq_true.mp h2 d (kept_sub hd)
/-- without_moves -/
def spWo (K : PySem.W.Frag) (C : Addr) : Sp := fun vs H Q _ => ∃ (p nb : Addr) (ns : List Int) (vr vm vf : V) (dr df : PyData) (ms : List PyData), vs = [.ref p, .ref nb] ∧ BookAt C H p vr vm vf ∧ Parts K H vr vm vf dr (.tuple ms) df ∧ SqT K H nb (ns.map V.int) ∧
  ∀ q wm H2, Ex H H2 → BookAt C H2 q vr wm vf → Dd K H2 wm (.tuple (kept ns ms)) → Q (.ref q) H2
theorem sc_wo : FnScope ["self", "numbers", "moves", "number", "move"] ["self", "numbers"] (defScope s_without) := ⟨rfl, rfl, rfl, by decide +kernel, rfl, by decide +kernel, by decide +kernel⟩
theorem ok_wo {f fI : Addr} {fd fdI : FuncData} (F : Fun K "without_moves" "Book.without_moves" s_without f fd) (T : Tb K mg C) (M : Mk K C fI) (GI : FnOk P w K mg base CX0 7 fI fdI ["self", "rooms", "moves", "first"] (spInit K C))
    (bI : Binds K fdI ["self", "rooms", "moves", "first"] []) : FnOk P w K mg base CX0 9 f fd ["self", "numbers"] (spWo K C) := by
  refine F.ok sc_wo (fun vs H Q E h => by obtain ⟨p, nb, ns, vr, vm, vf, dr, df, ms, rfl, _⟩ := h; rfl) (fun cdv A outer s H vs Q E hr h => ?_)
  obtain ⟨p, nb, ns, vr, vm, vf, dr, df, ms, rfl, hb, pa, hns, k⟩ := h
  refine ⟨_, (pss_cons (ps_setLc (i := 2) (own := [("number", 3), ("move", 4)]) rfl sc_wo.nd rfl rfl (sw_true rfl rfl rfl (by decide +kernel)) (pi_enumT rfl T.b_enumerate (pa_cons (pe_fld (pv 0) rfl) pa_nil)) (blkOk_by (own := [("number", 3), ("move", 4)]) (N := ["self", "numbers", "moves", "number", "move"]) (sc := defScope s_without) (by decide +kernel)) (fun _ _ _ _ _ => (pg_tupK K (n := 2) rfl (pgs_cons (pg_name (i := 3) sc_wo.nd rfl (Or.inl rfl)) (pgs_cons (pg_name (i := 4) sc_wo.nd rfl (Or.inl rfl)) pgs_nil)))) (fun _ _ _ _ _ => (pts_one (pt_cmpR (op_ninK K) (pv 3) (pv 1) (by rfl)))) (fun _ _ _ _ _ => (pv 4)))
  (pss_one (ps_ret (pe_make M GI hr rfl T.c_Book bI .nil pass0 (pa_cons (pe_fld (pv 0) rfl) (pa_cons (pe_callTy call_tuple_of (by rfl) T.b_tuple (by decide +kernel) (pa_cons (pv 2) pa_nil)) (pa_cons (pe_fld (pv 0) rfl) pa_nil))))))), ?_⟩
  have hm := pa.m
  cases hm with
  | tup ht ha =>
    rename_i am xs
    have hz := (small_tuple pa.sm).1
    have hxl := ha.length
    have el := el_lcE (K := K) (σ := start ["self", "numbers", "moves", "number", "move"] [.ref p, .ref nb]) (H := H) (ta := tCons (tFld K (tVar 0) "moves") tNil) (t := tOp (rIn K true) (tVar 3) (tVar 1)|> tTest) (te := tVar 4) (j1 := 3) (j2 := 4) (vs := [3, 4])
      (fun i => !ns.contains (i : Int)) (fun i => xs.getD i .non) (ea_cons (ev_fld T.ins.cl T.nM (ev_var rfl) hb (three_m _ _ _)) ea_nil) ht (by omega) (fun _ _ => rfl) ?_ ?_
    · refine q_asgL el fun l H1 hl e1 h1 => ?_
      have eg : given xs.length (fun i => !ns.contains (i : Int)) (fun i => xs.getD i .non) = (keepL ns ms.length).map fun i => xs.getD i .non := by
        unfold given keepL
        rw [hxl]
      have hpick := ha.pick (keepL ns ms.length) fun i hi => by
        have := List.mem_range.mp (List.mem_filter.mp hi).1
        omega
      rw [eg] at h1
      dsimp only [tRet, tMake, tCons, tCB, tNil]
      refine (ev_fld (te := tVar 0) (σ := [some (.ref p), some (.ref nb), some (.ref l), none, none]) T.ins.cl T.nR (ev_var rfl) (hb.ex e1) (three_r _ _ _)) H1 (Ex.refl _) _ fun H2 e2 => ?_
      refine ⟨.ref l, rfl, l, _, rfl, Or.inl ⟨sq_of (e2 _ _ h1), fun q hq => ?_⟩⟩
      have e12 := e1.trans e2
      have e3 : Ex H (upd H2 q (.tup ((keepL ns ms.length).map fun i => xs.getD i .non))) := e12.trans (Ex.new hq)
      refine (ev_fld (te := tVar 0) (σ := [some (.ref p), some (.ref nb), some (.ref l), none, none]) T.ins.cl T.nF (ev_var rfl) (hb.ex e3) (three_f _ _ _)) _ (Ex.refl _) _ fun H3 e4 => ?_
      have e5 := e3.trans e4
      have hq3 : H3 q = some (.tup ((keepL ns ms.length).map fun i => xs.getD i .non)) := e4 _ _ upd_same
      have hd3 : Dd K H3 (.ref q) (.tuple (kept ns ms)) := .tup (st_of hq3) (hpick.ex e5)
      have p3 : Parts K H3 vr (.ref q) vf dr (.tuple (kept ns ms)) df := ⟨pa.r.ex e5, hd3, pa.f.ex e5, pa.sr, small_kept pa.sm, pa.sf, ok_kept pa.ok⟩
      exact make_go p3 fun b H4 e6 _ hb4 => k b (.ref q) H4 (e5.trans e6) hb4 (hd3.ex e6)
    · intro i x H1 e hx
      have := et_test (ev_op (ev_var (σ := ((wipe (start ["self", "numbers", "moves", "number", "move"] [V.ref p, .ref nb]) [3, 4]).set 3 (some (.int (i : Nat)))).set 4 (some x)) (H := H1) (i := 3) rfl) (ev_var (i := 1) rfl) (rv_niT (K := K) (x := .int (i : Nat)) (ex_t e hns) rfl (flat_ints _)))
      rw [in_ints] at this
      exact this
    · intro i x H1 e hx _
      have : xs.getD i .non = x := by rw [List.getD_eq_getElem?_getD, hx]; rfl
      rw [this]
      exact ev_var rfl
end
end Bk

namespace Bk
open PySem L2 Evl Hg
/-! the deck: cells, a mixed number, how many draws -/
abbrev s_deck : PySem.Stmt := top 45
abbrev s_draw : PySem.Stmt := top 46
abbrev s_pick : PySem.Stmt := top 47
def deck3 (c : Addr) (m n : Int) : List (Key × V) := [(.inr "cells", .ref c), (.inr "mixed", .int m), (.inr "turn", .int n)]
theorem k_cm : ¬ ((Sum.inr ("cells" : Str) : Key) = Sum.inr ("mixed" : Str)) := fun z => absurd (Sum.inr.inj z) (by decide +kernel)
theorem k_ct : ¬ ((Sum.inr ("cells" : Str) : Key) = Sum.inr ("turn" : Str)) := fun z => absurd (Sum.inr.inj z) (by decide +kernel)
theorem k_mt : ¬ ((Sum.inr ("mixed" : Str) : Key) = Sum.inr ("turn" : Str)) := fun z => absurd (Sum.inr.inj z) (by decide +kernel)
section
variable {H : Hp} {p c : Addr} {m n : Int}
theorem dg_c (h : H p = some (.dK (deck3 c m n))) : DGet H p (.str "cells") (some (.ref c)) := by
  have z := DGet.k (k := .inr "cells") h
  rw [deck3, valV_pos rfl] at z
  exact z
theorem dg_m (h : H p = some (.dK (deck3 c m n))) : DGet H p (.str "mixed") (some (.int m)) := by
  have z := DGet.k (k := .inr "mixed") h
  rw [deck3, valV_neg k_cm, valV_pos rfl] at z
  exact z
theorem dg_t (h : H p = some (.dK (deck3 c m n))) : DGet H p (.str "turn") (some (.int n)) := by
  have z := DGet.k (k := .inr "turn") h
  rw [deck3, valV_neg k_ct, valV_neg k_mt, valV_pos rfl] at z
  exact z
theorem put_t (n' : Int) : putK (deck3 c m n) (.inr "turn") (.int n') = deck3 c m n' := by
  unfold putK deck3
  rw [if_pos (by simp)]
  simp only [List.map_cons, List.map_nil]
  rw [if_neg k_ct, if_neg k_mt, if_pos trivial]
end
/-- a deck stands at p, its cells at c, at most k draws so far -/
structure Dk (p c : Addr) (k : Nat) (H : Hp) : Prop where
  ex : ∃ (ns : List Int) (m n : Int), H p = some (.dK (deck3 c m n)) ∧ H c = some (.lst (ns.map V.int)) ∧ ns.length ≤ 63 ∧ 0 ≤ m ∧ m < 4294967296 ∧ 0 ≤ n ∧ n ≤ k
theorem Dk.ne {p c : Addr} {k : Nat} {H : Hp} (d : Dk p c k H) : p ≠ c := by
  obtain ⟨ns, m, n, h1, h2, _⟩ := d.ex
  exact ne_of h1 h2 (by intro z; cases z)
theorem Dk.mono {p c : Addr} {k j : Nat} {H : Hp} (d : Dk p c k H) (h : k ≤ j) : Dk p c j H := by
  obtain ⟨ns, m, n, h1, h2, h3, h4, h5, h6, h7⟩ := d.ex
  exact ⟨ns, m, n, h1, h2, h3, h4, h5, h6, by omega⟩
theorem Dk.up {p c : Addr} {k : Nat} {H H' : Hp} (d : Dk p c k H) (e : Ex H H') : Dk p c k H' := by
  obtain ⟨ns, m, n, h1, h2, h⟩ := d.ex
  exact ⟨ns, m, n, e _ _ h1, e _ _ h2, h⟩
/-- all else stands -/
def Kp (p c : Addr) (H H' : Hp) : Prop := ∀ a o, H a = some o → a ≠ p → a ≠ c → H' a = some o
theorem Kp.of {p c : Addr} {H H' : Hp} (e : Ex H H') : Kp p c H H' := fun a o h _ _ => e a o h
theorem Kp.trans {p c : Addr} {H H1 H2 : Hp} (a : Kp p c H H1) (b : Kp p c H1 H2) : Kp p c H H2 := fun x o h h1 h2 => b x o (a x o h h1 h2) h1 h2
theorem Kp.updp {p c : Addr} {H H1 : Hp} {o : HO} (a : Kp p c H H1) : Kp p c H (upd H1 p o) := fun x u h h1 h2 => by
  rw [upd_ne h1]
  exact a x u h h1 h2
theorem Kp.updc {p c : Addr} {H H1 : Hp} {o : HO} (a : Kp p c H H1) : Kp p c H (upd H1 c o) := fun x u h h1 h2 => by
  rw [upd_ne h2]
  exact a x u h h1 h2
theorem Kp.new {p c l : Addr} {H H1 : Hp} {o : HO} (a : Kp p c H H1) (hl : H1 l = none) : Kp p c H (upd H1 l o) := a.trans (Kp.of (Ex.new hl))
def spDraw : Sp := fun vs H Q _ => ∃ (p c : Addr) (k : Nat) (b : Int), vs = [.ref p, .int b] ∧ Dk p c k H ∧ 1 ≤ b ∧ b ≤ 1000 ∧ k ≤ 1000000 ∧
  ∀ i H2, 0 ≤ i → i < b → Dk p c (k + 1) H2 → Kp p c H H2 → Q (.int i) H2
section
variable {P : Program} {w : World} {K : PySem.W.Frag} {mg : Str → Option Value} {base : Heap} {H : Hp} {σ : L2.St}
theorem sc_draw : FnScope ["_law_deck_here", "_law_below", "_law_mixed", "_law_cell"] ["_law_deck_here", "_law_below"] (defScope s_draw) := ⟨rfl, rfl, rfl, by decide +kernel, rfl, by decide +kernel, by decide +kernel⟩
theorem canLay_ints : ∀ ns : List Int, PyData.canLayAll0 (ns.map PyData.int) = true
  | [] => rfl
  | n :: ns => by
    show (PyData.canLay0 (.int n) && PyData.canLayAll0 (ns.map PyData.int)) = true
    rw [canLay_ints ns]
    rfl
theorem depth_ints : ∀ ns : List Int, PyData.depthAll (ns.map PyData.int) = 0
  | [] => rfl
  | n :: ns => by
    show max (PyData.depth (.int n)) (PyData.depthAll (ns.map PyData.int)) = 0
    rw [depth_ints ns]
    rfl
theorem dp_ints {K : PySem.W.Frag} {H : Hp} : ∀ ns : List Int, DpAll K H (ns.map V.int) (ns.map PyData.int)
  | [] => .nil
  | n :: ns => .cons (.int n) (dp_ints ns)
theorem shaped_ints (ns : List Int) : SeqAt.shaped (.list (ns.map PyData.int)) = true := by
  unfold SeqAt.shaped
  rw [show PyData.canLay0 (.list (ns.map PyData.int)) = true by simp only [PyData.canLay0]; exact canLay_ints ns, show PyData.depth (.list (ns.map PyData.int)) = 1 by simp only [PyData.depth]; rw [depth_ints]]
  rfl
theorem ok_draw {f : Addr} {fd : FuncData} (F : Fun K "_law_draw" "_law_draw" s_draw f fd) (T : Tx K mg) : FnOk P w K mg base CX0 1 f fd ["_law_deck_here", "_law_below"] spDraw := by
  refine F.ok sc_draw (fun vs H Q E h => by obtain ⟨p, c, k, b, rfl, _⟩ := h; rfl) (fun cdv A outer s H vs Q E hr h => ?_)
  obtain ⟨p, c, k, b, rfl, dk, hb1, hb2, hk, kk⟩ := h
  have hu := hu_of hr
  have hpc := dk.ne
  obtain ⟨ns, m, n, hp, hc, hl, hm0, hm1, hn0, hn1⟩ := dk.ex
  refine ⟨_, (pss_cons (ps_dput hu (pv 0) pe_str (pe_op op_add (pe_dget hu (pv 0) pe_str (fun _ _ => rfl)) pe_int) rfl)
  (pss_cons (ps_set (i := 2) sc_draw.nd rfl (Or.inl rfl) (pe_op op_add (pe_dget hu (pv 0) pe_str (fun _ _ => rfl)) (pe_op op_mul (pe_op op_mul pe_int (pe_dget hu (pv 0) pe_str (fun _ _ => rfl))) (pe_dget hu (pv 0) pe_str (fun _ _ => rfl)))))
  (pss_cons (ps_if (pt_cmpR (op_neD hr.units) (pe_dget hu (pv 0) pe_str (fun _ _ => rfl)) (pe_lst pa_nil) (nomark _)) (pss_cons (ps_set (i := 3) sc_draw.nd rfl (Or.inl rfl) (pe_bm0 PySem.F.plainAttrs_list PySem.F.slot_list_pop PySem.F.type_list_pop mt_pop (pe_dget hu (pv 0) pe_str (fun _ _ => rfl))))
  (pss_cons (ps_if (pt_cmpR op_ge (pv 3) (pe_op op_pow pe_int pe_int) (nomark _)) (pss_cons (ps_expr (pe_bm PySem.F.plainAttrs_list PySem.F.slot_list_append PySem.F.type_list_append mt_append (pe_dget hu (pv 0) pe_str (fun _ _ => rfl)) (pa_cons (pe_op op_fdiv (pv 3) (pv 1)) pa_nil)))
  (pss_one (ps_ret (pe_op op_mod (pe_callTy call_int1 (by rfl) T.b_int (by decide +kernel) (pa_cons (pv 3) pa_nil)) (pv 1))))) pss_nil)
  (pss_one (ps_set (i := 2) sc_draw.nd rfl (Or.inl rfl) (pe_op op_add (pv 2) (pe_op op_mod (pe_callTy call_int1 (by rfl) T.b_int (by decide +kernel) (pa_cons (pv 3) pa_nil)) pe_int)))))) pss_nil)
  (pss_cons (ps_set (i := 2) sc_draw.nd rfl (Or.inl rfl) (pe_op op_mod (pe_callTy call_int1 (by rfl) T.b_int (by decide +kernel) (pa_cons (pe_op op_add (pe_op op_mul (pe_op op_mod (pv 2) pe_int) pe_int) (pe_dget hu (pv 0) pe_str (fun _ _ => rfl))) pa_nil)) pe_int))
  (pss_cons (ps_set (i := 2) sc_draw.nd rfl (Or.inl rfl) (pe_op op_mod (pe_callTy call_int1 (by rfl) T.b_int (by decide +kernel) (pa_cons (pe_op op_add (pe_op op_add (pe_op op_mul (pv 2) (pv 2)) (pe_op op_mul pe_int (pe_dget hu (pv 0) pe_str (fun _ _ => rfl)))) pe_int) pa_nil)) pe_int))
  (pss_one (ps_ret (pe_op op_mod (pe_op op_fdiv (pe_op op_mod (pe_callTy call_int1 (by rfl) T.b_int (by decide +kernel) (pa_cons (pe_op op_mul (pv 2) pe_int) pa_nil)) pe_int) pe_int) (pv 1))))))))), ?_⟩
  -- the draw is counted
  refine ⟨.ref p, rfl, p, .int n, rfl, dg_t hp, n, 1, rfl, rfl, .ref p, rfl, p, _, rfl, DPut.k (k := .inr "turn") hp (by show 3 < sizeLine; decide), ?_⟩
  rw [put_t]
  have hp1 : (upd H p (.dK (deck3 c m (n + 1)))) p = some (.dK (deck3 c m (n + 1))) := upd_same
  have hc1 : (upd H p (.dK (deck3 c m (n + 1)))) c = some (.lst (ns.map V.int)) := by rw [upd_ne hpc.symm]; exact hc
  have kp1 : Kp p c H (upd H p (.dK (deck3 c m (n + 1)))) := (Kp.of (Ex.refl H)).updp
  generalize upd H p (.dK (deck3 c m (n + 1))) = H1 at hp1 hc1 kp1
  refine ⟨.ref p, rfl, p, .int m, rfl, dg_m hp1, .ref p, rfl, p, .int (n + 1), rfl, dg_t hp1, 186753, n + 1, rfl, rfl, Or.inl (by decide), .ref p, rfl, p, .int (n + 1), rfl, dg_t hp1, _, n + 1, rfl, rfl, Or.inr (by omega), m, _, rfl, rfl, ?_⟩
  -- what follows the cells
  have rest : ∀ (x : Int) (v : Option V) (ns' : List Int) (H' : Hp), H' p = some (.dK (deck3 c m (n + 1))) → H' c = some (.lst (ns'.map V.int)) → ns'.length ≤ 63 → Kp p c H H' → ∀ D : Ends, D.rt = Q →
      tSeq (tAsg (tOp (rI (fun _ j => 0 < j) fun i j => V.int (i % j)) (tCB (fun xs H Q => (∃ i, xs = [V.int i] ∧ Q (.int i) H) ∨ ∃ k : Bool, xs = [V.bl k] ∧ Q (.int (if k then 1 else 0)) H) (tCons (tOp (rI0 fun i j => V.int (i + j)) (tOp (rI CMul fun i j => V.int (i * j)) (tOp (rI (fun _ j => 0 < j) fun i j => V.int (i % j)) (tVar 2) (tC (.int 2147483549))) (tC (.int 40692))) (tDGet (tVar 0) (tC (.str "turn")))) tNil)) (tC (.int 2147483647))) (gName 2))
        (tSeq (tAsg (tOp (rI (fun _ j => 0 < j) fun i j => V.int (i % j)) (tCB (fun xs H Q => (∃ i, xs = [V.int i] ∧ Q (.int i) H) ∨ ∃ k : Bool, xs = [V.bl k] ∧ Q (.int (if k then 1 else 0)) H) (tCons (tOp (rI0 fun i j => V.int (i + j)) (tOp (rI0 fun i j => V.int (i + j)) (tOp (rI CMul fun i j => V.int (i * j)) (tVar 2) (tVar 2)) (tOp (rI CMul fun i j => V.int (i * j)) (tC (.int 69621)) (tDGet (tVar 0) (tC (.str "turn"))))) (tC (.int 239))) tNil)) (tC (.int 2147483579))) (gName 2))
          (tRet (tOp (rI (fun _ j => 0 < j) fun i j => V.int (i % j)) (tOp (rI CDiv fun i j => V.int (i / j)) (tOp (rI (fun _ j => 0 < j) fun i j => V.int (i % j)) (tCB (fun xs H Q => (∃ i, xs = [V.int i] ∧ Q (.int i) H) ∨ ∃ k : Bool, xs = [V.bl k] ∧ Q (.int (if k then 1 else 0)) H) (tCons (tOp (rI CMul fun i j => V.int (i * j)) (tVar 2) (tC (.int 39373))) tNil)) (tC (.int 2147483629))) (tC (.int 64))) (tVar 1)))) D
        [some (.ref p), some (.int b), some (.int x), v] H' := by
    intro x v ns' H' h1 h2 h3 h4 D hD
    refine ⟨.int x, rfl, x, 2147483549, rfl, rfl, (by show (0 : Int) < 2147483549; decide), _, 40692, rfl, rfl, Or.inr (by decide), .ref p, rfl, p, .int (n + 1), rfl, dg_t h1, _, n + 1, rfl, rfl, Or.inl ⟨_, rfl, _, 2147483647, rfl, rfl, (by show (0 : Int) < 2147483647; decide), ?_⟩⟩
    dsimp only
    generalize hy : (x % 2147483549 * 40692 + (n + 1)) % 2147483647 = y
    have hy0 : 0 ≤ y := by rw [← hy]; exact Int.emod_nonneg _ (by decide)
    have hy1 : y < 2147483647 := by rw [← hy]; exact Int.emod_lt_of_pos _ (by decide)
    refine ⟨.int y, rfl, .int y, rfl, y, y, rfl, rfl, Or.inl (by omega), .ref p, rfl, p, .int (n + 1), rfl, dg_t h1, 69621, n + 1, rfl, rfl, Or.inl (by decide), _, _, rfl, rfl, _, 239, rfl, rfl, Or.inl ⟨_, rfl, _, 2147483579, rfl, rfl, (by show (0 : Int) < 2147483579; decide), ?_⟩⟩
    dsimp only
    generalize (y * y + 69621 * (n + 1) + 239) % 2147483579 = z
    refine ⟨.int z, rfl, z, 39373, rfl, rfl, Or.inr (by decide), Or.inl ⟨_, rfl, _, 2147483629, rfl, rfl, (by show (0 : Int) < 2147483629; decide), _, 64, rfl, rfl, ⟨by decide, by decide⟩, .int b, rfl, _, b, rfl, rfl, by omega, ?_⟩⟩
    show D.rt _ _
    rw [hD]
    exact kk _ H' (Int.emod_nonneg _ (by omega)) (Int.emod_lt_of_pos _ (by omega)) ⟨ns', m, n + 1, h1, h2, h3, hm0, hm1, by omega, by omega⟩ h4
  -- if there are cells
  refine ⟨.ref p, rfl, p, .ref c, rfl, dg_c hp1, by show 0 ≤ sizeLine; decide, fun l hl0 => ?_⟩
  have e2 : Ex H1 (upd H1 l (.lst [])) := Ex.new hl0
  have hp2 := e2 _ _ hp1
  have hc2 := e2 _ _ hc1
  have kp2 := kp1.new (o := .lst []) hl0
  have hl2 : (upd H1 l (.lst [])) l = some (.lst []) := upd_same
  generalize upd H1 l (.lst []) = H2 at e2 hp2 hc2 kp2 hl2
  refine ⟨.list (ns.map .int), .list [], .lst (SqL.of hc2) (dp_ints ns), .lst (SqL.of hl2) .nil, shaped_ints ns, rfl, _, rfl, ?_⟩
  have hns : ns = [] ∨ ∃ r y, ns = r ++ [y] := by
    rcases List.eq_nil_or_concat ns with h | ⟨r, y, h⟩
    · exact Or.inl h
    · exact Or.inr ⟨r, y, by rw [h, List.concat_eq_append]⟩
  rcases hns with rfl | ⟨r, y, rfl⟩
  · refine iteF ?_
    exact rest _ _ [] H2 hp2 hc2 (by decide) kp2 _ rfl
  · have ne : (!PyData.eqv (.list ((r ++ [y]).map PyData.int)) (.list [])) = true := by
      cases r <;> rfl
    rw [ne]
    refine iteT ?_
    refine ⟨.ref p, rfl, p, .ref c, rfl, dg_c hp2, Or.inl ⟨rfl, _, SqL.of hc2⟩, c, _, .int y, rfl, rfl, hc2, by simp, ?_⟩
    have ed : ((r ++ [y]).map V.int).dropLast = r.map V.int := by simp
    rw [ed]
    have hp3 : (upd H2 c (.lst (r.map V.int))) p = some (.dK (deck3 c m (n + 1))) := by rw [upd_ne hpc]; exact hp2
    have hc3 : (upd H2 c (.lst (r.map V.int))) c = some (.lst (r.map V.int)) := upd_same
    have kp3 := kp2.updc (o := .lst (r.map V.int))
    generalize upd H2 c (.lst (r.map V.int)) = H3 at hp3 hc3 kp3
    have hrl : r.length ≤ 62 := by simp at hl; omega
    refine ⟨.int y, rfl, 10, 18, rfl, rfl, ⟨by decide, by decide, by decide⟩, y, _, rfl, rfl, _, rfl, ?_⟩
    refine ite2 (fun hy => ?_) (fun hy => ?_)
    · refine ⟨.ref p, rfl, p, .ref c, rfl, dg_c hp3, Or.inl ⟨rfl, _, SqL.of hc3⟩, .int y, rfl, .int b, rfl, y, b, rfl, rfl, ⟨by omega, by omega⟩, c, _, _, rfl, rfl, hc3, small1000 (by rw [List.length_map]; omega), ?_⟩
      have ea : r.map V.int ++ [V.int (y / b)] = (r ++ [y / b]).map V.int := by simp
      rw [ea]
      refine ⟨.int y, rfl, Or.inl ⟨y, rfl, .int b, rfl, y, b, rfl, rfl, by omega, ?_⟩⟩
      refine kk _ _ (Int.emod_nonneg _ (by omega)) (Int.emod_lt_of_pos _ (by omega)) ⟨r ++ [y / b], m, n + 1, ?_, upd_same, by simp; omega, hm0, hm1, by omega, by omega⟩ kp3.updc
      rw [upd_ne hpc]
      exact hp3
    · refine ⟨.int _, rfl, .int y, rfl, Or.inl ⟨y, rfl, y, 2147483563, rfl, rfl, (by show (0 : Int) < 2147483563; decide), _, _, rfl, rfl, ?_⟩⟩
      exact rest _ _ r H3 hp3 hc3 (by omega) kp3 _ rfl
end
end Bk

namespace Bk
open PySem L2 Evl Hg
/-- H without the objects of S -/
def hid (S : List Addr) (H : Hp) : Hp := fun b => if b ∈ S then none else H b
section
variable {S : List Addr} {H H' H1 H2 : Hp} {a b p c : Addr} {o u : HO} {k : Nat} {K : PySem.W.Frag}
theorem hid_le : Ex (hid S H) H := fun b o h => by
  unfold hid at h
  split at h
  · cases h
  · exact h
theorem hid_of (h : H a = some o) (n : a ∉ S) : hid S H a = some o := by
  unfold hid
  rw [if_neg n]
  exact h
theorem of_hid (h : hid S H a = some o) : H a = some o ∧ a ∉ S := by
  unfold hid at h
  split at h
  · cases h
  · exact ⟨h, ‹_›⟩
theorem hid_ex (e : Ex H H') : Ex (hid S H) (hid S H') := fun b o h => by
  obtain ⟨h1, h2⟩ := of_hid h
  exact hid_of (e _ _ h1) h2
theorem hid_kp (hp : p ∈ S) (hc : c ∈ S) (e : Kp p c H H') : Ex (hid S H) (hid S H') := fun b o h => by
  obtain ⟨h1, h2⟩ := of_hid h
  exact hid_of (e _ _ h1 (fun z => h2 (z ▸ hp)) (fun z => h2 (z ▸ hc))) h2
theorem hid_less {S' : List Addr} (h : ∀ a ∈ S, a ∈ S') : Ex (hid S' H) (hid S H) := fun b u hb => by
  obtain ⟨h1, h2⟩ := of_hid hb
  exact hid_of h1 fun z => h2 (h _ z)
end
end Bk

namespace Bk
open PySem L2 Evl Hg
theorem kp_l {K : PySem.W.Frag} {H H' : Hp} {p c a : Addr} {xs : List V} (e : Kp p c H H') (h1 : a ≠ p) (h2 : a ≠ c) (h : SqL K H a xs) : SqL K H' a xs := by
  rcases h with (h | ⟨o, h⟩) | h
  · exact .inl (.inl (e _ _ h h1 h2))
  · exact .inl (.inr ⟨o, e _ _ h h1 h2⟩)
  · exact .inr h
def spPick (K : PySem.W.Frag) : Sp := fun vs H Q _ => ∃ (p c a : Addr) (k : Nat) (xs : List V), vs = [.ref p, .ref a] ∧ Dk p c k H ∧ SqL K (hid [p, c] H) a xs ∧ 1 ≤ xs.length ∧ xs.length ≤ 1000 ∧ k ≤ 1000000 ∧
  ∀ (i : Nat) (x : V) (H2 : Hp), xs[i]? = some x → Dk p c (k + 1) H2 → Kp p c H H2 → Q x H2
def spDeck (K : PySem.W.Frag) : Sp := fun vs H Q _ => ∃ (a : Addr) (ns : List Int), vs = [.ref a] ∧ SqL K H a (ns.map V.int) ∧ ns.length ≤ 63 ∧
  ∀ p c H2, Ex H H2 → H p = none → H c = none → Dk p c 0 H2 → Q (.ref p) H2
structure Tz (K : PySem.W.Frag) (mg : Str → Option Value) : Prop extends Ty K mg where
  b_list : mg "list" = none
  b_repr : mg "repr" = none
section
variable {P : Program} {w : World} {K : PySem.W.Frag} {mg : Str → Option Value} {base : Heap} {H : Hp} {σ : L2.St}
theorem sc_pick : FnScope ["_law_deck_here", "_law_some"] ["_law_deck_here", "_law_some"] (defScope s_pick) := ⟨rfl, rfl, rfl, by decide +kernel, rfl, by decide +kernel, by decide +kernel⟩
theorem ok_pick {f : Addr} {fd : FuncData} (F : Fun K "_law_pick" "_law_pick" s_pick f fd) (T : Tx K mg) (G : Df P w K mg base 1 "_law_draw" spDraw) : FnOk P w K mg base CX0 2 f fd ["_law_deck_here", "_law_some"] (spPick K) := by
  refine F.ok sc_pick (fun vs H Q E h => by obtain ⟨p, c, a, k, xs, rfl, _⟩ := h; rfl) (fun cdv A outer s H vs Q E hr h => ?_)
  obtain ⟨p, c, a, k, xs, rfl, dk, ha, h3, h4, hk, kk⟩ := h
  refine ⟨_, (pss_one (ps_ret (pe_ix ix_list (pv 1) (pe_d G hr (by decide) rfl (pa_cons (pv 0) (pa_cons (pe_callB call_len (by rfl) T.b_len (by decide +kernel) (pa_cons (pv 1) pa_nil)) pa_nil))) (fun _ _ => rfl)))), ?_⟩
  refine ⟨.ref a, rfl, .ref p, rfl, .ref a, rfl, _, xs.length, rfl, Or.inl ⟨xs, ex_l hid_le ha, rfl⟩, p, c, k, xs.length, rfl, dk, by omega, by omega, hk, fun i H2 i0 i1 dk2 kp => ?_⟩
  have hi : i.toNat < xs.length := by omega
  have hx : xs[i.toNat]? = some xs[i.toNat] := List.getElem?_eq_getElem hi
  refine ⟨a, xs, i, xs[i.toNat], rfl, rfl, ex_l hid_le (ex_l (hid_kp (by simp) (by simp) kp) ha), ?_, kk _ _ H2 hx dk2 kp⟩
  have := atI_nat hx
  rw [show ((i.toNat : Nat) : Int) = i by omega] at this
  exact this
theorem cut63 {n : Nat} (h : n ≤ 63) : HT.sIx n n (some 63) = n ∧ HT.sIx n 0 none = 0 := by
  refine ⟨?_, rfl⟩
  show HT.sIx n n (some ((63 : Nat) : Int)) = n
  rw [HT.sIx_nat]
  omega
theorem sc_deck : FnScope ["_law_script", "_law_cells", "_law_mixed", "_law_cell"] ["_law_script"] (defScope s_deck) := ⟨rfl, rfl, rfl, by decide +kernel, rfl, by decide +kernel, by decide +kernel⟩
theorem ok_deck {f : Addr} {fd : FuncData} (F : Fun K "_law_deck" "_law_deck" s_deck f fd) (T : Tz K mg) : FnOk P w K mg base CX0 1 f fd ["_law_script"] (spDeck K) := by
  refine F.ok sc_deck (fun vs H Q E h => by obtain ⟨a, ns, rfl, _⟩ := h; rfl) (fun cdv A outer s H vs Q E hr h => ?_)
  obtain ⟨a, ns, rfl, ha, hl, kk⟩ := h
  refine ⟨_, (pss_cons (ps_par (by rfl) sc_deck.nd (i := 1) (j := 2) rfl rfl (by decide) rfl rfl (pa_cons (pe_callTy call_list_of (by rfl) T.b_list (by decide +kernel) (pa_cons (pe_slice sl_list (pv 0) po_none (po_some pe_int)) pa_nil)) (pa_cons pe_int pa_nil)) (by rfl))
  (pss_cons (ps_for PassesOwn.never rfl (pi_list (pv 1)) (pg_name (i := 3) sc_deck.nd rfl (Or.inl rfl)) (pss_one (ps_set (i := 2) sc_deck.nd rfl (Or.inl rfl) (pe_op op_mod (pe_callTy call_int1 (by rfl) T.b_int (by decide +kernel) (pa_cons (pe_op op_add (pe_op op_add (pe_op op_mul (pv 2) pe_int) (pe_op op_mod (pe_callTy call_int1 (by rfl) T.b_int (by decide +kernel) (pa_cons (pv 3) pa_nil)) pe_int)) pe_int) pa_nil)) pe_int))))
  (pss_one (ps_ret (pe_disp (pps_cons pe_str (pe_revL (pv 1)) (pps_cons pe_str (pv 2) (pps_cons pe_str pe_int pps_nil))) (by rfl) (by rfl) (fun z => by cases z) (by decide)))))), ?_⟩
  have hlen : (ns.map V.int).length = ns.length := List.length_map _
  have hcut : cutV (ns.map V.int) none (some 63) = ns.map V.int := by
    unfold cutV
    rw [hlen]
    obtain ⟨e1, e2⟩ := cut63 hl
    rw [e1, e2, List.drop_zero, Nat.sub_zero]
    exact List.take_of_length_le (Nat.le_of_eq hlen)
  refine ⟨.ref a, rfl, 63, rfl, a, _, rfl, ha, fun q hq => ?_⟩
  rw [hcut]
  refine ⟨q, _, rfl, Or.inl (SqL.of upd_same), fun l hl2 => ⟨_, _, rfl, ?_⟩⟩
  have e1 : Ex H (upd (upd H q (.lst (ns.map V.int))) l (.lst (ns.map V.int))) := (Ex.new hq).trans (Ex.new hl2)
  have hL : (upd (upd H q (.lst (ns.map V.int))) l (.lst (ns.map V.int))) l = some (.lst (ns.map V.int)) := upd_same
  generalize upd (upd H q (.lst (ns.map V.int))) l (.lst (ns.map V.int)) = H1 at e1 hL
  refine ⟨.ref l, rfl, l, rfl, ⟨_, SqL.of hL⟩, for_list (K := K) (a := l) (xs := ns.map V.int) (fun i σ' H' => H' = H1 ∧ ∃ (m : Int) (v : Option V), σ' = [some (.ref a), some (.ref l), some (.int m), v] ∧ 0 ≤ m ∧ m < 4294967296)
    ⟨rfl, 186751, none, rfl, by decide, by decide⟩ (fun i σ' H' _ q => by rw [q.1]; exact SqL.of hL) ?_ ?_⟩
  · rintro i x σ' H' hi ⟨rfl, m, v, rfl, m0, m1⟩
    obtain ⟨z, rfl⟩ : ∃ z, x = V.int z := by
      rw [List.getElem?_map] at hi
      cases e : ns[i]? with
      | none => rw [e] at hi; cases hi
      | some z => rw [e] at hi; exact ⟨z, (Option.some.inj hi).symm⟩
    refine ⟨.int m, rfl, m, 48271, rfl, rfl, Or.inr (by decide), .int z, rfl, Or.inl ⟨z, rfl, z, 2147483587, rfl, rfl, (by show (0 : Int) < 2147483587; decide), _, _, rfl, rfl, _, 239, rfl, rfl, Or.inl ⟨_, rfl, _, 2147483629, rfl, rfl, (by show (0 : Int) < 2147483629; decide), ?_⟩⟩⟩
    refine ⟨rfl, _, _, rfl, Int.emod_nonneg _ (by decide), ?_⟩
    exact Int.lt_trans (Int.emod_lt_of_pos _ (by decide)) (by decide)
  · rintro σ' H' ⟨rfl, m, v, rfl, m0, m1⟩
    intro p hp
    have e2 : Ex H' (upd H' p (.dK [])) := Ex.new hp
    refine ⟨.ref l, rfl, l, _, rfl, SqL.of (e2 _ _ hL), fun c hc => ?_⟩
    have hcp : c ≠ p := fun z => by rw [z, upd_same] at hc; cases hc
    refine ⟨.int m, rfl, ?_⟩
    refine ⟨by rw [upd_ne hcp.symm, upd_same], deck3 c m 0, rfl, (by show 3 ≤ 15; decide), ?_⟩
    have hpH : H p = none := fresh_back e1 hp
    have hcH : H c = none := fresh_back (e1.trans e2) hc
    have e3 : Ex H' (upd (upd H' p (.dK [])) c (.lst (ns.map V.int).reverse)) := e2.trans (Ex.new hc)
    refine kk p c _ ?_ hpH hcH ?_
    · intro b o hb
      rw [upd_ne (ne_of_none hb hpH)]
      exact (e1.trans e3) b o hb
    · refine ⟨ns.reverse, m, 0, ?_, ?_, by simpa using hl, m0, m1, by decide, by decide⟩
      · rw [upd_same]
        rfl
      · rw [upd_ne hcp, upd_same, List.map_reverse]
end
end Bk

/-! Data of few parts: shown, compared, small. -/
namespace Hg
open PySem L2 Evl
open PySem.Spec PyProof.Rows
/-- at most n deep, ten wide, leaves of at most three digits or ten signs -/
def Fine : Nat → PyData → Prop
  | _, .none => True
  | _, .bool _ => True
  | _, .int i => i.natAbs < 1000
  | _, .str x => PyData.strOk x = true ∧ x.cps.size ≤ 10
  | n + 1, .tuple ds => ds.length ≤ 10 ∧ ∀ d ∈ ds, Fine n d
  | _, _ => False
theorem Fine.up : ∀ {n m : Nat} {d : PyData}, n ≤ m → Fine n d → Fine m d
  | _, _, .none, _, _ => by simp only [Fine]
  | _, _, .bool _, _, _ => by simp only [Fine]
  | _, _, .int i, _, h => by
    simp only [Fine] at h ⊢
    exact h
  | _, _, .str x, _, h => by
    simp only [Fine] at h ⊢
    exact h
  | n + 1, m + 1, .tuple ds, hn, h => by
    simp only [Fine] at h ⊢
    exact ⟨h.1, fun d hd => Fine.up (Nat.le_of_succ_le_succ hn) (h.2 d hd)⟩
  | 0, _, .tuple ds, _, h => by simp only [Fine] at h
  | _, _, .list ds, _, h => by simp only [Fine] at h
  | _, _, .dict _, _, h => by simp only [Fine] at h
theorem allOf_lay : ∀ {ds : List PyData}, (∀ d ∈ ds, d.canLay0 = true) → PyData.canLayAll0 ds = true
  | [], _ => rfl
  | d :: ds, h => by
    simp only [PyData.canLayAll0, Bool.and_eq_true]
    exact ⟨h d List.mem_cons_self, allOf_lay fun c hc => h c (List.mem_cons_of_mem _ hc)⟩
theorem allOf_depth {k : Nat} : ∀ {ds : List PyData}, (∀ d ∈ ds, d.depth ≤ k) → PyData.depthAll ds ≤ k
  | [], _ => Nat.zero_le _
  | d :: ds, h => by
    simp only [PyData.depthAll]
    have h1 := h d List.mem_cons_self
    have h2 := allOf_depth fun c hc => h c (List.mem_cons_of_mem _ hc)
    omega
theorem allOf_weight {k : Nat} : ∀ {ds : List PyData}, (∀ d ∈ ds, d.weight ≤ k) → PyData.weightAll ds ≤ (k + 1) * ds.length
  | [], _ => Nat.zero_le _
  | d :: ds, h => by
    simp only [PyData.weightAll, List.length_cons]
    have h1 := h d List.mem_cons_self
    have h2 := allOf_weight fun c hc => h c (List.mem_cons_of_mem _ hc)
    have : (k + 1) * (ds.length + 1) = (k + 1) * ds.length + (k + 1) := Nat.mul_succ _ _
    omega
theorem allOf_short {B : Nat} : ∀ {ds : List PyData}, (∀ d ∈ ds, d.intsShort B = true) → PyData.intsShortAll B ds = true
  | [], _ => rfl
  | d :: ds, h => by
    simp only [PyData.intsShortAll, Bool.and_eq_true]
    exact ⟨h d List.mem_cons_self, allOf_short fun c hc => h c (List.mem_cons_of_mem _ hc)⟩
def W : Nat → Nat
  | 0 => 10
  | n + 1 => (W n + 1) * 10
theorem W_pos : ∀ n, 10 ≤ W n
  | 0 => Nat.le_refl _
  | n + 1 => by
    have := W_pos n
    show 10 ≤ (W n + 1) * 10
    omega
theorem log_small {i : Int} (h : i.natAbs < 1000) : i.natAbs.log2 ≤ 9 := by
  by_cases h0 : i.natAbs = 0
  · rw [h0]; decide
  · have : i.natAbs.log2 < 10 := (Nat.log2_lt h0).mpr (by omega)
    omega
/-- what Fine gives -/
structure Nice (n : Nat) (d : PyData) : Prop where
  lay : d.canLay0 = true
  dep : d.depth ≤ n
  wt : d.weight ≤ W n
  shortI : d.intsShort 13 = true
  showb : d.showable = true
  sm : small d = true
theorem nice_seq {n : Nat} {ds : List PyData} (hl : ds.length ≤ 10) (h : ∀ d ∈ ds, Nice n d) : PyData.canLayAll0 ds = true ∧ PyData.depthAll ds ≤ n ∧ PyData.weightAll ds ≤ W (n + 1) ∧ PyData.intsShortAll 13 ds = true ∧ PyData.showableAll ds = true ∧ smallAll ds = true := by
  refine ⟨allOf_lay fun d hd => (h d hd).lay, allOf_depth fun d hd => (h d hd).dep, ?_, allOf_short fun d hd => (h d hd).shortI, PySem.Spec.showableAll_of fun d hd => (h d hd).showb, Bk.smallAll_of fun d hd => (h d hd).sm⟩
  have := allOf_weight fun d hd => (h d hd).wt
  show _ ≤ (W n + 1) * 10
  exact Nat.le_trans this (Nat.mul_le_mul_left _ hl)
theorem Fine.nice : ∀ {n : Nat} {d : PyData}, Fine n d → Nice n d
  | n, .none, _ => ⟨rfl, Nat.zero_le _, Nat.zero_le _, by simp only [PyData.intsShort], rfl, by simp only [small]⟩
  | n, .bool _, _ => ⟨rfl, Nat.zero_le _, Nat.zero_le _, by simp only [PyData.intsShort], rfl, by simp only [small]⟩
  | n, .int i, h => by
    have h' : i.natAbs < 1000 := by simpa only [Fine] using h
    have hl := log_small h'
    have hw := W_pos n
    refine ⟨rfl, Nat.zero_le _, ?_, ?_, ?_, by simp only [small]⟩
    · simp only [PyData.weight]
      split <;> omega
    · simp only [PyData.intsShort]
      have := PyData.shown_int_le (i := i) (Nat.lt_trans h' (by decide))
      simpa [PyData.shown] using this
    · simp only [PyData.showable]
      exact decide_eq_true (by omega)
  | n, .str x, h => by
    have h' : PyData.strOk x = true ∧ x.cps.size ≤ 10 := by simpa only [Fine] using h
    have hw := W_pos n
    refine ⟨by simpa only [PyData.canLay0] using h'.1, Nat.zero_le _, ?_, by simp only [PyData.intsShort], rfl, ?_⟩
    · simp only [PyData.weight]
      omega
    · simp only [small]
      exact decide_eq_true (Nat.le_trans h'.2 (by decide))
  | n + 1, .tuple ds, h => by
    have h' : ds.length ≤ 10 ∧ ∀ d ∈ ds, Fine n d := by simpa only [Fine] using h
    obtain ⟨a, b, c, d, e, f⟩ := nice_seq h'.1 fun d hd => (h'.2 d hd).nice
    refine ⟨by simpa only [PyData.canLay0] using a, ?_, by simpa only [PyData.weight] using c, by simpa only [PyData.intsShort] using d, by simpa only [PyData.showable] using e, ?_⟩
    · simp only [PyData.depth]
      omega
    · simp only [small, Bool.and_eq_true, decide_eq_true_eq]
      exact ⟨by omega, f⟩
  | 0, .tuple ds, h => by simp only [Fine] at h
  | _, .list ds, h => by simp only [Fine] at h
  | _, .dict _, h => by simp only [Fine] at h
theorem W_mono : ∀ {n m : Nat}, n ≤ m → W n ≤ W m
  | n, 0, h => by
    obtain rfl : n = 0 := by omega
    exact Nat.le_refl _
  | 0, m + 1, _ => W_pos _
  | n + 1, m + 1, h => by
    have := W_mono (Nat.le_of_succ_le_succ h)
    show (W n + 1) * 10 ≤ (W m + 1) * 10
    omega
theorem Nice.shows {n : Nat} {d : PyData} (hn : n ≤ 4) (N : Nice n d) : Shows d := by
  refine ⟨N.showb, by have := N.dep; omega, ?_⟩
  refine PyData.shown_fits_of_layable0 (B := 13) (by decide) (by decide) ?_ N.shortI
  unfold PyData.layable0
  have hw : d.weight ≤ W 4 := Nat.le_trans N.wt (W_mono hn)
  have h4 : W 4 = 111110 := by decide
  rw [N.lay, decide_eq_true (by have := N.dep; omega), decide_eq_true (by omega)]
  rfl
theorem nice_list {n : Nat} {ds : List PyData} (hl : ds.length ≤ 10) (h : ∀ d ∈ ds, Nice n d) : Nice (n + 1) (.list ds) := by
  obtain ⟨a, b, c, d, e, f⟩ := nice_seq hl h
  refine ⟨by simpa only [PyData.canLay0] using a, ?_, by simpa only [PyData.weight] using c, by simpa only [PyData.intsShort] using d, by simpa only [PyData.showable] using e, ?_⟩
  · simp only [PyData.depth]
    omega
  · simp only [small, Bool.and_eq_true, decide_eq_true_eq]
    exact ⟨by omega, f⟩
theorem Fine.shaped {n : Nat} {d : PyData} (hn : n ≤ 60) (h : Fine n d) : SeqAt.shaped d = true := by
  have N := h.nice
  unfold SeqAt.shaped
  rw [N.lay, decide_eq_true (by have := N.dep; omega)]
  rfl
theorem Fine.small {n : Nat} {d : PyData} (h : Fine n d) : small d = true := h.nice.sm
theorem fineTup {n : Nat} {ds : List PyData} (hl : ds.length ≤ 10) (h : ∀ d ∈ ds, Fine n d) : Fine (n + 1) (.tuple ds) := by
  simp only [Fine]
  exact ⟨hl, h⟩
theorem fineInt {n : Nat} {i : Int} (h : i.natAbs < 1000) : Fine n (.int i) := by simp only [Fine]; exact h
theorem of_fineTup {n : Nat} {ds : List PyData} (h : Fine (n + 1) (.tuple ds)) : ds.length ≤ 10 ∧ ∀ d ∈ ds, Fine n d := by simpa only [Fine] using h
end Hg
namespace Bk
open PySem L2 Evl Hg
theorem kp_t {K : PySem.W.Frag} {H H' : Hp} {p c a : Addr} {k : Nat} {xs : List V} (dk : Dk p c k H) (e : Kp p c H H') (h : SqT K H a xs) : SqT K H' a xs := by
  obtain ⟨ns, m, n, h1, h2, _⟩ := dk.ex
  rcases h with (h | ⟨o, h⟩) | h
  · exact .inl (.inl (e _ _ h (ne_of h h1 (by intro z; cases z)) (ne_of h h2 (by intro z; cases z))))
  · exact .inl (.inr ⟨o, e _ _ h (ne_of h h1 (by intro z; cases z)) (ne_of h h2 (by intro z; cases z))⟩)
  · exact .inr h
mutual
theorem fine_kp {K : PySem.W.Frag} {H H' : Hp} {p c : Addr} {k : Nat} (dk : Dk p c k H) (e : Kp p c H H') : ∀ {n : Nat} {v : V} {d : PyData}, Fine n d → Dd K H v d → Dd K H' v d
  | _, _, _, _, .non => .non
  | _, _, _, _, .bl b => .bl b
  | _, _, _, _, .int i => .int i
  | _, _, _, _, .str x => .str x
  | _, _, _, f, .lst h ha => by simp only [Fine] at f
  | 0, _, _, f, .tup h ha => by simp only [Fine] at f
  | n + 1, _, _, f, .tup h ha => .tup (kp_t dk e h) (fine_kpAll dk e (of_fineTup f).2 ha)
  | _, _, _, f, .dct _ _ => by simp only [Fine] at f
theorem fine_kpAll {K : PySem.W.Frag} {H H' : Hp} {p c : Addr} {k : Nat} (dk : Dk p c k H) (e : Kp p c H H') : ∀ {n : Nat} {vs : List V} {ds : List PyData}, (∀ d ∈ ds, Fine n d) → DdAll K H vs ds → DdAll K H' vs ds
  | _, _, _, _, .nil => .nil
  | _, _, _, f, .cons h ha => .cons (fine_kp dk e (f _ List.mem_cons_self) h) (fine_kpAll dk e (fun d hd => f d (List.mem_cons_of_mem _ hd)) ha)
end
end Bk

namespace Hg
open PySem L2 Evl
open PySem.Spec PyProof.Rows
/-- a def that may be called by its name, all by keywords -/
structure DfK (P : Program) (w : World) (K : PySem.W.Frag) (mg : Str → Option Value) (base : Heap) (k : Nat) (x : Str) (sp : Sp) (ks : List Str) (gV : List V → List V → List V) : Prop where
  ex : ∃ (f : Addr) (fd : FuncData) (ps : List Str) (g : List Value → List Value → List Value), FnOk P w K mg base CX0 k f fd ps sp ∧ mg x = some (.ref f) ∧ PySem.W.keepIn K (.ref f) = true ∧ KBinds K fd ps ks g gV
section
variable {X : Cx} {k j : Nat} {x : Str} {sp : Sp} {p pos : Pos} {kws : List Keyword} {tk : TA} {ks : List Str} {gV : List V → List V → List V}
theorem pe_dk (c : DfK X.prog X.w X.K X.mg X.base k x sp ks gV) (hr : Room j X.A) (hk : k ≤ j) (hg : Gl X x) (hkw : PK X kws tk)
    (hall : (backToKw pos (keywordEach kws X.env)).all (·.1.isSome) = true := by rfl) (hks : (backToKw pos (keywordEach kws X.env)).filterMap (·.1) = ks := by rfl) (hdb : (x == ("__debug__" : Str)) = false := by decide)
    (hpl : ((backTo pos (starEach [] X.env)).any (·.1) || (backToKw pos (keywordEach kws X.env)).any (·.1.isNone)) = false := by rfl) :
    PE X (.Call (.Name x p) [] kws pos) (tCallK sp gV E0 tNil tk) := by
  obtain ⟨f, fd, ps, g, F, hm, kp, hb⟩ := c.ex
  refine ⟨fun pins s σ H Q I h => ?_⟩
  refine wpAny_Call_Name_kw (ld_glob I hg hm ?_ hdb)
  refine PySem.W.callWith_KW0 (h₀ := X.base) I.ok.mod.kin kp hall ?_ hpl
  refine thn (hkw.run pos pins s σ H _ I h) fun ws s2 ⟨zs, H2, I2, rz, q2⟩ => ⟨I2.kIn, ?_⟩
  rw [hks]
  exact run_fnk (us := []) (vs := []) F (hr.mono hk) hb pass0 I2 .nil rz q2
end
def swp {α : Type} : List α → List α → List α
  | [], [y, x] => [x, y]
  | _, _ => []
theorem swp_rel {vs zs : List V} {us ws : List Value} (h1 : Vals vs us) (h2 : Vals zs ws) : Vals (swp vs zs) (swp us ws) := by
  cases h1 with
  | cons _ _ => exact .nil
  | nil =>
    cases h2 with
    | nil => exact .nil
    | cons a h2 => cases h2 with
      | nil => exact .nil
      | cons b h2 => cases h2 with
        | nil => exact .cons b (.cons a .nil)
        | cons c h2 => exact .nil
/-- f(b = y, a = x), two parameters a, b -/
theorem kb2 {K : PySem.W.Frag} {x qual a b : Str} {st : Stmt} {f : Addr} {fd : FuncData} (F : Fun K x qual st f fd)
    (h : ∀ (kV doc pm : Value) (an : Option Addr) (cdv ct : Value) (u v : Value), bindArgs (PySem.W.fnOf x qual (defArgs st) (defBody st) (defScope st) .none kV doc pm an cdv ct) ⟨[], [(b, v), (a, u)]⟩ = pure [(a, u), (b, v)]) : KBinds K fd [a, b] [b, a] swp swp := by
  obtain ⟨oc, od, kV, doc, pm, an, cdv, ct, osl, rfl, lk, hcd⟩ := F.ex
  refine ⟨fun s us ws hK hl => ?_, swp_rel⟩
  match us, ws, hl with
  | [], [v, u], _ => exact .of_eq (h kV doc pm an cdv ct u v)
end Hg
namespace Bk
open PySem L2 Evl Hg
section
variable {P : Program} {w : World} {K : PySem.W.Frag} {mg : Str → Option Value} {base : Heap} {C : Addr} {H : Hp}
theorem sc_barred : FnScope ["book", "bar"] ["book", "bar"] (defScope s_barred) := ⟨rfl, rfl, rfl, by decide +kernel, rfl, by decide +kernel, by decide +kernel⟩
theorem no_wo (vr vm vf : V) : (three vr vm vf).lookup ("without_moves" : Str) = none := three_no _ _ _ (by decide +kernel) (by decide +kernel) (by decide +kernel)
theorem ok_barred {f fW : Addr} {fd fdW : FuncData} (F : Fun K "barred_book" "barred_book" s_barred f fd) (T : Tb K mg C) (M : Meth K C "without_moves" fW) (GW : FnOk P w K mg base CX0 9 fW fdW ["self", "numbers"] (spWo K C))
    (bW : Binds K fdW ["self", "numbers"] []) : FnOk P w K mg base CX0 10 f fd ["book", "bar"] (spWo K C) := by
  refine F.ok sc_barred (fun vs H Q E h => by obtain ⟨p, nb, ns, vr, vm, vf, dr, df, ms, rfl, _⟩ := h; rfl) (fun cdv A outer s H vs Q E hr h => ?_)
  obtain ⟨p, nb, ns, vr, vm, vf, dr, df, ms, rfl, hb, pa, hns, k⟩ := h
  refine ⟨_, (pss_one (ps_ret (pe_meth (pv 0) T.ins.cl M GW hr bW .nil pass0 (pa_cons (pv 1) pa_nil)))), ?_⟩
  obtain ⟨dx, hp⟩ := hb
  exact ⟨.ref p, rfl, p, dx, _, rfl, hp, no_wo _ _ _, .ref nb, rfl, p, nb, ns, vr, vm, vf, dr, df, ms, rfl, ⟨dx, hp⟩, pa, hns, k⟩
/-- is_bar of any datum -/
def spIsBar (K : PySem.W.Frag) (C : Addr) : Sp := fun vs H Q _ => ∃ (p : Addr) (v vr vm vf : V) (d : PyData) (ms : List PyData), vs = [.ref p, v] ∧ BookAt C H p vr vm vf ∧ Dd K H vm (.tuple ms) ∧ Dd K H v d ∧ small d = true ∧
  ∀ H2, Ex H H2 → Q (.bl (areAsc 0 ((ms.length : Int) - 1) d)) H2
theorem sc_is_bar : FnScope ["book", "thing"] ["book", "thing"] (defScope s_is_bar) := ⟨rfl, rfl, rfl, by decide +kernel, rfl, by decide +kernel, by decide +kernel⟩
theorem ok_is_bar {f : Addr} {fd : FuncData} (F : Fun K "is_bar" "is_bar" s_is_bar f fd) (T : Tb K mg C) (G : Df P w K mg base 4 "are_ascending" (sp3 K areAsc)) : FnOk P w K mg base CX0 5 f fd ["book", "thing"] (spIsBar K C) := by
  refine F.ok sc_is_bar (fun vs H Q E h => by obtain ⟨p, v, vr, vm, vf, d, ms, rfl, _⟩ := h; rfl) (fun cdv A outer s H vs Q E hr h => ?_)
  obtain ⟨p, v, vr, vm, vf, d, ms, rfl, hb, hm, hd, sm, k⟩ := h
  refine ⟨_, (pss_one (ps_ret (pe_d G hr (by decide) rfl (pa_cons (pv 1) (pa_cons pe_int (pa_cons (pe_op op_sub (pe_callB call_len (by rfl) T.b_len (by decide +kernel) (pa_cons (pe_fld (pv 0) rfl) pa_nil)) pe_int) pa_nil)))))), ?_⟩
  cases hm with
  | tup ht ha =>
    rename_i am xs
    have hl := ha.length
    refine s_ret (ev_d (ea_cons (ev_var rfl) (ea_cons ev_c (ea_cons (ev_op (r := rI0 fun i j => V.int (i - j)) (ev_lenT (K := K) (ev_fld T.ins.cl T.nM (ev_var (i := 0) rfl) hb (three_m _ _ _)) ht) ev_c rv_I0) ea_nil))) (go3 hd sm)) fun H1 e => ?_
    rw [hl]
    exact k H1 e
end
end Bk

namespace Hg
open PySem L2 Evl
open PySem.Spec PyProof.Rows
section
variable {K : PySem.W.Frag} {σ : L2.St} {H H' : Hp} {te : TE} {t : TT} {x y z v : V}
/-- over range(1, n) -/
theorem el_lcR2' {ta : TA} {j : Nat} {vs : List Nat} {lo n : Int} (f : Nat → Bool) (v : Nat → V) (h : EvA ta σ H [.int lo, .int n]) (hn : -40000 ≤ n ∧ n ≤ 40000 ∧ 0 ≤ lo ∧ lo ≤ 1000) (hw : ∀ x, wipe ((wipe σ vs).set j (some x)) vs = wipe σ vs)
    (ht : ∀ (i : Nat) H1, Ex H H1 → lo + (i : Int) < n → EvT t ((wipe σ vs).set j (some (.int (lo + (i : Int))))) H1 (f i))
    (he : ∀ (i : Nat) H1, Ex H H1 → lo + (i : Int) < n → f i = true → Ev te ((wipe σ vs).set j (some (.int (lo + (i : Int))))) H1 (v i)) :
    EvL (tLc (iRng2 ta) (gName j) t te vs) σ H (given (n - lo).toNat f v) := by
  intro H0 e Q q
  refine h H0 e _ fun H1 e1 => ⟨lo, n, rfl, ⟨by omega, by omega, by omega, by omega⟩, fun Dl hD => ?_⟩
  refine lc_range (lo := lo) (n := (n - lo).toNat) (Cw H1 f v Dl) ⟨hD, Ex.new hD, upd_same⟩ ?_ fun H' p => q Dl H' (fresh_back e1 p.1) (e1.trans p.2.1) p.2.2
  intro i H' hi p
  exact ⟨hw _, cw_turn p (by omega) (ht i H1 (e.trans e1) (by omega)) (he i H1 (e.trans e1) (by omega))⟩
/-- d["k"] -/
theorem ev_dget {te : TE} {a : Addr} {kvs : List (Key × V)} {s : Str} (he : Ev te σ H (.ref a)) (ha : H a = some (.dK kvs)) (hv : valV kvs (.inr s) = some v) : Ev (tDGet te (tC (.str s))) σ H v := by
  intro H1 e Q q
  refine he H1 e _ fun H2 e2 => ⟨a, v, rfl, ?_, q H2 e2⟩
  have z := DGet.k (k := .inr s) ((e.trans e2) _ _ ha)
  rw [hv] at z
  exact z
theorem dp_intsL : ∀ ns : List Int, DpAll K H (ns.map V.int) (ns.map PyData.int) := Bk.dp_ints
end
end Hg
namespace Bk
open PySem L2 Evl Hg
abbrev s_code : PySem.Stmt := top 49
abbrev s_shown : PySem.Stmt := top 50
abbrev s_lbar : PySem.Stmt := top 51
def w5 (vr vm vf x y : V) : List (Key × V) := [(.inr "rooms", vr), (.inr "moves", vm), (.inr "first", vf), (.inr "looks", x), (.inr "ills", y)]
theorem k_rm : ¬ ((Sum.inr ("rooms" : Str) : Key) = Sum.inr ("moves" : Str)) := fun z => absurd (Sum.inr.inj z) (by decide +kernel)
theorem k_rf : ¬ ((Sum.inr ("rooms" : Str) : Key) = Sum.inr ("first" : Str)) := fun z => absurd (Sum.inr.inj z) (by decide +kernel)
theorem k_mf : ¬ ((Sum.inr ("moves" : Str) : Key) = Sum.inr ("first" : Str)) := fun z => absurd (Sum.inr.inj z) (by decide +kernel)
section
variable {vr vm vf x y : V}
theorem w5_r : valV (w5 vr vm vf x y) (.inr "rooms") = some vr := by rw [w5, valV_pos rfl]
theorem w5_m : valV (w5 vr vm vf x y) (.inr "moves") = some vm := by rw [w5, valV_neg k_rm, valV_pos rfl]
theorem w5_f : valV (w5 vr vm vf x y) (.inr "first") = some vf := by rw [w5, valV_neg k_rf, valV_neg k_mf, valV_pos rfl]
end
def spCode (K : PySem.W.Frag) (C : Addr) : Sp := fun vs H Q _ => ∃ (a : Addr) (vr vm vf x y : V) (dr dm df : PyData), vs = [.ref a] ∧ H a = some (.dK (w5 vr vm vf x y)) ∧ Parts K H vr vm vf dr dm df ∧
  ∀ q H2, Ex H H2 → BookAt C H2 q vr vm vf → Q (.ref q) H2
def bookText (dr dm df : PyData) : Str := (PyData.list [dr, dm, df]).shown
/-- a book of fine data at p -/
structure BookD (K : PySem.W.Frag) (C : Addr) (H : Hp) (p : Addr) (dr : PyData) (ms : List PyData) (df : PyData) : Prop where
  ex : ∃ vr vm vf, BookAt C H p vr vm vf ∧ Parts K H vr vm vf dr (.tuple ms) df
  fr : Fine 3 dr
  fm : Fine 3 (.tuple ms)
  ff : Fine 3 df
theorem BookD.ext {K : PySem.W.Frag} {C : Addr} {H H' : Hp} {p : Addr} {dr : PyData} {ms : List PyData} {df : PyData} (e : Ex H H') (b : BookD K C H p dr ms df) : BookD K C H' p dr ms df := by
  obtain ⟨⟨vr, vm, vf, h1, h2⟩, a, b, c⟩ := b
  exact ⟨⟨vr, vm, vf, h1.ex e, h2.ex e⟩, a, b, c⟩
theorem text_shows {dr dm df : PyData} (h1 : Fine 3 dr) (h2 : Fine 3 dm) (h3 : Fine 3 df) : Shows (.list [dr, dm, df]) := by
  refine Nice.shows (Nat.le_refl 4) (nice_list (by show 3 ≤ 10; decide) fun d hd => ?_)
  simp only [List.mem_cons, List.not_mem_nil, or_false] at hd
  rcases hd with rfl | rfl | rfl
  · exact h1.nice
  · exact h2.nice
  · exact h3.nice
def spShown (K : PySem.W.Frag) (C : Addr) : Sp := fun vs H Q _ => ∃ (p : Addr) (dr : PyData) (ms : List PyData) (df : PyData), vs = [.ref p] ∧ BookD K C H p dr ms df ∧ ∀ H2, Ex H H2 → Q (.str (bookText dr (.tuple ms) df)) H2
section
variable {P : Program} {w : World} {K : PySem.W.Frag} {mg : Str → Option Value} {base : Heap} {C : Addr} {H : Hp}
theorem sc_code : FnScope ["_law_w"] ["_law_w"] (defScope s_code) := ⟨rfl, rfl, rfl, by decide +kernel, rfl, by decide +kernel, by decide +kernel⟩
theorem ok_code {f fI : Addr} {fd fdI : FuncData} (F : Fun K "_law_code" "_law_code" s_code f fd) (T : Tb K mg C) (M : Mk K C fI) (GI : FnOk P w K mg base CX0 7 fI fdI ["self", "rooms", "moves", "first"] (spInit K C))
    (bI : Binds K fdI ["self", "rooms", "moves", "first"] []) : FnOk P w K mg base CX0 9 f fd ["_law_w"] (spCode K C) := by
  refine F.ok sc_code (fun vs H Q E h => by obtain ⟨a, vr, vm, vf, x, y, dr, dm, df, rfl, _⟩ := h; rfl) (fun cdv A outer s H vs Q E hr h => ?_)
  obtain ⟨a, vr, vm, vf, x, y, dr, dm, df, rfl, ha, pa, k⟩ := h
  have hu := hu_of hr
  refine ⟨_, (pss_one (ps_ret (pe_make M GI hr rfl T.c_Book bI .nil pass0 (pa_cons (pe_dget hu (pv 0) pe_str (fun _ _ => rfl)) (pa_cons (pe_dget hu (pv 0) pe_str (fun _ _ => rfl)) (pa_cons (pe_dget hu (pv 0) pe_str (fun _ _ => rfl)) pa_nil)))))), ?_⟩
  dsimp only [tRet, tMake, tCons, tNil]
  refine (ev_dget (te := tVar 0) (σ := start ["_law_w"] [.ref a]) (ev_var rfl) ha w5_r) H (Ex.refl _) _ fun H1 e1 => ?_
  refine (ev_dget (te := tVar 0) (σ := start ["_law_w"] [.ref a]) (ev_var rfl) (e1 _ _ ha) w5_m) H1 (Ex.refl _) _ fun H2 e2 => ?_
  refine (ev_dget (te := tVar 0) (σ := start ["_law_w"] [.ref a]) (ev_var rfl) ((e1.trans e2) _ _ ha) w5_f) H2 (Ex.refl _) _ fun H3 e3 => ?_
  have e03 := (e1.trans e2).trans e3
  exact make_go (pa.ex e03) fun b H4 e4 _ hb4 => k b H4 (e03.trans e4) hb4
theorem sc_shown : FnScope ["_law_code_here"] ["_law_code_here"] (defScope s_shown) := ⟨rfl, rfl, rfl, by decide +kernel, rfl, by decide +kernel, by decide +kernel⟩
theorem ok_shown {f : Addr} {fd : FuncData} (F : Fun K "_law_shown" "_law_shown" s_shown f fd) (T : Tb K mg C) (br : mg "repr" = none) (y : Sys base) : FnG P w K mg base CX0 1 f fd ["_law_code_here"] (spShown K C) := by
  refine fnG F sc_shown (fun vs H Q E h => by obtain ⟨p, dr, ms, df, rfl, _⟩ := h; rfl) (fun cdv A outer s H vs Q E g hr h => ?_)
  obtain ⟨p, dr, ms, df, rfl, hb, k⟩ := h
  refine ⟨_, (pss_one (ps_ret (pe_callB (call_repr g hr.units y) (by rfl) br (by decide +kernel) (pa_cons (pe_lst (pa_cons (pe_fld (pv 0) rfl) (pa_cons (pe_fld (pv 0) rfl) (pa_cons (pe_fld (pv 0) rfl) pa_nil)))) pa_nil)))), ?_⟩
  obtain ⟨⟨vr, vm, vf, hp, pa⟩, f1, f2, f3⟩ := hb
  have el := el_lst (σ := start ["_law_code_here"] [.ref p]) (ea_cons (ev_fld (te := tVar 0) T.ins.cl T.nR (ev_var rfl) hp (three_r _ _ _)) (ea_cons (ev_fld (te := tVar 0) T.ins.cl T.nM (ev_var rfl) hp (three_m _ _ _)) (ea_cons (ev_fld (te := tVar 0) T.ins.cl T.nF (ev_var rfl) hp (three_f _ _ _)) ea_nil))) (by show 3 ≤ 100000; decide)
  dsimp only [tRet, tCB, tCons, tNil]
  refine el H (Ex.refl _) _ fun l H1 hl e1 h1 => ?_
  exact ⟨.ref l, _, rfl, .lst (sq_of h1) (.cons (pa.r.ex e1) (.cons (pa.m.ex e1) (.cons (pa.f.ex e1) .nil))), text_shows f1 f2 f3, k H1 e1⟩
end
end Bk

namespace Bk
open PySem L2 Evl Hg
theorem shaped_intsL (ns : List Int) : SeqAt.shaped (.list (ns.map PyData.int)) = true := shaped_ints ns
theorem eqv_nil (ns : List Int) : PyData.eqv (.list (ns.map PyData.int)) (.list []) = ns.isEmpty := by
  cases ns <;> rfl
theorem given_ints (n : Nat) (f : Nat → Bool) (g : Nat → Int) : given n f (fun i => V.int (g i)) = (((List.range n).filter f).map g).map V.int := by
  unfold given
  rw [List.map_map]
  rfl
theorem filter_not_empty (n : Nat) (f : Nat → Bool) (g : Nat → Int) : (((List.range n).filter fun i => !f i).map g).isEmpty = ((List.range n).map f).all id := by
  rw [List.isEmpty_map, List.all_map]
  cases h : ((List.range n).all (id ∘ f)) with
  | true =>
    rw [List.all_eq_true] at h
    rw [List.isEmpty_iff, List.filter_eq_nil_iff]
    intro a ha
    have := h a ha
    simp only [Function.comp, id] at this
    simp [this]
  | false =>
    rw [List.all_eq_false] at h
    obtain ⟨x, hx, hf⟩ := h
    cases e : ((List.range n).filter fun i => !f i) with
    | nil =>
      rw [List.filter_eq_nil_iff] at e
      have := e x hx
      simp only [Function.comp, id] at hf
      simp [hf] at this
    | cons _ _ => rfl
/-- the law's own look at a bar -/
def spLbar (K : PySem.W.Frag) : Sp := fun vs H Q _ => ∃ (a : Addr) (v vr vm vf x y : V) (ms : List PyData) (d : PyData), vs = [.ref a, v] ∧ H a = some (.dK (w5 vr vm vf x y)) ∧ Dd K H vm (.tuple ms) ∧ Dd K H v d ∧ small d = true ∧
  ∀ H2, Ex H H2 → Q (.bl (areAsc 0 ((ms.length : Int) - 1) d)) H2
section
variable {P : Program} {w : World} {K : PySem.W.Frag} {mg : Str → Option Value} {base : Heap} {H : Hp} {σ : L2.St}
theorem sc_lbar : FnScope ["_law_w", "_law_it", "_law_k"] ["_law_w", "_law_it"] (defScope s_lbar) := ⟨rfl, rfl, rfl, by decide +kernel, rfl, by decide +kernel, by decide +kernel⟩
theorem et_chain {r r' : R2} {ta tb tc : TE} {x y z : V} {p q : Bool} (ha : Ev ta σ H x) (hb : Ev tb σ H y) (hc : p = true → Ev tc σ H z) (h1 : RV r x y H (.bl p)) (h2 : p = true → RV r' y z H (.bl q)) :
    EvT (tTest (tChain r r' ta tb tc)) σ H (p && q) := et_test (ev_chain ha hb hc h1 h2)
theorem ok_lbar {f : Addr} {fd : FuncData} (F : Fun K "_law_is_bar" "_law_is_bar" s_lbar f fd) (T : Tx K mg) : FnOk P w K mg base CX0 1 f fd ["_law_w", "_law_it"] (spLbar K) := by
  refine F.ok sc_lbar (fun vs H Q E h => by obtain ⟨a, v, vr, vm, vf, x, y, ms, d, rfl, _⟩ := h; rfl) (fun cdv A outer s H vs Q E hr h => ?_)
  obtain ⟨a, v, vr, vm, vf, x, y, ms, d, rfl, ha, hm, hd, sm, k⟩ := h
  have hu := hu_of hr
  refine ⟨_, (pss_cons (ps_if (pt_not (pt_val (pe_callB call_isi (by rfl) T.b_isinstance (by decide +kernel) (pa_cons (pv 1) (pa_cons (pe_bltn (v := .ty "tuple") rfl T.b_tuple (by decide +kernel) rfl) pa_nil))))) (pss_one (ps_ret pe_bl)) pss_nil)
  (pss_cons (ps_for PassesOwn.never rfl (pi_tup (pv 1)) (pg_name (i := 2) sc_lbar.nd rfl (Or.inl rfl)) (pss_one (ps_if (PW.pt (pw_or (pt_not (pt_val (pe_callB call_isi (by rfl) T.b_isinstance (by decide +kernel) (pa_cons (pv 2) (pa_cons (pe_bltn (v := .ty "int") rfl T.b_int (by decide +kernel) rfl) pa_nil))))) (pw_or (pt_val (pe_callB call_isi (by rfl) T.b_isinstance (by decide +kernel) (pa_cons (pv 2) (pa_cons (pe_bltn (v := .ty "bool") rfl T.b_bool (by decide +kernel) rfl) pa_nil)))) (pw_or1 (pt_not (pt_chain op_le op_lt pe_int (pv 2) (pe_callB call_len (by rfl) T.b_len (by decide +kernel) (pa_cons (pe_dget hu (pv 0) pe_str (fun _ _ => rfl)) pa_nil)))))))) (pss_one (ps_ret pe_bl)) pss_nil)))
  (pss_one (ps_ret (pe_cmpR (op_eqD hr.units) (pe_lc (own := [("_law_k", 2)]) rfl sc_lbar.nd (pi_range2 rfl T.b_range (pa_cons pe_int (pa_cons (pe_callB call_len (by rfl) T.b_len (by decide +kernel) (pa_cons (pv 1) pa_nil)) pa_nil))) (blkOk_by (own := [("_law_k", 2)]) (N := ["_law_w", "_law_it", "_law_k"]) (sc := defScope s_lbar) (by decide +kernel)) (fun _ _ _ _ _ => (pg_name (i := 2) sc_lbar.nd rfl (Or.inl rfl))) (fun _ _ _ _ _ => (pts_one (pt_not (pt_cmpR op_lt (pe_ix (ix_tupK K) (pv 1) (pe_op op_sub (pv 2) pe_int) (fun _ _ => rfl)) (pe_ix (ix_tupK K) (pv 1) (pv 2) (fun _ _ => rfl)) (nomark _))))) (fun _ _ _ _ _ => (pv 2))) (pe_lst pa_nil) (nomark _)))))), ?_⟩
  have i0 := ev_isi (K := K) (σ := start ["_law_w", "_law_it", "_law_k"] [.ref a, v]) (te := tVar 1) (ev_var rfl) hd (kit_tuple d)
  rw [isT_tuple] at i0
  refine q_when (b := !isTup d) (et_not (et_test i0)) (fun z H1 e1 => ?_) (fun z H1 e1 => ?_)
  · refine s_ret ev_c fun H2 e2 => ?_
    have e : areAsc 0 ((ms.length : Int) - 1) d = false := by cases d <;> first | rfl | cases z
    rw [← e]
    exact k H2 (e1.trans e2)
  · cases hd with
    | tup ht hds =>
      rename_i b xs ds
      obtain ⟨sl, s2⟩ := small_tuple sm
      have hl := hds.length
      cases hm with
      | tup hmt hma =>
        rename_i am xm
        have hml := hma.length
        refine q_forT (K := K) (a := b) (xs := xs) (tl := tVar 1) (ev_var rfl) (ex_t e1 ht) (fun i σ' H' => Ex H H' ∧ (∀ j, j < i → betw 0 ((ms.length : Int) - 1) (ds.getD j .none) = true) ∧ ∃ u, σ' = [some (.ref a), some (.ref b), u])
          (fun H2 e2 => ⟨e1.trans e2, fun j hj => by omega, none, rfl⟩) (fun i σ' H' _ q => ex_t q.1 ht) ?_ ?_
        · rintro i x' σ' H' hi ⟨eH, hb, u, rfl⟩
          obtain ⟨d', hd', hx'⟩ := hds.get hi
          have hxH := hx'.ex eH
          have eD : ds.getD i .none = d' := by rw [List.getD_eq_getElem?_getD, hd']; rfl
          have il : i < ds.length := (List.getElem?_eq_some_iff.mp hd').1
          refine s_when (b := !betw 0 ((ms.length : Int) - 1) d') ?_ (fun z2 H2 e2 => ?_) (fun z2 H2 e2 => ?_)
          · by_cases hw : ∃ n, d' = .int n
            · obtain ⟨n, rfl⟩ := hw
              cases hxH
              have c := ev_chain (σ := [some (.ref a), some (.ref b), some (.int n)]) (H := H') (ta := tC (.int 0)) (tb := tVar 2) (r := rI0 fun i j => V.bl (decide (i ≤ j))) (r' := rI0 fun i j => V.bl (decide (i < j))) ev_c (ev_var rfl) (fun _ => ev_lenT (K := K) (ev_dget (te := tVar 0) (ev_var rfl) (eH _ _ ha) w5_m) (ex_t eH hmt)) rv_I0 (fun _ => rv_I0)
              refine et_is (et_or (et_not (et_test (ev_isi (ev_var rfl) (Dd.int n) (kit_int _)))) fun _ => et_or (et_test (ev_isi (ev_var rfl) (Dd.int n) (kit_bool _))) fun _ => et_not (et_test c)) ?_
              rw [isT_int, isT_bool, hml]
              show (!true || (false || !(decide (0 ≤ n) && decide (n < (ms.length : Int))))) = !(decide (0 ≤ n) && decide (n ≤ (ms.length : Int) - 1))
              rw [show decide (n < (ms.length : Int)) = decide (n ≤ (ms.length : Int) - 1) from by rw [decide_eq_decide]; omega]
              rfl
            · have c1 := et_not (et_test (ev_isi (K := K) (te := tVar 2) (σ := [some (.ref a), some (.ref b), some x']) (ev_var rfl) hxH (kit_int d')))
              have c2 := et_test (ev_isi (K := K) (te := tVar 2) (σ := [some (.ref a), some (.ref b), some x']) (ev_var rfl) hxH (kit_bool d'))
              have eb : betw 0 ((ms.length : Int) - 1) d' = false := by
                cases d' with
                | int n => exact absurd ⟨n, rfl⟩ hw
                | _ => rfl
              rw [eb]
              by_cases hq : ∃ q, d' = .bool q
              · obtain ⟨q, rfl⟩ := hq
                rw [show isT "int" (.bool q) = true from isT_int _] at c1
                rw [show isT "bool" (.bool q) = true from isT_bool _] at c2
                exact et_or (a := false) (b := true) c1 fun _ => et_or (a := true) (b := true) c2 fun z => nomatch z
              · have : isT "int" d' = false := by
                  rw [isT_int]
                  clear c1 c2 eb hxH eD hd' hx'
                  cases d' with
                  | int n => exact absurd ⟨n, rfl⟩ hw
                  | bool q => exact absurd ⟨q, rfl⟩ hq
                  | _ => rfl
                rw [this] at c1
                exact et_or (a := true) (b := true) c1 fun z => nomatch z
          · refine s_ret ev_c fun H3 e3 => ?_
            have e : areAsc 0 ((ms.length : Int) - 1) (.tuple ds) = false := by
              show (ds.all _ && _) = false
              have : ds.all (betw 0 ((ms.length : Int) - 1)) = false := by
                rw [List.all_eq_false]
                exact ⟨d', List.mem_of_getElem? hd', by simpa using z2⟩
              rw [this]
              rfl
            rw [← e]
            exact k H3 ((eH.trans e2).trans e3)
          · refine ⟨eH.trans e2, fun j hj => ?_, some x', rfl⟩
            by_cases hj2 : j < i
            · exact hb j hj2
            · obtain rfl : j = i := by omega
              rw [eD]
              simpa using z2
        · rintro σ' H' ⟨eH, hb, u, rfl⟩
          have hall : ds.all (betw 0 ((ms.length : Int) - 1)) = true := by
            rw [List.all_eq_true]
            intro d' hd'
            obtain ⟨i, hi, rfl⟩ := List.getElem_of_mem hd'
            have := hb i (by omega)
            rw [List.getD_eq_getElem?_getD, List.getElem?_eq_getElem hi] at this
            exact this
          have exs := ints_of hds hall
          have hlen : (ds.map intOf).length = ds.length := List.length_map _
          generalize hns : ds.map intOf = ns at exs hlen
          subst exs
          have htH := ex_t eH ht
          have eA : areAsc 0 ((ms.length : Int) - 1) (.tuple ds) = asc ns := by
            show (ds.all _ && asc (ds.map intOf)) = asc ns
            rw [hall, hns]
            rfl
          rw [eA] at k
          have hl2 : (ns.map V.int).length = ns.length := List.length_map _
          have el := el_lcR2' (σ := [some (.ref a), some (.ref b), u]) (H := H') (lo := 1) (n := (ns.length : Int)) (ta := tCons (tC (.int 1)) (tCons (tCB (fun vs H Q => ∃ x n, vs = [x] ∧ LenV K x H n ∧ Q (.int n) H) (tCons (tVar 1) tNil)) tNil))
            (t := tNot (tTest (tOp (rI0 fun i j => V.bl (decide (i < j))) (tOp (rIxT K) (tVar 1) (tOp (rI0 fun i j => V.int (i - j)) (tVar 2) (tC (.int 1)))) (tOp (rIxT K) (tVar 1) (tVar 2))))) (te := tVar 2) (j := 2) (vs := [2])
            (fun i => !decide (ns.getD i 0 < ns.getD (i + 1) 0)) (fun i => .int (1 + (i : Int))) (ea_cons ev_c (ea_cons (ev_is (ev_lenT (K := K) (ev_var rfl) htH) (by rw [hl2])) ea_nil)) (by omega) (fun _ => rfl) ?_ ?_
          · rw [given_ints] at el
            refine s_ret (ev_opLL (r := rEqD K) el (el_lst ea_nil (by show 0 ≤ 100000; decide)) fun p q H1 hp hq e1 => ?_) fun H1 e1 => k H1 (eH.trans e1)
            intro H2 e2 Q2 q2
            refine ⟨.list (((List.range ((ns.length : Int) - 1).toNat).filter fun i => !decide (ns.getD i 0 < ns.getD (i + 1) 0)).map (fun i : Nat => 1 + (i : Int)) |>.map PyData.int), .list [], .lst (SqL.of (e2 _ _ hp)) (dp_ints _), .lst (SqL.of (e2 _ _ hq)) .nil, shaped_ints _, rfl, ?_⟩
            rw [eqv_nil, filter_not_empty, show ((ns.length : Int) - 1).toNat = ns.length - 1 by omega, ← asc_range]
            exact q2 H2 (Ex.refl _)
          · intro i H1 e hi
            have h1 : atI (ns.map V.int) (i : Int) = some (.int (ns.getD i 0)) := atI_nat (by
              rw [List.getElem?_map, List.getD_eq_getElem?_getD, List.getElem?_eq_getElem (by omega)]
              rfl)
            have h2 : atI (ns.map V.int) (1 + (i : Int)) = some (.int (ns.getD (i + 1) 0)) := by
              have := atI_nat (xs := ns.map V.int) (j := i + 1) (v := .int (ns.getD (i + 1) 0)) (by
                rw [List.getElem?_map, List.getD_eq_getElem?_getD, List.getElem?_eq_getElem (by omega)]
                rfl)
              rw [show ((i + 1 : Nat) : Int) = 1 + (i : Int) by omega] at this
              exact this
            refine et_not (et_test (ev_op (ev_op (ev_var rfl) (ev_op (ev_var rfl) ev_c rv_I0) (rv_ixT (ex_t e htH) ?_)) (ev_op (ev_var rfl) (ev_var rfl) (rv_ixT (ex_t e htH) h2)) rv_I0))
            rw [show (1 + (i : Int)) - 1 = (i : Int) by omega]
            exact h1
          · intro i H1 e hi _
            exact ev_var rfl
    | _ => cases z
end
end Bk

/-! What does not change while a deck is drawn from. -/
namespace Bk
open PySem L2 Evl Hg
section
variable {S : List Addr} {H H' H1 H2 : Hp} {a b p c : Addr} {o u : HO} {k : Nat} {K : PySem.W.Frag}
theorem hid_mut (n : a ∈ S) : hid S (upd H a o) = hid S H := by
  funext b
  unfold hid
  by_cases h : b ∈ S
  · rw [if_pos h, if_pos h]
  · rw [if_neg h, if_neg h, upd_ne (fun z => h (by rw [z]; exact n))]
theorem hid_new (h : H a = none) : Ex (hid S H) (hid (a :: S) (upd H a o)) := fun b u hb => by
  obtain ⟨h1, h2⟩ := of_hid hb
  have ne := ne_of_none h1 h
  refine hid_of ((upd_ne ne).trans h1) ?_
  intro z
  rcases List.mem_cons.mp z with z | z
  · exact ne z
  · exact h2 z
theorem hid_more (h : H a = none) : Ex (hid S H) (hid (a :: S) H) := fun b u hb => by
  obtain ⟨h1, h2⟩ := of_hid hb
  refine hid_of h1 ?_
  intro z
  rcases List.mem_cons.mp z with z | z
  · exact ne_of_none h1 h z
  · exact h2 z
/-- each of S stands -/
def Full (S : List Addr) (H : Hp) : Prop := ∀ a ∈ S, H a ≠ none
theorem Full.ex (f : Full S H) (e : Ex H H') : Full S H' := fun a h z => f a h (fresh_back e z)
theorem Full.kp (f : Full S H) (dk : Dk p c k H') (e : Kp p c H H') : Full S H' := fun a h z => by
  obtain ⟨ns, m, n, h1, h2, _⟩ := dk.ex
  have hp : a ≠ p := fun y => by rw [y, h1] at z; cases z
  have hc : a ≠ c := fun y => by rw [y, h2] at z; cases z
  cases q : H a with
  | none => exact f a h q
  | some o =>
    rw [e a o q hp hc] at z
    cases z
theorem Full.upd (f : Full S H) : Full S (upd H a o) := fun b h z => by
  by_cases e : b = a
  · rw [e, upd_same] at z
    cases z
  · rw [upd_ne e] at z
    exact f b h z
theorem Full.out (f : Full S H) (h : H a = none) : a ∉ S := fun z => f a z h
theorem Full.cons (f : Full S H) (h : H a ≠ none) : Full (a :: S) H := fun b z => by
  rcases List.mem_cons.mp z with rfl | z
  · exact h
  · exact f b z
theorem Dk.full (dk : Dk p c k H) : Full [p, c] H := by
  obtain ⟨ns, m, n, h1, h2, _⟩ := dk.ex
  intro a h
  simp only [List.mem_cons, List.not_mem_nil, or_false] at h
  rcases h with rfl | rfl
  · rw [h1]; exact fun z => nomatch z
  · rw [h2]; exact fun z => nomatch z
theorem Dk.upd (dk : Dk p c k H) (h1 : a ≠ p) (h2 : a ≠ c) : Dk p c k (L2.upd H a o) := by
  obtain ⟨ns, m, n, e1, e2, h⟩ := dk.ex
  exact ⟨ns, m, n, (upd_ne h1.symm).trans e1, (upd_ne h2.symm).trans e2, h⟩
theorem Dk.out (dk : Dk p c k H) (h : H a = none) : a ≠ p ∧ a ≠ c := by
  obtain ⟨ns, m, n, e1, e2, _⟩ := dk.ex
  refine ⟨?_, ?_⟩
  · intro z
    rw [z, e1] at h
    cases h
  · intro z
    rw [z, e2] at h
    cases h
theorem Kp.refl : Kp p c H H := fun _ _ h _ _ => h
theorem Kp.mut (e : Kp p c H H') (h : H a = none) : Kp p c H (L2.upd H' a o) := fun b u hb h1 h2 => by
  rw [upd_ne (ne_of_none hb h)]
  exact e b u hb h1 h2
theorem Kp.back (e : Kp p c H H') (h : H' a = none) (h1 : a ≠ p) (h2 : a ≠ c) : H a = none := by
  cases q : H a with
  | none => rfl
  | some o =>
    rw [e a o q h1 h2] at h
    cases h
end
/-! displays of data -/
section
variable {K : PySem.W.Frag} {S : List Addr} {σ : L2.St} {te : TE} {ta : TA} {d : PyData} {ds : List PyData}
def EvH (K : PySem.W.Frag) (S : List Addr) (te : TE) (σ : L2.St) (d : PyData) : Prop := ∀ H, Full S H → ∀ Q : VK, (∀ v H2, Ex H H2 → Dd K (hid S H2) v d → Q v H2) → te σ H Q
def EvHA (K : PySem.W.Frag) (S : List Addr) (ta : TA) (σ : L2.St) (ds : List PyData) : Prop := ∀ H, Full S H → ∀ Q : List V → Hp → Prop, (∀ vs H2, Ex H H2 → DdAll K (hid S H2) vs ds → Q vs H2) → ta σ H Q
theorem eh_int {i : Int} : EvH K S (tC (.int i)) σ (.int i) := fun H _ Q q => q _ _ (Ex.refl H) (.int i)
theorem eh_str {x : Str} : EvH K S (tC (.str x)) σ (.str x) := fun H _ Q q => q _ _ (Ex.refl H) (.str x)
theorem eh_bl {b : Bool} : EvH K S (tC (.bl b)) σ (.bool b) := fun H _ Q q => q _ _ (Ex.refl H) (.bl b)
theorem eh_neg {i : Int} : EvH K S (tUn (rU fun i => .int (-i)) (tC (.int i))) σ (.int (-i)) := fun H _ Q q => ⟨i, rfl, q _ _ (Ex.refl H) (.int (-i))⟩
theorem eha_nil : EvHA K S tNil σ [] := fun H _ Q q => q _ _ (Ex.refl H) .nil
theorem eha_cons (h : EvH K S te σ d) (hr : EvHA K S ta σ ds) : EvHA K S (tCons te ta) σ (d :: ds) := fun H f Q q =>
  h H f _ fun v H1 e1 h1 => hr H1 (f.ex e1) _ fun vs H2 e2 h2 => q _ _ (e1.trans e2) (.cons (h1.ex (hid_ex e2)) h2)
theorem eh_tup (h : EvHA K S ta σ ds) (hl : ds.length ≤ 1000) : EvH K S (tTup ta) σ (.tuple ds) := fun H f Q q =>
  h H f _ fun vs H1 e1 h1 => ⟨Nat.le_of_lt (small1000 (by rw [h1.length]; exact hl)), fun a ha => q _ _ (e1.trans (Ex.new ha)) (.tup (st_of (hid_of upd_same ((f.ex e1).out ha))) (h1.ex (hid_ex (Ex.new ha))))⟩
theorem eh_lst (h : EvHA K S ta σ ds) (hl : ds.length ≤ 1000) : EvH K S (tLst ta) σ (.list ds) := fun H f Q q =>
  h H f _ fun vs H1 e1 h1 => ⟨Nat.le_of_lt (small1000 (by rw [h1.length]; exact hl)), fun a ha => q _ _ (e1.trans (Ex.new ha)) (.lst (sq_of (hid_of upd_same ((f.ex e1).out ha))) (h1.ex (hid_ex (Ex.new ha))))⟩
/-- a draw -/
theorem draw_h {p c : Addr} {k : Nat} {i : Nat} {n : Int} {H : Hp} {Q : VK} {tb : TE} (hi : σ[i]? = some (some (.ref p))) (hb : ∀ R : VK, R (.int n) H → tb σ H R) (dk : Dk p c k H) (hk : k ≤ 1000000) (h1 : 1 ≤ n ∧ n ≤ 1000)
    (kk : ∀ j H2, 0 ≤ j → j < n → Dk p c (k + 1) H2 → Kp p c H H2 → Q (.int j) H2) : tCall spDraw [] E0 (tCons (tVar i) (tCons tb tNil)) σ H Q :=
  ⟨.ref p, hi, hb _ ⟨p, c, k, n, rfl, dk, h1.1, h1.2, hk, kk⟩⟩
/-- a pick out of a display -/
theorem pick_h {p c : Addr} {k : Nat} {i : Nat} {H : Hp} {Q : VK} (hi : σ[i]? = some (some (.ref p))) (hds : EvHA K S ta σ ds) (dk : Dk p c k H) (f : Full S H) (hp : p ∈ S) (hc : c ∈ S) (hk : k ≤ 1000000) (h1 : 1 ≤ ds.length ∧ ds.length ≤ 1000)
    (kk : ∀ d v H2, d ∈ ds → Dd K (hid S H2) v d → Dk p c (k + 1) H2 → Kp p c H H2 → Q v H2) : tCall (spPick K) [] E0 (tCons (tVar i) (tCons (tLst ta) tNil)) σ H Q := by
  refine ⟨.ref p, hi, hds H f _ fun vs H1 e1 h2 => ?_⟩
  have hl := h2.length
  refine ⟨Nat.le_of_lt (small1000 (by omega)), fun a ha => ?_⟩
  have e2 : Ex H (upd H1 a (.lst vs)) := e1.trans (Ex.new ha)
  have f1 := (f.ex e1).out ha
  have ne : a ≠ p ∧ a ≠ c := ⟨fun z => f1 (z ▸ hp), fun z => f1 (z ▸ hc)⟩
  refine ⟨p, c, a, k, vs, rfl, dk.up e2, SqL.of (hid_of upd_same (by simp [ne.1, ne.2])), by omega, by omega, hk, fun j x H2 hx dk2 kp2 => ?_⟩
  obtain ⟨d, hd, hxd⟩ := h2.get hx
  exact kk d x H2 (List.mem_of_getElem? hd) ((hxd.ex (hid_ex (Ex.new ha))).ex (hid_kp hp hc kp2)) dk2 ((Kp.of e2).trans kp2)
/-- a pick out of a list that stands -/
theorem pick_at {p c : Addr} {k : Nat} {i j : Nat} {a : Addr} {H : Hp} {Q : VK} (hi : σ[i]? = some (some (.ref p))) (hj : σ[j]? = some (some (.ref a))) (hd : Dd K (hid S H) (.ref a) (.list ds)) (dk : Dk p c k H) (hp : p ∈ S) (hc : c ∈ S) (hk : k ≤ 1000000) (h1 : 1 ≤ ds.length ∧ ds.length ≤ 1000)
    (kk : ∀ d v H2, d ∈ ds → Dd K (hid S H2) v d → Dk p c (k + 1) H2 → Kp p c H H2 → Q v H2) : tCall (spPick K) [] E0 (tCons (tVar i) (tCons (tVar j) tNil)) σ H Q := by
  cases hd with
  | lst hs hds =>
    rename_i xs
    have hl := hds.length
    refine ⟨.ref p, hi, .ref a, hj, p, c, a, k, xs, rfl, dk, ex_l (hid_less (by intro b hb; simp only [List.mem_cons, List.not_mem_nil, or_false] at hb; rcases hb with rfl | rfl <;> assumption)) hs, by omega, by omega, hk, fun j x H2 hx dk2 kp2 => ?_⟩
    obtain ⟨d, hd, hxd⟩ := hds.get hx
    exact kk d x H2 (List.mem_of_getElem? hd) (hxd.ex (hid_kp hp hc kp2)) dk2 kp2
end
/-- in a comprehension that draws -/
structure Iv (p c : Addr) (k0 m : Nat) (H1 : Hp) (D : Addr) (Pd : Nat → List V → Prop) (i : Nat) (H : Hp) : Prop where
  ex : ∃ acc : List V, H D = some (.lst acc) ∧ acc.length ≤ i ∧ Pd i acc
  dk : Dk p c (k0 + m * i) H
  kp : Kp p c H1 H
  nw : H1 D = none
section
variable {p c D : Addr} {k0 m i k k4 : Nat} {H H1 H2 H4 : Hp} {Pd : Nat → List V → Prop} {y : V}
theorem Iv.start (dk : Dk p c k0 H1) (hD : H1 D = none) (h : Pd 0 []) : Iv p c k0 m H1 D Pd 0 (upd H1 D (.lst [])) :=
  ⟨⟨[], upd_same, Nat.le_refl _, h⟩, dk.upd (dk.out hD).1 (dk.out hD).2, Kp.of (Ex.new hD), hD⟩
theorem Iv.no (iv : Iv p c k0 m H1 D Pd i H) (hd : Dk p c k H1) (dk : Dk p c k4 H4) (hk : k4 ≤ k0 + m * (i + 1)) (e : Kp p c H H4) (h : ∀ acc, Pd i acc → Pd (i + 1) acc) : Iv p c k0 m H1 D Pd (i + 1) H4 := by
  obtain ⟨⟨acc, h1, h2, h3⟩, _, kp, nw⟩ := iv
  obtain ⟨n1, n2⟩ := hd.out nw
  exact ⟨⟨acc, e _ _ h1 n1 n2, Nat.le_succ_of_le h2, h _ h3⟩, dk.mono hk, kp.trans e, nw⟩
theorem Iv.yes (iv : Iv p c k0 m H1 D Pd i H) (hd : Dk p c k H1) (hi : i ≤ 1000) (dk : Dk p c k4 H4) (hk : k4 ≤ k0 + m * (i + 1)) (e : Kp p c H H4) (h : ∀ acc, Pd i acc → Pd (i + 1) (acc ++ [y])) :
    ∃ acc, H4 D = some (.lst acc) ∧ acc.length < sizeLine ∧ Iv p c k0 m H1 D Pd (i + 1) (upd H4 D (.lst (acc ++ [y]))) := by
  obtain ⟨⟨acc, h1, h2, h3⟩, _, kp, nw⟩ := iv
  obtain ⟨n1, n2⟩ := hd.out nw
  exact ⟨acc, e _ _ h1 n1 n2, small1000 (by omega), ⟨⟨_, upd_same, by rw [List.length_append]; simp; omega, h _ h3⟩, (dk.mono hk).upd n1 n2, (kp.trans e).mut nw, nw⟩⟩
end
/-- ascending numbers below i, with f -/
def Up (f : Int → Prop) (i : Nat) (acc : List V) : Prop := ∃ ns : List Int, acc = ns.map V.int ∧ asc ns = true ∧ (∀ n ∈ ns, 0 ≤ n ∧ n < (i : Int) ∧ f n)
theorem asc_app : ∀ {ns : List Int} {z : Int}, asc ns = true → (∀ n ∈ ns, n < z) → asc (ns ++ [z]) = true
  | [], _, _, _ => rfl
  | [a], z, _, h => by
    show (decide (a < z) && true) = true
    rw [decide_eq_true (h a List.mem_cons_self)]
    rfl
  | a :: b :: r, z, h, hl => by
    have h' : (decide (a < b) && asc (b :: r)) = true := h
    obtain ⟨h1, h2⟩ := Bool.and_eq_true_iff.mp h'
    show (decide (a < b) && asc ((b :: r) ++ [z])) = true
    rw [h1, asc_app h2 fun n hn => hl n (List.mem_cons_of_mem _ hn)]
    rfl
theorem Up.nil {f : Int → Prop} : Up f 0 [] := ⟨[], rfl, rfl, fun _ h => nomatch h⟩
theorem Up.no {f : Int → Prop} {i : Nat} {acc : List V} (u : Up f i acc) : Up f (i + 1) acc := by
  obtain ⟨ns, h1, h2, h3⟩ := u
  exact ⟨ns, h1, h2, fun n hn => by have := h3 n hn; exact ⟨this.1, by omega, this.2.2⟩⟩
theorem Up.yes {f : Int → Prop} {i : Nat} {acc : List V} (u : Up f i acc) (hf : f i) : Up f (i + 1) (acc ++ [.int (i : Int)]) := by
  obtain ⟨ns, rfl, h2, h3⟩ := u
  refine ⟨ns ++ [(i : Int)], by simp, asc_app h2 fun n hn => (h3 n hn).2.1, fun n hn => ?_⟩
  rcases List.mem_append.mp hn with hn | hn
  · have := h3 n hn
    exact ⟨this.1, by omega, this.2.2⟩
  · simp at hn
    subst hn
    exact ⟨by omega, by omega, hf⟩
end Bk

namespace Bk
open PySem L2 Evl Hg
abbrev s_book : PySem.Stmt := top 48
def tDraw (i : Nat) (tb : TE) : TE := tCall spDraw [] E0 (tCons (tVar i) (tCons tb tNil))
def tPick (K : PySem.W.Frag) (i : Nat) (tl : TE) : TE := tCall (spPick K) [] E0 (tCons (tVar i) (tCons tl tNil))
section
variable {X : Cx} {K : PySem.W.Frag} {j i : Nat} {p pos : Pos} {e0 e1 : Expr} {tb : TE} {es : List Expr} {t : TA}
theorem pe_draw (c : Df X.prog X.w X.K X.mg X.base 1 "_law_draw" spDraw) (hr : Room j X.A) (hk : 1 ≤ j) (hg : Gl X "_law_draw") (ha : PA X [e0, e1] (tCons (tVar i) (tCons tb tNil)))
    (hdb : (("_law_draw" : Str) == ("__debug__" : Str)) = false := by decide) (he : starEach [e0, e1] X.env = (false, eval e0 X.env) :: starEach [e1] X.env := by rfl)
    (hpl : (backTo pos (starEach [e1] X.env)).any (·.1) = false := by rfl) : PE X (.Call (.Name "_law_draw" p) [e0, e1] [] pos) (tDraw i tb) :=
  pe_d c hr hk hg ha hdb he hpl
theorem pe_pick (c : Df X.prog X.w X.K X.mg X.base 2 "_law_pick" (spPick K)) (hr : Room j X.A) (hk : 2 ≤ j) (hg : Gl X "_law_pick") (ha : PA X [e0, e1] (tCons (tVar i) (tCons tb tNil)))
    (hdb : (("_law_pick" : Str) == ("__debug__" : Str)) = false := by decide) (he : starEach [e0, e1] X.env = (false, eval e0 X.env) :: starEach [e1] X.env := by rfl)
    (hpl : (backTo pos (starEach [e1] X.env)).any (·.1) = false := by rfl) : PE X (.Call (.Name "_law_pick" p) [e0, e1] [] pos) (tPick K i tb) :=
  pe_d c hr hk hg ha hdb he hpl
theorem pa_as (t : TA) (h : PA X es t) : PA X es t := h
end
/-! the displays of the law -/
abbrev bI (i : Int) : TE := tC (.int i)
abbrev bN (i : Int) : TE := tUn (rU fun i => .int (-i)) (tC (.int i))
abbrev bS (x : Str) : TE := tC (.str x)
abbrev bB (b : Bool) : TE := tC (.bl b)
abbrev l1 (a : TE) : TA := tCons a tNil
abbrev l2 (a b : TE) : TA := tCons a (tCons b tNil)
abbrev l3 (a b c : TE) : TA := tCons a (tCons b (tCons c tNil))
abbrev l4 (a b c d : TE) : TA := tCons a (tCons b (tCons c (tCons d tNil)))
abbrev l5 (a b c d e : TE) : TA := tCons a (tCons b (tCons c (tCons d (tCons e tNil))))
def taKinds : TA := l3 (tLst (l2 (bS "") (bS "a"))) (tLst (l3 (bS "") (bS "a") (bS "b"))) (tLst (l4 (bS "") (bS "b") (bS "ab") (bS "c")))
def taHall0 : TA := l3 (bN 1) (bN 1) (bI 0)
def taHall1 : TA := l4 (bI 0) (bI 0) (bI 1) (bN 1)
def taFirst : TA := l4 (tTup (l1 (bI 0))) (tTup (l1 (bI 0))) (tTup (l1 (bI 1))) (tTup (l2 (bI 0) (bI 1)))
def taOpen : TA := l5 (tTup (l3 (bI 0) (bI 1) (bI 2))) (tTup (l3 (bI 0) (bI 1) (bI 2))) (tTup (l2 (bI 0) (bI 1))) (tTup (l1 (bI 0))) (tTup (l2 (bI 1) (bI 2)))
abbrev bP (a b : Bool) : TE := tTup (l2 (bB a) (bB b))
def taLooks : TA := l5 (tTup (l2 (bP false false) (bP true false))) (tTup (l3 (bP false false) (bP true false) (bP false true))) (tTup (l2 (bP false false) (bP true true))) (tTup (l2 (bP true false) (bP false false))) (tTup (l1 (bP true false)))
def dsKinds : List PyData := [.list [.str "", .str "a"], .list [.str "", .str "a", .str "b"], .list [.str "", .str "b", .str "ab", .str "c"]]
def dsHall0 : List PyData := [.int (-1), .int (-1), .int 0]
def dsHall1 : List PyData := [.int 0, .int 0, .int 1, .int (-1)]
def dsFirst : List PyData := [.tuple [.int 0], .tuple [.int 0], .tuple [.int 1], .tuple [.int 0, .int 1]]
def dsOpen : List PyData := [.tuple [.int 0, .int 1, .int 2], .tuple [.int 0, .int 1, .int 2], .tuple [.int 0, .int 1], .tuple [.int 0], .tuple [.int 1, .int 2]]
abbrev dP (a b : Bool) : PyData := .tuple [.bool a, .bool b]
def dsLooks : List PyData := [.tuple [dP false false, dP true false], .tuple [dP false false, dP true false, dP false true], .tuple [dP false false, dP true true], .tuple [dP true false, dP false false], .tuple [dP true false]]
section
variable {K : PySem.W.Frag} {S : List Addr} {σ : L2.St}
theorem le1000 {n : Nat} (h : n ≤ 10) : n ≤ 1000 := by omega
theorem eha_kinds : EvHA K S taKinds σ dsKinds :=
  eha_cons (eh_lst (eha_cons eh_str (eha_cons eh_str eha_nil)) (by decide)) (eha_cons (eh_lst (eha_cons eh_str (eha_cons eh_str (eha_cons eh_str eha_nil))) (by decide)) (eha_cons (eh_lst (eha_cons eh_str (eha_cons eh_str (eha_cons eh_str (eha_cons eh_str eha_nil)))) (by decide)) eha_nil))
theorem eha_hall0 : EvHA K S taHall0 σ dsHall0 := eha_cons eh_neg (eha_cons eh_neg (eha_cons eh_int eha_nil))
theorem eha_hall1 : EvHA K S taHall1 σ dsHall1 := eha_cons eh_int (eha_cons eh_int (eha_cons eh_int (eha_cons eh_neg eha_nil)))
theorem eh_i1 {a : Int} : EvH K S (tTup (l1 (bI a))) σ (.tuple [.int a]) := eh_tup (eha_cons eh_int eha_nil) (le1000 (by show 1 ≤ 10; decide))
theorem eh_i2 {a b : Int} : EvH K S (tTup (l2 (bI a) (bI b))) σ (.tuple [.int a, .int b]) := eh_tup (eha_cons eh_int (eha_cons eh_int eha_nil)) (le1000 (by show 2 ≤ 10; decide))
theorem eh_i3 {a b c : Int} : EvH K S (tTup (l3 (bI a) (bI b) (bI c))) σ (.tuple [.int a, .int b, .int c]) := eh_tup (eha_cons eh_int (eha_cons eh_int (eha_cons eh_int eha_nil))) (le1000 (by show 3 ≤ 10; decide))
theorem eha_first : EvHA K S taFirst σ dsFirst := eha_cons eh_i1 (eha_cons eh_i1 (eha_cons eh_i1 (eha_cons eh_i2 eha_nil)))
theorem eha_open : EvHA K S taOpen σ dsOpen := eha_cons eh_i3 (eha_cons eh_i3 (eha_cons eh_i2 (eha_cons eh_i1 (eha_cons eh_i2 eha_nil))))
theorem eh_p {a b : Bool} : EvH K S (bP a b) σ (dP a b) := eh_tup (eha_cons eh_bl (eha_cons eh_bl eha_nil)) (le1000 (by show 2 ≤ 10; decide))
theorem eha_looks : EvHA K S taLooks σ dsLooks :=
  eha_cons (eh_tup (eha_cons eh_p (eha_cons eh_p eha_nil)) (by decide)) (eha_cons (eh_tup (eha_cons eh_p (eha_cons eh_p (eha_cons eh_p eha_nil))) (by decide)) (eha_cons (eh_tup (eha_cons eh_p (eha_cons eh_p eha_nil)) (by decide))
    (eha_cons (eh_tup (eha_cons eh_p (eha_cons eh_p eha_nil)) (by decide)) (eha_cons (eh_tup (eha_cons eh_p eha_nil) (by decide)) eha_nil))))
end
def strB : PyData → Bool
  | .str x => PyData.strOk x && decide (x.cps.size ≤ 10)
  | _ => false
def intB : PyData → Bool
  | .int i => decide (i.natAbs < 1000)
  | _ => false
def tupB : PyData → Bool
  | .tuple ds => decide (ds.length ≤ 10) && ds.all intB
  | _ => false
def kindB : PyData → Bool
  | .list ss => decide (1 ≤ ss.length) && (decide (ss.length ≤ 10) && ss.all fun d => isHeard d && strB d)
  | _ => false
theorem strB_fine {n : Nat} : ∀ {d : PyData}, strB d = true → Fine n d
  | .str x, h => by
    obtain ⟨h1, h2⟩ := Bool.and_eq_true_iff.mp (show (PyData.strOk x && decide (x.cps.size ≤ 10)) = true from h)
    simp only [Fine]
    exact ⟨h1, of_decide_eq_true h2⟩
theorem intB_fine {n : Nat} : ∀ {d : PyData}, intB d = true → Fine n d
  | .int i, h => fineInt (of_decide_eq_true h)
theorem tupB_fine {n : Nat} : ∀ {d : PyData}, tupB d = true → Fine (n + 1) d
  | .tuple ds, h => by
    obtain ⟨h1, h2⟩ := Bool.and_eq_true_iff.mp (show (decide (ds.length ≤ 10) && ds.all intB) = true from h)
    exact fineTup (of_decide_eq_true h1) fun d hd => intB_fine (List.all_eq_true.mp h2 d hd)
theorem kinds_ok : ∀ d ∈ dsKinds, kindB d = true := by decide +kernel
theorem first_ok : ∀ d ∈ dsFirst, (areStand 2 d && (areStand 3 d && tupB d)) = true := by decide +kernel
theorem open_ok : ∀ d ∈ dsOpen, (areAsc 0 99 d && tupB d) = true := by decide +kernel
def hallB : PyData → Bool
  | .int i => decide (-1 ≤ i) && decide (i ≤ 1)
  | _ => false
theorem hall0_ok : ∀ d ∈ dsHall0, hallB d = true := by decide +kernel
theorem hall1_ok : ∀ d ∈ dsHall1, hallB d = true := by decide +kernel
end Bk

namespace Bk
open PySem L2 Evl Hg
section
variable {K : PySem.W.Frag} {S : List Addr} {σ : L2.St} {te : TE} {ta : TA} {d : PyData} {ds : List PyData} {p c : Addr} {k i j : Nat} {H : Hp} {Q : VK}
theorem draw_t {tb : TE} {n : Int} (hi : σ[i]? = some (some (.ref p))) (hb : ∀ R : VK, R (.int n) H → tb σ H R) (dk : Dk p c k H) (hk : k ≤ 1000000) (h1 : 1 ≤ n ∧ n ≤ 1000)
    (kk : ∀ j H2, 0 ≤ j → j < n → Dk p c (k + 1) H2 → Kp p c H H2 → Q (.int j) H2) : tDraw i tb σ H Q := draw_h hi hb dk hk h1 kk
theorem pick_t (hi : σ[i]? = some (some (.ref p))) (hds : EvHA K S ta σ ds) (dk : Dk p c k H) (f : Full S H) (hp : p ∈ S) (hc : c ∈ S) (hk : k ≤ 1000000) (h1 : 1 ≤ ds.length ∧ ds.length ≤ 1000)
    (kk : ∀ d v H2, d ∈ ds → Dd K (hid S H2) v d → Dk p c (k + 1) H2 → Kp p c H H2 → Q v H2) : tPick K i (tLst ta) σ H Q := pick_h hi hds dk f hp hc hk h1 kk
theorem pick_v {a : Addr} (hi : σ[i]? = some (some (.ref p))) (hj : σ[j]? = some (some (.ref a))) (hd : Dd K (hid S H) (.ref a) (.list ds)) (dk : Dk p c k H) (hp : p ∈ S) (hc : c ∈ S) (hk : k ≤ 1000000) (h1 : 1 ≤ ds.length ∧ ds.length ≤ 1000)
    (kk : ∀ d v H2, d ∈ ds → Dd K (hid S H2) v d → Dk p c (k + 1) H2 → Kp p c H H2 → Q v H2) : tPick K i (tVar j) σ H Q := pick_at hi hj hd dk hp hc hk h1 kk
theorem hb_c {n : Int} : ∀ R : VK, R (.int n) H → tC (.int n) σ H R := fun _ h => h
theorem hb_v {n : Int} (h : σ[j]? = some (some (.int n))) : ∀ R : VK, R (.int n) H → tVar j σ H R := fun _ q => ⟨_, h, q⟩
end
/-- the values of the book's def, from the third on -/
abbrev σb (p : Addr) (v2 v3 v4 v5 v6 v7 v8 v10 v11 v12 v13 : Option V) : L2.St := [some (.ref p), some (.int 8), v2, v3, v4, v5, v6, v7, v8, none, v10, v11, v12, v13, none]
abbrev tHalls (K : PySem.W.Frag) : TE := tLc (iRng1 (tCons (tOp (rI0 fun i j => V.int (i - j)) (tVar 2) (tC (V.int 1))) tNil)) (gName 5) tYes (tPick K 0 (tLst taHall1)) (List.map (fun x => x.snd) [(("_law_k" : Str), 5)])
def PdH (i : Nat) (acc : List V) : Prop := ∃ ns : List Int, acc = ns.map V.int ∧ ns.length = i ∧ ∀ n ∈ ns, -1 ≤ n ∧ n ≤ 1
theorem hallB_of {d : PyData} (h : hallB d = true) : ∃ i, d = .int i ∧ -1 ≤ i ∧ i ≤ 1 := by
  cases d with
  | int i =>
    obtain ⟨h1, h2⟩ := Bool.and_eq_true_iff.mp (show (decide (-1 ≤ i) && decide (i ≤ 1)) = true from h)
    exact ⟨i, rfl, of_decide_eq_true h1, of_decide_eq_true h2⟩
  | _ => cases h
theorem go_halls {K : PySem.W.Frag} {p c : Addr} {k : Nat} {H : Hp} {Q : VK} {z : Int} {v3 : Option V} (hz : 1 ≤ z ∧ z ≤ 100) (dk : Dk p c k H) (hk : k ≤ 900000)
    (kk : ∀ D (hs : List Int) H2, H D = none → H2 D = some (.lst (hs.map V.int)) → (hs.length : Int) = z - 1 → (∀ n ∈ hs, -1 ≤ n ∧ n ≤ 1) → Dk p c (k + 100) H2 → Kp p c H H2 → Q (.ref D) H2) :
    tHalls K (σb p (some (.int z)) v3 none none none none none none none none none) H Q := by
  refine ⟨.int z, rfl, z, 1, rfl, rfl, z - 1, rfl, by omega, by omega, fun D hD => ?_⟩
  refine lc_range (lo := 0) (n := (z - 1).toNat) (Iv p c k 1 H D PdH) (Iv.start dk hD ⟨[], rfl, rfl, fun _ h => nomatch h⟩) ?_ ?_
  · intro i H' hi iv
    refine ⟨rfl, ?_⟩
    dsimp only [tYes]
    rw [if_pos rfl]
    have fl := iv.dk.full
    refine pick_t (S := [p, c]) (p := p) (c := c) rfl eha_hall1 iv.dk fl (by simp) (by simp) (by omega) (by decide) fun d v H2 hd hv dk2 kp2 => ?_
    obtain ⟨n, rfl, n1, n2⟩ := hallB_of (hall1_ok d hd)
    cases hv
    refine iv.yes dk (by omega) dk2 (by omega) kp2 fun acc ⟨ns, e1, e2, e3⟩ => ⟨ns ++ [n], by rw [e1]; simp, by simp [e2], fun m hm => ?_⟩
    rcases List.mem_append.mp hm with hm | hm
    · exact e3 m hm
    · simp at hm
      subst hm
      exact ⟨n1, n2⟩
  · intro H2 iv
    obtain ⟨⟨acc, h1, h2, ns, rfl, h3, h4⟩, dk2, kp2, nw⟩ := iv
    exact kk D ns H2 nw h1 (by omega) h4 (dk2.mono (by omega)) kp2
/-! the rooms that are seen -/
abbrev tSeen (K : PySem.W.Frag) (n : Int) : TE := tLc (iTup K (tTup (tCons (tC (V.int 0)) (tCons (tC (V.int 1)) tNil)))) (gName 9)
  (tAnd (tTest (tOp rNe (tVar 9) (tOp (rIxL K) (tVar 4) (tVar 7)))) (tTest (tOp rEq (tDraw 0 (tC (V.int n))) (tC (V.int 0))))) (tVar 9) (List.map (fun x => x.snd) [(("_law_hall" : Str), 9)])
theorem go_seen {K : PySem.W.Frag} {p c : Addr} {k : Nat} {H : Hp} {Q : VK} {v2 v3 v5 v6 v8 v10 v11 v12 v13 : Option V} {hl : Addr} {hs : List Int} {o r : Int} {n : Int} (hn : 1 ≤ n ∧ n ≤ 1000) (dk : Dk p c k H) (hk : k ≤ 900000) (hh : H hl = some (.lst (hs.map V.int)))
    (hne : hl ≠ p ∧ hl ≠ c) (ho : atI (hs.map V.int) o = some (.int r))
    (kk : ∀ D (ns : List Int) H2, H D = none → H2 D = some (.lst (ns.map V.int)) → asc ns = true → (∀ n ∈ ns, 0 ≤ n ∧ n < 2 ∧ n ≠ r) → ns.length ≤ 2 → Dk p c (k + 2) H2 → Kp p c H H2 → Q (.ref D) H2) :
    tSeen K n (σb p v2 v3 (some (.ref hl)) v5 v6 (some (.int o)) v8 v10 v11 v12 v13) H Q := by
  refine ⟨by show 2 ≤ sizeLine; decide, fun t ht => ⟨t, rfl, ⟨_, st_of upd_same⟩, fun D hD => ?_⟩⟩
  have e1 : Ex H (upd H t (.tup [.int 0, .int 1])) := Ex.new ht
  have hT : (upd H t (.tup [.int 0, .int 1])) t = some (.tup [.int 0, .int 1]) := upd_same
  generalize upd H t (.tup [.int 0, .int 1]) = H1 at e1 hT hD
  have dk1 := dk.up e1
  have hh1 := e1 _ _ hh
  have kT : ∀ i H', Iv p c k 1 H1 D (Up (fun n => n ≠ r)) i H' → H' t = some (.tup [.int 0, .int 1]) := by
    intro i H' iv
    obtain ⟨q1, q2⟩ := dk.out ht
    exact iv.kp _ _ hT q1 q2
  refine lc_tup (K := K) (a := t) (xs := [.int 0, .int 1]) (Iv p c k 1 H1 D (Up (fun n => n ≠ r))) (Iv.start dk1 hD Up.nil) (fun i H' _ iv => st_of (kT i H' iv)) ?_ ?_
  · intro i x H' hi iv
    have il : i < 2 := (List.getElem?_eq_some_iff.mp hi).1
    obtain rfl : x = .int (i : Int) := by
      match i, il, hi with
      | 0, _, hi => exact (Option.some.inj hi).symm
      | 1, _, hi => exact (Option.some.inj hi).symm
    have hhH : H' hl = some (.lst (hs.map V.int)) := iv.kp _ _ hh1 hne.1 hne.2
    refine ⟨rfl, .int (i : Int), rfl, .ref hl, rfl, .int o, rfl, hl, _, o, .int r, rfl, rfl, SqL.of hhH, ho, rfl, _, rfl, ?_⟩
    by_cases he : (i : Int) = r
    · subst he
      rw [show (!decide (V.int (i : Int) = V.int (i : Int))) = false by simp]
      exact iteF (iteF (iv.no dk1 iv.dk (Nat.add_le_add_left (Nat.mul_le_mul_left _ (Nat.le_succ _)) _) Kp.refl fun acc u => u.no))
    · rw [show (!decide (V.int (i : Int) = V.int r)) = true by simp [he]]
      refine iteT (draw_t (c := c) rfl hb_c iv.dk (by omega) hn fun j H2 j0 j1 dk2 kp2 => ⟨rfl, _, rfl, ?_⟩)
      by_cases hj : j = 0
      · subst hj
        refine iteT ⟨.int (i : Int), rfl, iv.yes dk1 (by omega) dk2 (by omega) kp2 fun acc u => u.yes he⟩
      · rw [show decide (V.int j = V.int 0) = false by simp [hj]]
        exact iteF (iv.no dk1 dk2 (by omega) kp2 fun acc u => u.no)
  · intro H2 iv
    obtain ⟨⟨acc, h1, h2, ns, rfl, h3, h4⟩, dk2, kp2, nw⟩ := iv
    exact kk D ns H2 (fresh_back e1 nw) h1 h3 (fun n hn => by have := h4 n hn; exact ⟨this.1, this.2.1, this.2.2⟩) (by simpa using h2) (dk2.mono (by show k + 1 * 2 ≤ k + 2; omega)) ((Kp.of e1).trans kp2)
end Bk

namespace Bk
open PySem L2 Evl Hg
abbrev rTupOf (K : PySem.W.Frag) : List V → Hp → VK → Prop := fun xs H Q => ∃ p ys, xs = [V.ref p] ∧ ((SqL K H p ys ∧ ∀ (l : Addr), H l = none → Q (V.ref l) (upd H l (HO.tup ys))) ∨ SqT K H p ys ∧ Q (V.ref p) H)
abbrev rInt1 : List V → Hp → VK → Prop := fun xs H Q => (∃ i, xs = [V.int i] ∧ Q (V.int i) H) ∨ ∃ k, xs = [V.bl k] ∧ Q (V.int (if k = true then 1 else 0)) H
abbrev tBody (K : PySem.W.Frag) : TS :=
  tSeq (tAsg (tIf (tTest (tOp (rI0 fun i j => V.bl (decide (j < i))) (tDraw 0 (tC (V.int 3))) (tC (V.int 0)))) (tOp (rI (fun x j => 0 < j) fun i j => V.int (i % j)) (tCB rInt1 (tCons (tVar 5) tNil)) (tVar 2)) (tDraw 0 (tVar 2))) (gName 7))
    (tSeq (tAsg (tSeen K 8) (gName 8)) (tSeq (tAsg (tSeen K 10) (gName 10)) (tSeq (tAsg (tPick K 0 (tLst taOpen)) (gName 11))
      (tSeq (tAsg (tTup (tCons (tVar 7) (tCons (tDraw 0 (tVar 2)) (tCons (tPick K 0 (tVar 3)) (tCons (tVar 11) (tCons (tCB (rTupOf K) (tCons (tVar 8) tNil)) (tCons (tCB (rTupOf K) (tCons (tVar 10) tNil)) tNil))))))) (gName 12))
        (tDrop (tBM K "list" rAppend (tDGet (tVar 6) (tC (.str "moves"))) (tCons (tVar 12) tNil)))))))
theorem q_n {te : TE} {i : Nat} {tz : TS} {D : Ends} {σ : L2.St} {H : Hp} (h : te σ H fun x H1 => tz D (σ.set i (some x)) H1) : tSeq (tAsg te (gName i)) tz D σ H := h
theorem t_if {t : TT} {ta tb : TE} {σ : L2.St} {H : Hp} {Q : VK} (h : t σ H fun c H1 => if c = true then ta σ H1 Q else tb σ H1 Q) : tIf t ta tb σ H Q := h
theorem t_test {te : TE} {σ : L2.St} {H : Hp} {Q : Bool → Hp → Prop} (h : te σ H fun x H1 => ∃ k, x = .bl k ∧ Q k H1) : tTest te σ H Q := h
theorem t_op {r : R2} {ta tb : TE} {σ : L2.St} {H : Hp} {Q : VK} (h : ta σ H fun x H1 => tb σ H1 fun y H2 => r x y H2 Q) : tOp r ta tb σ H Q := h
theorem t_tup {ta : TA} {σ : L2.St} {H : Hp} {Q : VK} (h : ta σ H fun xs H1 => xs.length ≤ sizeLine ∧ ∀ p, H1 p = none → Q (.ref p) (upd H1 p (.tup xs))) : tTup ta σ H Q := h
theorem t_cons {te : TE} {ta : TA} {σ : L2.St} {H : Hp} {Q : List V → Hp → Prop} (h : te σ H fun x H1 => ta σ H1 fun xs H2 => Q (x :: xs) H2) : tCons te ta σ H Q := h
theorem t_cb {r : List V → Hp → VK → Prop} {ta : TA} {σ : L2.St} {H : Hp} {Q : VK} (h : ta σ H fun xs H1 => r xs H1 Q) : tCB r ta σ H Q := h
theorem all_betw {lo hi : Int} : ∀ {ns : List Int}, (∀ n ∈ ns, lo ≤ n ∧ n ≤ hi) → (ns.map PyData.int).all (betw lo hi) = true
  | [], _ => rfl
  | n :: ns, h => by
    show (betw lo hi (.int n) && (ns.map PyData.int).all (betw lo hi)) = true
    rw [all_betw fun m hm => h m (List.mem_cons_of_mem _ hm)]
    obtain ⟨h1, h2⟩ := h n List.mem_cons_self
    show ((decide (lo ≤ n) && decide (n ≤ hi)) && true) = true
    rw [decide_eq_true h1, decide_eq_true h2]
    rfl
theorem ints_back (ns : List Int) : (ns.map PyData.int).map intOf = ns := by
  rw [List.map_map]
  exact (List.map_congr_left (fun _ _ => rfl)).trans (List.map_id ns)
theorem areAsc_ints {lo hi : Int} {ns : List Int} (h : ∀ n ∈ ns, lo ≤ n ∧ n ≤ hi) (a : asc ns = true) : areAsc lo hi (.tuple (ns.map PyData.int)) = true := by
  show ((ns.map PyData.int).all (betw lo hi) && asc ((ns.map PyData.int).map intOf)) = true
  rw [all_betw h, ints_back, a]
  rfl
theorem looks_ints {r : Int} {ns : List Int} (h : ∀ n ∈ ns, 0 ≤ n ∧ n < 2 ∧ n ≠ r) (a : asc ns = true) : looks r (.tuple (ns.map PyData.int)) = true := by
  show (areAsc 0 9 _ && !((ns.map PyData.int).map intOf).contains r) = true
  rw [areAsc_ints (fun n hn => by have := h n hn; omega) a, ints_back]
  have : ns.contains r = false := by
    cases e : ns.contains r with
    | false => rfl
    | true =>
      rw [List.contains_iff_mem] at e
      exact absurd rfl (h r e).2.2
  rw [this]
  rfl
theorem fine_ints {n : Nat} {ns : List Int} (hl : ns.length ≤ 10) (h : ∀ m ∈ ns, m.natAbs < 1000) : Fine (n + 1) (.tuple (ns.map PyData.int)) :=
  fineTup (by rw [List.length_map]; exact hl) fun d hd => by
    obtain ⟨m, hm, rfl⟩ := List.mem_map.mp hd
    exact fineInt (h m hm)
theorem dd_intsAll {K : PySem.W.Frag} {H : Hp} : ∀ ns : List Int, DdAll K H (ns.map V.int) (ns.map PyData.int)
  | [] => .nil
  | n :: ns => .cons (.int n) (dd_intsAll ns)
def w3 (vr vm vf : V) : List (Key × V) := [(.inr "rooms", vr), (.inr "moves", vm), (.inr "first", vf)]
theorem w3_m {vr vm vf : V} : valV (w3 vr vm vf) (.inr "moves") = some vm := by rw [w3, valV_neg k_rm, valV_pos rfl]
/-- between the turns of the loop that draws moves -/
structure Lp (K : PySem.W.Frag) (p c : Addr) (k : Nat) (H0 : Hp) (z : Int) (kd hl w ml : Addr) (hs : List Int) (ss : List PyData) (vr vf : V) (i : Nat) (H : Hp) : Prop where
  f1 : Dk p c (k + 9 * i) H
  f2 : Kp p c H0 H
  f3 : H hl = some (.lst (hs.map V.int))
  f4 : Dd K (hid [p, c, ml, w] H) (.ref kd) (.list ss)
  f5 : H w = some (.dK (w3 vr (.ref ml) vf))
  f6 : ∃ rows ds, H ml = some (.lst rows) ∧ DdAll K (hid [p, c, ml, w] H) rows ds ∧ (∀ d ∈ ds, Fine 2 d ∧ isMove hs d = true) ∧ rows.length = i
theorem kindB_of {d : PyData} (h : kindB d = true) : ∃ ss, d = .list ss ∧ 1 ≤ ss.length ∧ ss.length ≤ 10 ∧ ∀ s ∈ ss, isHeard s = true ∧ strB s = true := by
  cases d with
  | list ss =>
    obtain ⟨h1, h23⟩ := Bool.and_eq_true_iff.mp (show (decide (1 ≤ ss.length) && (decide (ss.length ≤ 10) && ss.all fun d => isHeard d && strB d)) = true from h)
    obtain ⟨h2, h3⟩ := Bool.and_eq_true_iff.mp h23
    exact ⟨ss, rfl, of_decide_eq_true h1, of_decide_eq_true h2, fun s hs => Bool.and_eq_true_iff.mp (List.all_eq_true.mp h3 s hs)⟩
  | _ => cases h
theorem go_body {K : PySem.W.Frag} {p c : Addr} {k : Nat} {H0 H : Hp} {z : Int} {kd hl w ml : Addr} {hs : List Int} {ss : List PyData} {vr vf : V} {i : Nat} {v7 v8 v10 v11 v12 : Option V} {D : Ends} (hz : (hs.length : Int) = z) (hz2 : 1 ≤ z ∧ z ≤ 100) (hi : i ≤ 20) (hk : k ≤ 800000)
    (hhl : hl ≠ p ∧ hl ≠ c ∧ hl ≠ ml ∧ hl ≠ w) (hw : w ≠ p ∧ w ≠ c) (hml : ml ≠ p ∧ ml ≠ c ∧ ml ≠ w) (h0 : H0 ml = none ∧ H0 w = none) (hss : 1 ≤ ss.length ∧ ss.length ≤ 10 ∧ ∀ s ∈ ss, isHeard s = true ∧ strB s = true)
    (lp : Lp K p c k H0 z kd hl w ml hs ss vr vf i H)
    (kk : ∀ v7 v8 v10 v11 v12 H', Lp K p c k H0 z kd hl w ml hs ss vr vf (i + 1) H' → D.nx (σb p (some (.int z)) (some (.ref kd)) (some (.ref hl)) (some (.int (i : Int))) (some (.ref w)) v7 v8 v10 v11 v12 none) H') :
    tBody K D (σb p (some (.int z)) (some (.ref kd)) (some (.ref hl)) (some (.int (i : Int))) (some (.ref w)) v7 v8 v10 v11 v12 none) H := by
  obtain ⟨dk, kp, hhH, hkD, hwH, rows, ds, hmH, hrows, hds, hlen⟩ := lp
  -- behind the origin
  have rest : ∀ (o : Int) H1, 0 ≤ o → o < z → Dk p c (k + 9 * i + 2) H1 → Kp p c H H1 → tSeq (tAsg (tSeen K 8) (gName 8)) (tSeq (tAsg (tSeen K 10) (gName 10)) (tSeq (tAsg (tPick K 0 (tLst taOpen)) (gName 11))
      (tSeq (tAsg (tTup (tCons (tVar 7) (tCons (tDraw 0 (tVar 2)) (tCons (tPick K 0 (tVar 3)) (tCons (tVar 11) (tCons (tCB (rTupOf K) (tCons (tVar 8) tNil)) (tCons (tCB (rTupOf K) (tCons (tVar 10) tNil)) tNil))))))) (gName 12))
        (tDrop (tBM K "list" rAppend (tDGet (tVar 6) (tC (.str "moves"))) (tCons (tVar 12) tNil)))))) D (σb p (some (.int z)) (some (.ref kd)) (some (.ref hl)) (some (.int (i : Int))) (some (.ref w)) (some (.int o)) v8 v10 v11 v12 none) H1 := by
    intro o H1 o0 o1 dk1 kp1
    have hat : atI (hs.map V.int) o = some (.int (hs.getD o.toNat 0)) := by
      have := atI_nat (xs := hs.map V.int) (j := o.toNat) (v := .int (hs.getD o.toNat 0)) (by
        rw [List.getElem?_map, List.getD_eq_getElem?_getD, List.getElem?_eq_getElem (by omega)]
        rfl)
      rw [show ((o.toNat : Nat) : Int) = o by omega] at this
      exact this
    have hh1 := kp1 _ _ hhH hhl.1 hhl.2.1
    refine q_n ?_
    refine go_seen (n := 8) ⟨by decide, by decide⟩ dk1 (by omega) hh1 ⟨hhl.1, hhl.2.1⟩ hat fun D1 ns1 H2 hD1 h1 a1 b1 l1 dk2 kp2 => ?_
    have hh2 := kp2 _ _ hh1 hhl.1 hhl.2.1
    refine q_n ?_
    refine go_seen (n := 10) ⟨by decide, by decide⟩ dk2 (by omega) hh2 ⟨hhl.1, hhl.2.1⟩ hat fun D2 ns2 H3 hD2 h2 a2 b2 l2 dk3 kp3 => ?_
    obtain ⟨n11, n12⟩ := dk1.out hD1
    obtain ⟨n21, n22⟩ := dk2.out hD2
    have kp13 : Kp p c H H3 := (kp1.trans kp2).trans kp3
    have pin : p ∈ [p, c, ml, w] := by simp
    have cin : c ∈ [p, c, ml, w] := by simp
    have full3 : Full [p, c, ml, w] H3 := by
      intro a ha
      have q := dk3.full
      simp only [List.mem_cons, List.not_mem_nil, or_false] at ha
      rcases ha with rfl | rfl | rfl | rfl
      · exact q _ (by simp)
      · exact q _ (by simp)
      · rw [kp13 _ _ hmH hml.1 hml.2.1]
        exact fun z => nomatch z
      · rw [kp13 _ _ hwH hw.1 hw.2]
        exact fun z => nomatch z
    refine q_n ?_
    refine pick_t (S := [p, c, ml, w]) (c := c) rfl eha_open dk3 full3 pin cin (by omega) (by decide) fun f vF H4 hf hF dk4 kp4 => ?_
    refine q_n (t_tup (t_cons ⟨_, rfl, t_cons ?_⟩))
    refine draw_t (c := c) rfl (hb_v rfl) dk4 (by omega) ⟨by omega, by omega⟩ fun t H5 t0 t1 dk5 kp5 => ?_
    have kp15 : Kp p c H H5 := (kp13.trans kp4).trans kp5
    refine t_cons ?_
    refine pick_v (S := [p, c, ml, w]) (c := c) rfl rfl (hkD.ex (hid_kp pin cin kp15)) dk5 pin cin (by omega) ⟨hss.1, by omega⟩ fun h vH H6 hh hH dk6 kp6 => ?_
    have kp16 := kp15.trans kp6
    have k26 : Kp p c H2 H6 := ((kp3.trans kp4).trans kp5).trans kp6
    have k36 : Kp p c H3 H6 := (kp4.trans kp5).trans kp6
    have h16 := k26 _ _ h1 n11 n12
    have h26 := k36 _ _ h2 n21 n22
    refine ⟨_, rfl, _, rfl, D1, _, rfl, Or.inl ⟨SqL.of h16, fun T1 hT1 => ?_⟩⟩
    have e7 : Ex H6 (upd H6 T1 (.tup (ns1.map V.int))) := Ex.new hT1
    refine ⟨_, rfl, D2, _, rfl, Or.inl ⟨SqL.of (e7 _ _ h26), fun T2 hT2 => ?_⟩⟩
    have hT1' : (upd H6 T1 (.tup (ns1.map V.int))) T1 = some (.tup (ns1.map V.int)) := upd_same
    generalize upd H6 T1 (.tup (ns1.map V.int)) = H7 at e7 hT1' hT2
    have e8 : Ex H7 (upd H7 T2 (.tup (ns2.map V.int))) := Ex.new hT2
    have hT2' : (upd H7 T2 (.tup (ns2.map V.int))) T2 = some (.tup (ns2.map V.int)) := upd_same
    generalize upd H7 T2 (.tup (ns2.map V.int)) = H8 at e8 hT2'
    refine ⟨by show 6 ≤ sizeLine; decide, fun R hR => ?_⟩
    have e9 : Ex H8 (upd H8 R (.tup [.int o, .int t, vH, vF, .ref T1, .ref T2])) := Ex.new hR
    have hR' : (upd H8 R (.tup [.int o, .int t, vH, vF, .ref T1, .ref T2])) R = some (.tup [.int o, .int t, vH, vF, .ref T1, .ref T2]) := upd_same
    generalize upd H8 R (.tup [.int o, .int t, vH, vF, .ref T1, .ref T2]) = H9 at e9 hR'
    have e69 : Ex H6 H9 := (e7.trans e8).trans e9
    have kp19 : Kp p c H H9 := kp16.trans (Kp.of e69)
    have full6 : Full [p, c, ml, w] H6 := full3.kp dk6 k36
    have full9 := full6.ex e69
    have hw9 := kp19 _ _ hwH hw.1 hw.2
    have hm9 := kp19 _ _ hmH hml.1 hml.2.1
    have g9 := DGet.k (k := .inr "moves") hw9
    rw [w3_m] at g9
    refine ⟨.ref w, rfl, w, .ref ml, rfl, g9, Or.inl ⟨rfl, _, SqL.of hm9⟩, .ref R, rfl, ml, rows, .ref R, rfl, rfl, hm9, small1000 (by omega), ?_⟩
    -- the data
    have out6 : ∀ {a : Addr} {H' : Hp}, Ex H6 H' → H' a = none → a ∉ [p, c, ml, w] := fun e h => (full6.ex e).out h
    have o1' := out6 (Ex.refl _) hT1
    have o2' := out6 e7 hT2
    have oR := out6 (e7.trans e8) hR
    have dT1 : Dd K (hid [p, c, ml, w] H9) (.ref T1) (.tuple (ns1.map PyData.int)) := .tup (st_of (hid_of ((e8.trans e9) _ _ hT1') o1')) (dd_intsAll ns1)
    have dT2 : Dd K (hid [p, c, ml, w] H9) (.ref T2) (.tuple (ns2.map PyData.int)) := .tup (st_of (hid_of (e9 _ _ hT2') o2')) (dd_intsAll ns2)
    have dH : Dd K (hid [p, c, ml, w] H9) vH h := hH.ex (hid_ex e69)
    have dF : Dd K (hid [p, c, ml, w] H9) vF f := (hF.ex (hid_kp pin cin (kp5.trans kp6))).ex (hid_ex e69)
    have dR : Dd K (hid [p, c, ml, w] H9) (.ref R) (.tuple [.int o, .int t, h, f, .tuple (ns1.map PyData.int), .tuple (ns2.map PyData.int)]) :=
      .tup (st_of (hid_of hR' oR)) (.cons (.int o) (.cons (.int t) (.cons dH (.cons dF (.cons dT1 (.cons dT2 .nil))))))
    have fo := open_ok f hf
    obtain ⟨f1, f2⟩ := Bool.and_eq_true_iff.mp fo
    obtain ⟨s1, s2⟩ := hss.2.2 h hh
    have fine : Fine 2 (.tuple [.int o, .int t, h, f, .tuple (ns1.map PyData.int), .tuple (ns2.map PyData.int)]) := by
      refine fineTup (by show 6 ≤ 10; decide) fun d hd => ?_
      simp only [List.mem_cons, List.not_mem_nil, or_false] at hd
      rcases hd with rfl | rfl | rfl | rfl | rfl | rfl
      · exact fineInt (by omega)
      · exact fineInt (by omega)
      · exact strB_fine s2
      · exact tupB_fine f2
      · exact fine_ints (by omega) fun m hm => by have := b1 m hm; omega
      · exact fine_ints (by omega) fun m hm => by have := b2 m hm; omega
    have mv : isMove hs (.tuple [.int o, .int t, h, f, .tuple (ns1.map PyData.int), .tuple (ns2.map PyData.int)]) = true := by
      show ((betw 0 (hs.length - 1) (.int o) && (betw 0 (hs.length - 1) (.int t) && isHeard h)) && (areAsc 0 99 f && (looks (hs.getD o.toNat 0) (.tuple (ns1.map PyData.int)) && looks (hs.getD o.toNat 0) (.tuple (ns2.map PyData.int))))) = true
      rw [looks_ints b1 a1, looks_ints b2 a2, f1, s1]
      show (((decide (0 ≤ o) && decide (o ≤ (hs.length : Int) - 1)) && ((decide (0 ≤ t) && decide (t ≤ (hs.length : Int) - 1)) && true)) && true) = true
      rw [decide_eq_true o0, decide_eq_true t0, decide_eq_true (show o ≤ (hs.length : Int) - 1 by omega), decide_eq_true (show t ≤ (hs.length : Int) - 1 by omega)]
      rfl
    have mout : ml ∈ [p, c, ml, w] := by simp
    refine kk _ _ _ _ _ _ ⟨?_, (kp.trans kp19).mut h0.1, ?_, ?_, ?_, rows ++ [.ref R], ds ++ [.tuple [.int o, .int t, h, f, .tuple (ns1.map PyData.int), .tuple (ns2.map PyData.int)]], upd_same, ?_, ?_, by simp [hlen]⟩
    · exact ((dk6.up e69).mono (by omega)).upd hml.1 hml.2.1
    · rw [upd_ne hhl.2.2.1]
      exact kp19 _ _ hhH hhl.1 hhl.2.1
    · rw [hid_mut mout]
      exact hkD.ex (hid_kp pin cin kp19)
    · rw [upd_ne hml.2.2.symm]
      exact hw9
    · rw [hid_mut mout]
      exact (hrows.ex (hid_kp pin cin kp19)).append (.cons dR .nil)
    · intro d hd
      rcases List.mem_append.mp hd with hd | hd
      · exact hds d hd
      · simp only [List.mem_singleton] at hd
        subst hd
        exact ⟨fine, mv⟩
  -- the origin
  refine q_n (t_if (t_test (t_op ?_)))
  refine draw_t (c := c) (n := 3) rfl hb_c dk (by omega) ⟨by decide, by decide⟩ fun j H1 j0 j1 dk1 kp1 => ?_
  refine ⟨j, 0, rfl, rfl, _, rfl, ?_⟩
  by_cases hj : 0 < j
  · rw [decide_eq_true hj]
    refine iteT ⟨.int (i : Int), rfl, Or.inl ⟨_, rfl, .int z, rfl, _, z, rfl, rfl, by show 0 < z; omega, ?_⟩⟩
    exact rest _ H1 (Int.emod_nonneg _ (by omega)) (Int.emod_lt_of_pos _ (by omega)) (dk1.mono (by omega)) kp1
  · rw [decide_eq_false hj]
    refine iteF (draw_t (c := c) rfl (hb_v rfl) dk1 (by omega) ⟨by omega, by omega⟩ fun o H2 o0 o1 dk2 kp2 => ?_)
    exact rest o H2 o0 o1 dk2 (kp1.trans kp2)
end Bk

namespace Bk
open PySem L2 Evl Hg
abbrev N_book : List Str := ["_law_deck_here", "_law_most_moves", "_law_size", "_law_kinds", "_law_halls", "_law_k", "_law_w", "_law_origin", "_law_some", "_law_hall", "_law_more", "_law_open_at", "_law_row", "_law_words", "_law_word"]
/-- the drawn book's parts stand in a dict at w -/
structure WAt (K : PySem.W.Frag) (p c w : Addr) (H : Hp) (dr : PyData) (ms : List PyData) (df : PyData) : Prop where
  ex : ∃ vr vm vf x y, hid [p, c] H w = some (.dK (w5 vr vm vf x y)) ∧ Parts K (hid [p, c] H) vr vm vf dr (.tuple ms) df
  fr : Fine 3 dr
  fm : Fine 3 (.tuple ms)
  ff : Fine 3 df
theorem hid_out {S : List Addr} {H : Hp} {a : Addr} (h : a ∈ S) : hid S H a = none := if_pos h
theorem q_par {ta : TA} {i j : Nat} {tz : TS} {D : Ends} {σ : L2.St} {H : Hp} (h : ta σ H fun vs H1 => ∃ v w, vs = [v, w] ∧ tz D ((σ.set i (some v)).set j (some w)) H1) : tSeq (tPar i j ta) tz D σ H := h
theorem q_put {td ty tv : TE} {tz : TS} {D : Ends} {σ : L2.St} {H : Hp} (h : tv σ H fun v H1 => td σ H1 fun x H2 => ty σ H2 fun y H3 => ∃ a H4, x = .ref a ∧ DPut H3 a y v H4 ∧ tz D σ H4) : tSeq (sDPut td ty tv) tz D σ H := h
theorem t_c {v : V} {σ : L2.St} {H : Hp} {Q : VK} (h : Q v H) : tC v σ H Q := h
theorem t_lst {ta : TA} {σ : L2.St} {H : Hp} {Q : VK} (h : ta σ H fun xs H1 => xs.length ≤ sizeLine ∧ ∀ p, H1 p = none → Q (.ref p) (upd H1 p (.lst xs))) : tLst ta σ H Q := h
theorem q_forD {i jj : Nat} {a n : Int} {tb : TE} {tbody tz : TS} {D : Ends} {σ : L2.St} {H : Hp} {p c : Addr} {k : Nat} (hi : σ[i]? = some (some (.ref p))) (hb : ∀ R : VK, R (.int n) H → tb σ H R) (dk : Dk p c k H) (hk : k ≤ 1000000) (h1 : 1 ≤ n ∧ n ≤ 1000) (ha : 0 ≤ a ∧ a ≤ 1000)
    (kk : ∀ j H2, 0 ≤ j → j < n → Dk p c (k + 1) H2 → Kp p c H H2 → ∃ Pv : Nat → L2.St → Hp → Prop, Pv 0 σ H2 ∧
      (∀ (i : Nat) σ' H', (i : Int) < a + j → Pv i σ' H' → tbody { D with nx := Pv (i + 1), ct := Pv (i + 1), bk := tz D } (σ'.set jj (some (.int (i : Int)))) H') ∧ ∀ σ' H', Pv (a + j).toNat σ' H' → tz D σ' H') :
    tSeq (tFor (iRng1 (tCons (tOp (rI0 fun i j => V.int (i + j)) (tC (V.int a)) (tDraw i tb)) tNil)) (gName jj) tbody) tz D σ H := by
  refine draw_t hi hb dk hk h1 fun j H2 j0 j1 dk2 kp2 => ?_
  obtain ⟨Pv, p0, ps, pe⟩ := kk j H2 j0 j1 dk2 kp2
  refine ⟨a, j, rfl, rfl, a + j, rfl, by omega, by omega, for_range (lo := 0) (n := (a + j).toNat) (D := { D with nx := tz D }) Pv p0 (fun i σ' H' hi p => ?_) pe⟩
  have e0 : (0 : Int) + (i : Int) = (i : Int) := Int.zero_add _
  show tbody { D with nx := Pv (i + 1), ct := Pv (i + 1), bk := tz D } (σ'.set jj (some (.int ((0 : Int) + (i : Int))))) H'
  rw [e0]
  exact ps i σ' H' (by omega) p
def w4 (vr vm vf x : V) : List (Key × V) := [(.inr "rooms", vr), (.inr "moves", vm), (.inr "first", vf), (.inr "looks", x)]
theorem put_m {vr vm vf v : V} : putK (w3 vr vm vf) (.inr "moves") v = w3 vr v vf := by
  unfold putK w3
  rw [if_pos (by simp)]
  simp only [List.map_cons, List.map_nil]
  rw [if_neg k_rm, if_neg (Ne.symm k_mf), if_pos trivial]
theorem put_l {vr vm vf v : V} : putK (w3 vr vm vf) (.inr "looks") v = w4 vr vm vf v := by
  unfold putK
  rw [if_neg (by show ¬ ((decide ((Sum.inr ("rooms" : Str) : Key) = Sum.inr ("looks" : Str)) || (decide ((Sum.inr ("moves" : Str) : Key) = Sum.inr ("looks" : Str)) || (decide ((Sum.inr ("first" : Str) : Key) = Sum.inr ("looks" : Str)) || false))) = true); decide +kernel)]
  rfl
theorem put_i {vr vm vf x v : V} : putK (w4 vr vm vf x) (.inr "ills") v = w5 vr vm vf x v := by
  unfold putK
  rw [if_neg (by show ¬ ((decide ((Sum.inr ("rooms" : Str) : Key) = Sum.inr ("ills" : Str)) || (decide ((Sum.inr ("moves" : Str) : Key) = Sum.inr ("ills" : Str)) || (decide ((Sum.inr ("first" : Str) : Key) = Sum.inr ("ills" : Str)) || (decide ((Sum.inr ("looks" : Str) : Key) = Sum.inr ("ills" : Str)) || false)))) = true); decide +kernel)]
  rfl
abbrev tIlls (K : PySem.W.Frag) : TE := tLc (iList K (tVar 13)) (gName 14) (tTest (tOp (rI0 fun i j => V.bl (decide (j < i))) (tDraw 0 (tC (V.int 4))) (tC (V.int 0)))) (tVar 14) (List.map (fun x => x.snd) [(("_law_word" : Str), 14)])
theorem go_ills {K : PySem.W.Frag} {p c : Addr} {k : Nat} {H : Hp} {Q : VK} {v2 v3 v4 v5 v6 v7 v8 v10 v11 v12 : Option V} {l : Addr} {xs : List V} (hl : xs.length = 3) (dk : Dk p c k H) (hk : k ≤ 999990) (hh : H l = some (.lst xs)) (hne : l ≠ p ∧ l ≠ c)
    (kk : ∀ D acc H2, H D = none → H2 D = some (.lst acc) → Dk p c (k + 3) H2 → Kp p c H H2 → Q (.ref D) H2) : tIlls K (σb p v2 v3 v4 v5 v6 v7 v8 v10 v11 v12 (some (.ref l))) H Q := by
  refine ⟨.ref l, rfl, l, rfl, ⟨_, SqL.of hh⟩, fun D hD => ?_⟩
  refine lc_list (K := K) (a := l) (xs := xs) (Iv p c k 1 H D fun _ _ => True) (Iv.start dk hD trivial) (fun i H' _ iv => SqL.of (iv.kp _ _ hh hne.1 hne.2)) ?_ ?_
  · intro i x H' hi iv
    have il : i < 3 := by rw [← hl]; exact (List.getElem?_eq_some_iff.mp hi).1
    refine ⟨rfl, t_test (t_op ?_)⟩
    refine draw_t (c := c) (n := 4) rfl hb_c iv.dk (by omega) ⟨by decide, by decide⟩ fun j H2 j0 j1 dk2 kp2 => ⟨j, 0, rfl, rfl, _, rfl, ?_⟩
    by_cases hj : 0 < j
    · rw [decide_eq_true hj]
      exact iteT ⟨x, rfl, iv.yes dk (by omega) dk2 (by omega) kp2 fun _ _ => trivial⟩
    · rw [decide_eq_false hj]
      exact iteF (iv.no dk dk2 (by omega) kp2 fun _ _ => trivial)
  · intro H2 iv
    obtain ⟨⟨acc, h1, h2, _⟩, dk2, kp2, nw⟩ := iv
    rw [hl] at dk2
    exact kk D acc H2 nw h1 (dk2.mono (by omega)) kp2
def spBook (K : PySem.W.Frag) : Sp := fun vs H Q _ => ∃ (p c : Addr) (k : Nat), vs = [.ref p, .int 8] ∧ Dk p c k H ∧ k ≤ 700000 ∧
  ∀ w dr ms df H2, WAt K p c w H2 dr ms df → Dk p c (k + 200) H2 → Kp p c H H2 → Q (.ref w) H2
section
variable {P : Program} {w : World} {K : PySem.W.Frag} {mg : Str → Option Value} {base : Heap} {H : Hp} {σ : L2.St}
theorem sc_book : FnScope N_book ["_law_deck_here", "_law_most_moves"] (defScope s_book) := ⟨rfl, rfl, rfl, by decide +kernel, rfl, by decide +kernel, by decide +kernel⟩
theorem ok_book {f : Addr} {fd : FuncData} (F : Fun K "_law_book" "_law_book" s_book f fd) (T : Tx K mg) (GD : Df P w K mg base 1 "_law_draw" spDraw) (GP : Df P w K mg base 2 "_law_pick" (spPick K)) : FnOk P w K mg base CX0 3 f fd ["_law_deck_here", "_law_most_moves"] (spBook K) := by
  refine F.ok sc_book (fun vs H Q E h => by obtain ⟨p, c, k, rfl, _⟩ := h; rfl) (fun cdv A outer s H vs Q E hr h => ?_)
  obtain ⟨p, c, k, rfl, dk, hk, kk⟩ := h
  have hu := hu_of hr
  refine ⟨_, (pss_cons (ps_par (by rfl) sc_book.nd (i := 2) (j := 3) rfl rfl (by decide) rfl rfl (pa_cons (pe_op op_add pe_int (pe_callTy call_int1 (by rfl) T.b_int (by decide +kernel) (pa_cons (pe_cmpR op_eq (pe_draw GD hr (by decide) rfl (pa_cons (pv 0) (pa_cons pe_int pa_nil))) pe_int (nomark _)) pa_nil))) (pa_cons (pe_pick GP hr (by decide) rfl (pa_cons (pv 0) (pa_cons (pe_lst (pa_as taKinds (pa_cons (pe_lst (pa_cons pe_str (pa_cons pe_str pa_nil))) (pa_cons (pe_lst (pa_cons pe_str (pa_cons pe_str (pa_cons pe_str pa_nil)))) (pa_cons (pe_lst (pa_cons pe_str (pa_cons pe_str (pa_cons pe_str (pa_cons pe_str pa_nil))))) pa_nil))))) pa_nil))) pa_nil)) (by rfl))
  (pss_cons (ps_set (i := 4) sc_book.nd rfl (Or.inr rfl) (pe_op op_cat (pe_lst (pa_cons (pe_pick GP hr (by decide) rfl (pa_cons (pv 0) (pa_cons (pe_lst (pa_as taHall0 (pa_cons (pe_un un_neg pe_int) (pa_cons (pe_un un_neg pe_int) (pa_cons pe_int pa_nil))))) pa_nil))) pa_nil)) (pe_lc (own := [("_law_k", 5)]) rfl sc_book.nd (pi_range1 rfl T.b_range (pa_cons (pe_op op_sub (pv 2) pe_int) pa_nil)) (blkOk_by (own := [("_law_k", 5)]) (N := N_book) (sc := defScope s_book) (by decide +kernel)) (fun _ _ _ _ _ => (pg_name (i := 5) sc_book.nd rfl (Or.inl rfl))) (fun _ _ _ _ _ => pts_nil) (fun _ _ _ _ _ => (pe_pick GP hr (by decide) rfl (pa_cons (pv 0) (pa_cons (pe_lst (pa_as taHall1 (pa_cons pe_int (pa_cons pe_int (pa_cons pe_int (pa_cons (pe_un un_neg pe_int) pa_nil)))))) pa_nil)))))))
  (pss_cons (ps_set (i := 6) sc_book.nd rfl (Or.inl rfl) (pe_disp (pps_cons pe_str (pe_callTy call_tuple_of (by rfl) T.b_tuple (by decide +kernel) (pa_cons (pv 4) pa_nil)) (pps_cons pe_str (pe_lst pa_nil) (pps_cons pe_str (pe_pick GP hr (by decide) rfl (pa_cons (pv 0) (pa_cons (pe_lst (pa_as taFirst (pa_cons (pe_tup (pa_cons pe_int pa_nil)) (pa_cons (pe_tup (pa_cons pe_int pa_nil)) (pa_cons (pe_tup (pa_cons pe_int pa_nil)) (pa_cons (pe_tup (pa_cons pe_int (pa_cons pe_int pa_nil))) pa_nil)))))) pa_nil))) pps_nil))) (by rfl) (by rfl) (fun z => by cases z) (by decide)))
  (pss_cons (ps_for PassesOwn.never rfl (pi_range1 rfl T.b_range (pa_cons (pe_op op_add pe_int (pe_draw GD hr (by decide) rfl (pa_cons (pv 0) (pa_cons (pe_op op_sub (pv 1) pe_int) pa_nil)))) pa_nil)) (pg_name (i := 5) sc_book.nd rfl (Or.inl rfl)) (pss_cons (ps_set (i := 7) sc_book.nd rfl (Or.inr rfl) (pe_ifExp (pt_cmpR op_gt (pe_draw GD hr (by decide) rfl (pa_cons (pv 0) (pa_cons pe_int pa_nil))) pe_int (nomark _)) (pe_op op_mod (pe_callTy call_int1 (by rfl) T.b_int (by decide +kernel) (pa_cons (pv 5) pa_nil)) (pv 2)) (pe_draw GD hr (by decide) rfl (pa_cons (pv 0) (pa_cons (pv 2) pa_nil)))))
  (pss_cons (ps_setLc (i := 8) (own := [("_law_hall", 9)]) rfl sc_book.nd rfl rfl (sw_true rfl rfl rfl (by decide +kernel)) (pi_tup (pe_tup (pa_cons pe_int (pa_cons pe_int pa_nil)))) (blkOk_by (own := [("_law_hall", 9)]) (N := N_book) (sc := defScope s_book) (by decide +kernel)) (fun _ _ _ _ _ => (pg_name (i := 9) sc_book.nd rfl (Or.inl rfl))) (fun _ _ _ _ _ => (pts_one (PW.pt (pw_and (pt_cmpR op_ne (pv 9) (pe_ix (ix_listK K) (pv 4) (pv 7) (fun _ _ => rfl)) (nomark _)) (pw_and1 (pt_cmpR op_eq (pe_draw GD hr (by decide) rfl (pa_cons (pv 0) (pa_cons pe_int pa_nil))) pe_int (nomark _))))))) (fun _ _ _ _ _ => (pv 9)))
  (pss_cons (ps_setLc (i := 10) (own := [("_law_hall", 9)]) rfl sc_book.nd rfl rfl (sw_true rfl rfl rfl (by decide +kernel)) (pi_tup (pe_tup (pa_cons pe_int (pa_cons pe_int pa_nil)))) (blkOk_by (own := [("_law_hall", 9)]) (N := N_book) (sc := defScope s_book) (by decide +kernel)) (fun _ _ _ _ _ => (pg_name (i := 9) sc_book.nd rfl (Or.inl rfl))) (fun _ _ _ _ _ => (pts_one (PW.pt (pw_and (pt_cmpR op_ne (pv 9) (pe_ix (ix_listK K) (pv 4) (pv 7) (fun _ _ => rfl)) (nomark _)) (pw_and1 (pt_cmpR op_eq (pe_draw GD hr (by decide) rfl (pa_cons (pv 0) (pa_cons pe_int pa_nil))) pe_int (nomark _))))))) (fun _ _ _ _ _ => (pv 9)))
  (pss_cons (ps_set (i := 11) sc_book.nd rfl (Or.inl rfl) (pe_pick GP hr (by decide) rfl (pa_cons (pv 0) (pa_cons (pe_lst (pa_as taOpen (pa_cons (pe_tup (pa_cons pe_int (pa_cons pe_int (pa_cons pe_int pa_nil)))) (pa_cons (pe_tup (pa_cons pe_int (pa_cons pe_int (pa_cons pe_int pa_nil)))) (pa_cons (pe_tup (pa_cons pe_int (pa_cons pe_int pa_nil))) (pa_cons (pe_tup (pa_cons pe_int pa_nil)) (pa_cons (pe_tup (pa_cons pe_int (pa_cons pe_int pa_nil))) pa_nil))))))) pa_nil))))
  (pss_cons (ps_set (i := 12) sc_book.nd rfl (Or.inl rfl) (pe_tup (pa_cons (pv 7) (pa_cons (pe_draw GD hr (by decide) rfl (pa_cons (pv 0) (pa_cons (pv 2) pa_nil))) (pa_cons (pe_pick GP hr (by decide) rfl (pa_cons (pv 0) (pa_cons (pv 3) pa_nil))) (pa_cons (pv 11) (pa_cons (pe_callTy call_tuple_of (by rfl) T.b_tuple (by decide +kernel) (pa_cons (pv 8) pa_nil)) (pa_cons (pe_callTy call_tuple_of (by rfl) T.b_tuple (by decide +kernel) (pa_cons (pv 10) pa_nil)) pa_nil))))))))
  (pss_one (ps_expr (pe_bm PySem.F.plainAttrs_list PySem.F.slot_list_append PySem.F.type_list_append mt_append (pe_dget hu (pv 6) pe_str (fun _ _ => rfl)) (pa_cons (pv 12) pa_nil))))))))))
  (pss_cons (ps_dput hu (pv 6) pe_str (pe_callTy call_tuple_of (by rfl) T.b_tuple (by decide +kernel) (pa_cons (pe_dget hu (pv 6) pe_str (fun _ _ => rfl)) pa_nil)) rfl)
  (pss_cons (ps_dput hu (pv 6) pe_str (pe_pick GP hr (by decide) rfl (pa_cons (pv 0) (pa_cons (pe_lst (pa_as taLooks (pa_cons (pe_tup (pa_cons (pe_tup (pa_cons pe_bl (pa_cons pe_bl pa_nil))) (pa_cons (pe_tup (pa_cons pe_bl (pa_cons pe_bl pa_nil))) pa_nil))) (pa_cons (pe_tup (pa_cons (pe_tup (pa_cons pe_bl (pa_cons pe_bl pa_nil))) (pa_cons (pe_tup (pa_cons pe_bl (pa_cons pe_bl pa_nil))) (pa_cons (pe_tup (pa_cons pe_bl (pa_cons pe_bl pa_nil))) pa_nil)))) (pa_cons (pe_tup (pa_cons (pe_tup (pa_cons pe_bl (pa_cons pe_bl pa_nil))) (pa_cons (pe_tup (pa_cons pe_bl (pa_cons pe_bl pa_nil))) pa_nil))) (pa_cons (pe_tup (pa_cons (pe_tup (pa_cons pe_bl (pa_cons pe_bl pa_nil))) (pa_cons (pe_tup (pa_cons pe_bl (pa_cons pe_bl pa_nil))) pa_nil))) (pa_cons (pe_tup (pa_cons (pe_tup (pa_cons pe_bl (pa_cons pe_bl pa_nil))) pa_nil)) pa_nil))))))) pa_nil))) rfl)
  (pss_cons (ps_set (i := 13) sc_book.nd rfl (Or.inl rfl) (pe_lst (pa_cons pe_str (pa_cons pe_str (pa_cons pe_str pa_nil)))))
  (pss_cons (ps_dput hu (pv 6) pe_str (pe_callTy call_tuple_of (by rfl) T.b_tuple (by decide +kernel) (pa_cons (pe_lc (own := [("_law_word", 14)]) rfl sc_book.nd (pi_list (pv 13)) (blkOk_by (own := [("_law_word", 14)]) (N := N_book) (sc := defScope s_book) (by decide +kernel)) (fun _ _ _ _ _ => (pg_name (i := 14) sc_book.nd rfl (Or.inl rfl))) (fun _ _ _ _ _ => (pts_one (pt_cmpR op_gt (pe_draw GD hr (by decide) rfl (pa_cons (pv 0) (pa_cons pe_int pa_nil))) pe_int (nomark _)))) (fun _ _ _ _ _ => (pv 14))) pa_nil)) rfl)
  (pss_one (ps_ret (pv 6))))))))))), ?_⟩
  have pin : p ∈ [p, c, (0 : Nat), 0] := by simp
  clear pin
  show tSeq _ _ _ (σb p none none none none none none none none none none none) H
  -- size, kinds
  refine q_par (t_cons (t_op (t_c (t_cb (t_cons (t_op ?_))))))
  refine draw_t (c := c) (n := 3) rfl hb_c dk (by omega) ⟨by decide, by decide⟩ fun j H1 j0 j1 dk1 kp1 => ⟨rfl, Or.inr ⟨_, rfl, 2, _, rfl, rfl, t_cons ?_⟩⟩
  obtain ⟨z, hz, hz2⟩ : ∃ z : Int, 2 + (if decide (V.int j = V.int 0) = true then (1 : Int) else 0) = z ∧ (z = 2 ∨ z = 3) := by
    refine ⟨_, rfl, ?_⟩
    split
    · exact Or.inr rfl
    · exact Or.inl rfl
  dsimp only
  rw [hz]
  refine pick_t (S := [p, c]) (c := c) rfl eha_kinds dk1 dk1.full (by simp) (by simp) (by omega) (by decide) fun dK vK H2 hdK hvK dk2 kp2 => ⟨_, _, rfl, ?_⟩
  obtain ⟨ss, rfl, ss1, ss2, ss3⟩ := kindB_of (kinds_ok dK hdK)
  obtain ⟨kd, rfl⟩ : ∃ kd, vK = .ref kd := by
    cases hvK with
    | lst _ _ => exact ⟨_, rfl⟩
  have kp02 := kp1.trans kp2
  show tSeq _ _ _ (σb p (some (.int z)) (some (.ref kd)) none none none none none none none none none) H2
  -- halls
  refine q_n (t_op (t_lst (t_cons ?_)))
  refine pick_t (S := [p, c]) (c := c) rfl eha_hall0 dk2 dk2.full (by simp) (by simp) (by omega) (by decide) fun d0 v0 H3 hd0 hv0 dk3 kp3 => ⟨by show 1 ≤ sizeLine; decide, fun L hL => ?_⟩
  obtain ⟨n0, rfl, n01, n02⟩ := hallB_of (hall0_ok d0 hd0)
  cases hv0
  have e4 : Ex H3 (upd H3 L (.lst [.int n0])) := Ex.new hL
  have hL4 : (upd H3 L (.lst [.int n0])) L = some (.lst [.int n0]) := upd_same
  obtain ⟨nL1, nL2⟩ := dk3.out hL
  generalize upd H3 L (.lst [.int n0]) = H4 at e4 hL4
  refine go_halls (by omega) (dk3.up e4) (by omega) fun G hs H5 hG hG5 hsl hsb dk5 kp5 => ?_
  refine ⟨L, G, _, _, rfl, rfl, kp5 _ _ hL4 nL1 nL2, hG5, small1000 (by simp; omega) |> Nat.le_of_lt, fun A hA => ?_⟩
  have e6 : Ex H5 (upd H5 A (.lst ([.int n0] ++ hs.map V.int))) := Ex.new hA
  have hA6 : (upd H5 A (.lst ([.int n0] ++ hs.map V.int))) A = some (.lst ((n0 :: hs).map V.int)) := upd_same
  obtain ⟨nA1, nA2⟩ := dk5.out hA
  generalize upd H5 A (.lst ([.int n0] ++ hs.map V.int)) = H6 at e6 hA6
  have hrs : ∀ n ∈ n0 :: hs, -1 ≤ n ∧ n ≤ 1 := by
    intro n hn
    rcases List.mem_cons.mp hn with rfl | hn
    · exact ⟨n01, n02⟩
    · exact hsb n hn
  have hrl : ((n0 :: hs).length : Int) = z := by
    rw [List.length_cons]
    omega
  generalize hrse : n0 :: hs = rs at hA6 hrs hrl
  have dk6 := dk5.up e6
  have kp26 : Kp p c H2 H6 := ((kp3.trans (Kp.of e4)).trans kp5).trans (Kp.of e6)
  have kd6 : Dd K (hid [p, c] H6) (.ref kd) (.list ss) := hvK.ex (hid_kp (by simp) (by simp) kp26)
  show tSeq _ _ _ (σb p (some (.int z)) (some (.ref kd)) (some (.ref A)) none none none none none none none none) H6
  -- the dict
  refine q_n fun w hw => ?_
  obtain ⟨nw1, nw2⟩ := dk6.out hw
  have e7 : Ex H6 (upd H6 w (.dK [])) := Ex.new hw
  have hw7 : (upd H6 w (.dK [])) w = some (.dK []) := upd_same
  have kd7 : Dd K (hid (w :: [p, c]) (upd H6 w (.dK []))) (.ref kd) (.list ss) := kd6.ex (hid_new hw)
  have Aw : A ≠ w := ne_of_none hA6 hw
  generalize upd H6 w (.dK []) = H7 at e7 hw7 kd7
  refine ⟨.ref A, rfl, A, _, rfl, Or.inl ⟨SqL.of (e7 _ _ hA6), fun T1 hT1 => ?_⟩⟩
  have e8 : Ex H7 (upd H7 T1 (.tup (rs.map V.int))) := Ex.new hT1
  have hT8 : (upd H7 T1 (.tup (rs.map V.int))) T1 = some (.tup (rs.map V.int)) := upd_same
  have kd8 := kd7.ex (hid_ex e8)
  generalize upd H7 T1 (.tup (rs.map V.int)) = H8 at e8 hT8 kd8
  refine ⟨by show 0 ≤ sizeLine; decide, fun ml hml => ?_⟩
  have e9 : Ex H8 (upd H8 ml (.lst [])) := Ex.new hml
  have hm9 : (upd H8 ml (.lst [])) ml = some (.lst []) := upd_same
  have kd9 : Dd K (hid (ml :: w :: [p, c]) (upd H8 ml (.lst []))) (.ref kd) (.list ss) := kd8.ex (hid_new hml)
  have dk8 := (dk6.up e7).up e8
  obtain ⟨nm1, nm2⟩ := dk8.out hml
  have Am : A ≠ ml := ne_of_none (e8 _ _ (e7 _ _ hA6)) hml
  have mw : ml ≠ w := (ne_of_none (e8 _ _ hw7) hml).symm
  have Tm : T1 ≠ ml := ne_of_none hT8 hml
  have Tw : T1 ≠ w := (ne_of_none hw7 hT1).symm
  obtain ⟨nT1, nT2⟩ := (dk6.up e7).out hT1
  generalize upd H8 ml (.lst []) = H9 at e9 hm9 kd9
  have dk9 := dk8.up e9
  have e69 : Ex H6 H9 := (e7.trans e8).trans e9
  have pin : p ∈ [p, c, ml, w] := by simp
  have cin : c ∈ [p, c, ml, w] := by simp
  have full9 : Full [p, c, ml, w] H9 := by
    intro a ha
    have q := dk9.full
    simp only [List.mem_cons, List.not_mem_nil, or_false] at ha
    rcases ha with rfl | rfl | rfl | rfl
    · exact q _ (by simp)
    · exact q _ (by simp)
    · rw [hm9]
      exact fun z => nomatch z
    · rw [(e8.trans e9) _ _ hw7]
      exact fun z => nomatch z
  have sub : ∀ a ∈ [p, c, ml, w], a ∈ ml :: w :: [p, c] := by
    intro a ha
    simp only [List.mem_cons, List.not_mem_nil, or_false] at ha ⊢
    rcases ha with h | h | h | h <;> simp [h]
  have kd9' : Dd K (hid [p, c, ml, w] H9) (.ref kd) (.list ss) := kd9.ex (hid_less sub)
  refine pick_t (S := [p, c, ml, w]) (c := c) rfl eha_first dk9 full9 pin cin (by omega) (by decide) fun df vf H10 hdf hvf dk10 kp10 => ?_
  refine ⟨kp10 _ _ ((e8.trans e9) _ _ hw7) nw1 nw2, w3 (.ref T1) (.ref ml) vf, rfl, (by show 3 ≤ 15; decide), ?_⟩
  have win : w ∈ [p, c, ml, w] := by simp
  have hw11 : (upd H10 w (.dK (mergeK [] (w3 (.ref T1) (.ref ml) vf)))) w = some (.dK (w3 (.ref T1) (.ref ml) vf)) := by
    rw [upd_same]
    rfl
  have hid11 : hid [p, c, ml, w] (upd H10 w (.dK (mergeK [] (w3 (.ref T1) (.ref ml) vf)))) = hid [p, c, ml, w] H10 := hid_mut win
  have dk11 : Dk p c (k + 104) (upd H10 w (.dK (mergeK [] (w3 (.ref T1) (.ref ml) vf)))) := (dk10.mono (by omega)).upd nw1 nw2
  have kp0w : Kp p c H H6 := kp02.trans kp26
  have Hw0 : H w = none := kp0w.back hw nw1 nw2
  have Hml0 : H ml = none := (kp0w.trans (Kp.of (e7.trans e8))).back hml nm1 nm2
  have kp11 : Kp p c H (upd H10 w (.dK (mergeK [] (w3 (.ref T1) (.ref ml) vf)))) := ((kp0w.trans (Kp.of e69)).trans kp10).mut Hw0
  have hA11 : (upd H10 w (.dK (mergeK [] (w3 (.ref T1) (.ref ml) vf)))) A = some (.lst (rs.map V.int)) := by
    rw [upd_ne Aw]
    exact kp10 _ _ (e69 _ _ hA6) nA1 nA2
  have hm11 : (upd H10 w (.dK (mergeK [] (w3 (.ref T1) (.ref ml) vf)))) ml = some (.lst []) := by
    rw [upd_ne mw]
    exact kp10 _ _ hm9 nm1 nm2
  have hT11 : (upd H10 w (.dK (mergeK [] (w3 (.ref T1) (.ref ml) vf)))) T1 = some (.tup (rs.map V.int)) := by
    rw [upd_ne Tw]
    exact kp10 _ _ (e9 _ _ hT8) nT1 nT2
  generalize upd H10 w (.dK (mergeK [] (w3 (.ref T1) (.ref ml) vf))) = H11 at hw11 hid11 dk11 kp11 hA11 hm11 hT11
  have kd11 : Dd K (hid [p, c, ml, w] H11) (.ref kd) (.list ss) := by
    rw [hid11]
    exact kd9'.ex (hid_kp pin cin kp10)
  have vf11 : Dd K (hid [p, c, ml, w] H11) vf df := by
    rw [hid11]
    exact hvf
  show tSeq _ _ _ (σb p (some (.int z)) (some (.ref kd)) (some (.ref A)) none (some (.ref w)) none none none none none none) H11
  -- the moves
  refine q_forD (a := 2) (n := 7) (c := c) rfl (fun R h => ⟨_, rfl, 8, 1, rfl, rfl, h⟩) dk11 (by omega) ⟨by decide, by decide⟩ ⟨by decide, by decide⟩ fun j H12 j0 j1 dk12 kp12 => ?_
  have lp0 : Lp K p c (k + 105) (hid [ml, w] H12) z kd A w ml rs ss (.ref T1) vf 0 H12 := by
    refine ⟨dk12.mono (by omega), Kp.of hid_le, kp12 _ _ hA11 nA1 nA2, kd11.ex (hid_kp pin cin kp12), kp12 _ _ hw11 nw1 nw2, [], [], kp12 _ _ hm11 nm1 nm2, .nil, (fun _ h => nomatch h), rfl⟩
  refine ⟨fun i σ' H' => (∃ v5 v7 v8 v10 v11 v12, σ' = σb p (some (.int z)) (some (.ref kd)) (some (.ref A)) v5 (some (.ref w)) v7 v8 v10 v11 v12 none) ∧ Lp K p c (k + 105) (hid [ml, w] H12) z kd A w ml rs ss (.ref T1) vf i H', ⟨⟨none, none, none, none, none, none, rfl⟩, lp0⟩, ?_, ?_⟩
  · rintro i σ' H' hi ⟨⟨v5, v7, v8, v10, v11, v12, rfl⟩, lp⟩
    exact go_body hrl (by omega) (by omega) (by omega) ⟨nA1, nA2, Am, Aw⟩ ⟨nw1, nw2⟩ ⟨nm1, nm2, mw⟩ ⟨hid_out (by simp), hid_out (by simp)⟩ ⟨ss1, ss2, ss3⟩ lp fun v7 v8 v10 v11 v12 H' lp' => ⟨⟨_, _, _, _, _, _, rfl⟩, lp'⟩
  rintro σ' H' ⟨⟨v5, v7, v8, v10, v11, v12, rfl⟩, ⟨dk13, kp13, hA13, kd13, hw13, rows, ds, hm13, hrows, hds, hrl2⟩⟩
  have kpH : Kp p c H (hid [ml, w] H12) := fun b o hb h1 h2 => hid_of ((kp11.trans kp12) b o hb h1 h2) (by
    intro z
    simp only [List.mem_cons, List.not_mem_nil, or_false] at z
    rcases z with rfl | rfl
    · rw [Hml0] at hb
      cases hb
    · rw [Hw0] at hb
      cases hb)
  have kp0 : Kp p c H H' := kpH.trans kp13
  have ex13 : Ex (hid [p, c, ml, w] H12) (hid [p, c, ml, w] H') := fun b o hb => by
    obtain ⟨h1, h2⟩ := of_hid hb
    simp only [List.mem_cons, List.not_mem_nil, or_false, not_or] at h2
    refine hid_of (kp13 b o (hid_of h1 (by simp [h2.2.2.1, h2.2.2.2])) h2.1 h2.2.1) (by simp [h2.1, h2.2.1, h2.2.2.1, h2.2.2.2])
  have dr13 : Dd K (hid [p, c, ml, w] H') (.ref T1) (.tuple (rs.map PyData.int)) :=
    Dd.ex ex13 (Dd.ex (hid_kp pin cin kp12) (.tup (st_of (hid_of hT11 (by simp [nT1, nT2, Tm, Tw]))) (dd_intsAll rs)))
  have vf13 : Dd K (hid [p, c, ml, w] H') vf df := (vf11.ex (hid_kp pin cin kp12)).ex ex13
  have full13 : Full [p, c, ml, w] H' := by
    intro a ha
    have q := dk13.full
    simp only [List.mem_cons, List.not_mem_nil, or_false] at ha
    rcases ha with rfl | rfl | rfl | rfl
    · exact q _ (by simp)
    · exact q _ (by simp)
    · rw [hm13]
      exact fun z => nomatch z
    · rw [hw13]
      exact fun z => nomatch z
  have jb : (2 + j).toNat ≤ 8 := by omega
  have hdl : rows.length = ds.length := hrows.length
  -- the moves, a tuple
  have g13 := DGet.k (k := .inr "moves") hw13
  rw [w3_m] at g13
  refine q_put ⟨.ref w, rfl, w, .ref ml, rfl, g13, ml, rows, rfl, Or.inl ⟨SqL.of hm13, fun TM hTM => ?_⟩⟩
  have e14 : Ex H' (upd H' TM (.tup rows)) := Ex.new hTM
  have oTM := full13.out hTM
  have dm14 : Dd K (hid [p, c, ml, w] (upd H' TM (.tup rows))) (.ref TM) (.tuple ds) := .tup (st_of (hid_of upd_same oTM)) (hrows.ex (hid_ex e14))
  generalize upd H' TM (.tup rows) = H14 at e14 dm14
  have dr14 := dr13.ex (hid_ex e14)
  have vf14 := vf13.ex (hid_ex e14)
  have hw14 := e14 _ _ hw13
  have kp14 := kp0.trans (Kp.of e14)
  have dk14 := dk13.up e14
  have full14 := full13.ex e14
  clear hm13 hrows kp13 kp0 ex13 dr13 vf13 full13 hA13 kd13 hw13 g13
  refine ⟨.ref w, rfl, w, _, rfl, DPut.k (k := .inr "moves") hw14 (by show 3 < sizeLine; decide), ?_⟩
  rw [put_m]
  have hw15 : (upd H14 w (.dK (w3 (.ref T1) (.ref TM) vf))) w = some (.dK (w3 (.ref T1) (.ref TM) vf)) := upd_same
  have hid15 : hid [p, c, ml, w] (upd H14 w (.dK (w3 (.ref T1) (.ref TM) vf))) = hid [p, c, ml, w] H14 := hid_mut win
  have kp15 := kp14.mut (o := .dK (w3 (.ref T1) (.ref TM) vf)) Hw0
  have dk15 := dk14.upd (o := .dK (w3 (.ref T1) (.ref TM) vf)) nw1 nw2
  have full15 := full14.upd (a := w) (o := .dK (w3 (.ref T1) (.ref TM) vf))
  generalize upd H14 w (.dK (w3 (.ref T1) (.ref TM) vf)) = H15 at hw15 hid15 kp15 dk15 full15
  rw [← hid15] at dr14 vf14 dm14
  -- looks
  refine q_put ?_
  refine pick_t (S := [p, c, ml, w]) (c := c) rfl eha_looks dk15 full15 pin cin (by omega) (by decide) fun dx vx H16 _ _ dk16 kp16 => ?_
  have ex16 : Ex (hid [p, c, ml, w] H15) (hid [p, c, ml, w] H16) := hid_kp pin cin kp16
  have hw16 := kp16 _ _ hw15 nw1 nw2
  have full16 := full15.kp dk16 kp16
  refine ⟨.ref w, rfl, w, _, rfl, DPut.k (k := .inr "looks") hw16 (by show 3 < sizeLine; decide), ?_⟩
  rw [put_l]
  have hw17 : (upd H16 w (.dK (w4 (.ref T1) (.ref TM) vf vx))) w = some (.dK (w4 (.ref T1) (.ref TM) vf vx)) := upd_same
  have hid17 : hid [p, c, ml, w] (upd H16 w (.dK (w4 (.ref T1) (.ref TM) vf vx))) = hid [p, c, ml, w] H16 := hid_mut win
  have kp17 := (kp15.trans kp16).mut (o := .dK (w4 (.ref T1) (.ref TM) vf vx)) Hw0
  have dk17 := dk16.upd (o := .dK (w4 (.ref T1) (.ref TM) vf vx)) nw1 nw2
  have full17 := full16.upd (a := w) (o := .dK (w4 (.ref T1) (.ref TM) vf vx))
  generalize upd H16 w (.dK (w4 (.ref T1) (.ref TM) vf vx)) = H17 at hw17 hid17 kp17 dk17 full17
  rw [← hid17] at ex16
  -- words
  refine q_n ⟨by show 3 ≤ sizeLine; decide, fun l hl => ?_⟩
  have e18 : Ex H17 (upd H17 l (.lst [.str "bell", .str "open", .str "shut"])) := Ex.new hl
  have hl18 : (upd H17 l (.lst [.str "bell", .str "open", .str "shut"])) l = some (.lst [.str "bell", .str "open", .str "shut"]) := upd_same
  obtain ⟨nl1, nl2⟩ := dk17.out hl
  generalize upd H17 l (.lst [.str "bell", .str "open", .str "shut"]) = H18 at e18 hl18
  -- ills
  refine q_put (t_cb (t_cons ?_))
  refine go_ills (l := l) rfl (dk17.up e18) (by omega) hl18 ⟨nl1, nl2⟩ fun DI acc H19 hDI h19 dk19 kp19 => ?_
  refine ⟨DI, acc, rfl, Or.inl ⟨SqL.of h19, fun TI hTI => ?_⟩⟩
  have e20 : Ex H19 (upd H19 TI (.tup acc)) := Ex.new hTI
  generalize upd H19 TI (.tup acc) = H20 at e20
  have hw20 := e20 _ _ (kp19 _ _ (e18 _ _ hw17) nw1 nw2)
  refine ⟨.ref w, rfl, w, _, rfl, DPut.k (k := .inr "ills") hw20 (by show 4 < sizeLine; decide), ?_⟩
  rw [put_i]
  have hw21 : (upd H20 w (.dK (w5 (.ref T1) (.ref TM) vf vx (.ref TI)))) w = some (.dK (w5 (.ref T1) (.ref TM) vf vx (.ref TI))) := upd_same
  have hid21 : hid [p, c, ml, w] (upd H20 w (.dK (w5 (.ref T1) (.ref TM) vf vx (.ref TI)))) = hid [p, c, ml, w] H20 := hid_mut win
  have kp21 := (((kp17.trans (Kp.of e18)).trans kp19).trans (Kp.of e20)).mut (o := .dK (w5 (.ref T1) (.ref TM) vf vx (.ref TI))) Hw0
  have dk21 := (dk19.up e20).upd (o := .dK (w5 (.ref T1) (.ref TM) vf vx (.ref TI))) nw1 nw2
  generalize upd H20 w (.dK (w5 (.ref T1) (.ref TM) vf vx (.ref TI))) = H21 at hw21 hid21 kp21 dk21
  have exF : Ex (hid [p, c, ml, w] H15) (hid [p, c] H21) := by
    refine Ex.trans ?_ (hid_less (S' := [p, c, ml, w]) (by simp))
    rw [hid21]
    exact ((ex16.trans (hid_ex e18)).trans (hid_kp pin cin kp19)).trans (hid_ex e20)
  have fr : Fine 3 (.tuple (rs.map PyData.int)) := fine_ints (by omega) fun m hm => by have := hrs m hm; omega
  have fm : Fine 3 (.tuple ds) := fineTup (by have := (dm14.ex exF); rw [← hdl]; omega) fun d hd => (hds d hd).1
  have fo := first_ok df hdf
  obtain ⟨fo1, fo23⟩ := Bool.and_eq_true_iff.mp fo
  obtain ⟨fo2, fo3⟩ := Bool.and_eq_true_iff.mp fo23
  have ff : Fine 3 df := tupB_fine fo3
  refine ⟨.ref w, rfl, kk w _ ds df H21 ⟨⟨_, _, _, _, _, hid_of hw21 (by simp [nw1, nw2]), dr14.ex exF, dm14.ex exF, vf14.ex exF, fr.small, fm.small, ff.small, ?_⟩, fr, fm, ff⟩ (dk21.mono (by omega)) kp21⟩
  have i1 : intsOf (.tuple (rs.map PyData.int)) = rs := ints_back rs
  show (areRooms (.tuple (rs.map PyData.int)) && (allMoves (intsOf (.tuple (rs.map PyData.int))) (.tuple ds) && areStand (intsOf (.tuple (rs.map PyData.int))).length df)) = true
  rw [i1]
  have a1 : areRooms (.tuple (rs.map PyData.int)) = true := by
    show ((rs.map PyData.int).all (betw (-1) 9) && decide (0 < ((rs.map PyData.int).length : Int))) = true
    rw [all_betw fun m hm => by have := hrs m hm; omega, List.length_map, decide_eq_true (by omega)]
    rfl
  have a2 : allMoves rs (.tuple ds) = true := List.all_eq_true.mpr fun d hd => (hds d hd).2
  have a3 : areStand (rs.length : Int) df = true := by
    rw [hrl]
    rcases hz2 with rfl | rfl
    · exact fo1
    · exact fo2
  rw [a1, a2, a3]
  rfl
end
end Bk

/-! Without some, then without others: without all of them. -/
namespace Bk
open PySem L2 Evl Hg
/-- the items but those at the numbers ns, the first item has number i -/
def rem : Int → List Int → List PyData → List PyData
  | _, _, [] => []
  | _, [], ms => ms
  | i, n :: ns, m :: ms => if n = i then rem (i + 1) ns ms else m :: rem (i + 1) (n :: ns) ms
theorem rem_nil (i : Int) : ∀ ms, rem i [] ms = ms
  | [] => rfl
  | _ :: _ => rfl
theorem rem_none (i : Int) : ∀ ns, rem i ns [] = []
  | [] => rfl
  | _ :: _ => rfl
theorem rem_shift (j : Int) : ∀ (ms : List PyData) (i : Int) (ns : List Int), rem (i - j) (ns.map (· - j)) ms = rem i ns ms
  | [], i, ns => by rw [rem_none, rem_none]
  | m :: ms, i, [] => by rw [List.map_nil, rem_nil, rem_nil]
  | m :: ms, i, n :: ns => by
    show (if n - j = i - j then rem (i - j + 1) (ns.map (· - j)) ms else m :: rem (i - j + 1) ((n :: ns).map (· - j)) ms) = if n = i then rem (i + 1) ns ms else m :: rem (i + 1) (n :: ns) ms
    have e : i - j + 1 = (i + 1) - j := by omega
    rw [e, rem_shift j ms (i + 1) ns, rem_shift j ms (i + 1) (n :: ns)]
    by_cases h : n = i
    · rw [if_pos h, if_pos (by omega)]
    · rw [if_neg h, if_neg (by omega)]
theorem asc_tail {a : Int} {ns : List Int} (h : asc (a :: ns) = true) : asc ns = true ∧ ∀ n ∈ ns, a < n := by
  induction ns generalizing a with
  | nil => exact ⟨rfl, fun _ h => nomatch h⟩
  | cons b r ih =>
    obtain ⟨h1, h2⟩ := Bool.and_eq_true_iff.mp (show (decide (a < b) && asc (b :: r)) = true from h)
    have h1 := of_decide_eq_true h1
    refine ⟨h2, fun n hn => ?_⟩
    rcases List.mem_cons.mp hn with rfl | hn
    · exact h1
    · exact Int.lt_trans h1 ((ih h2).2 n hn)
theorem asc_far {b : Int} {B : List Int} : ∀ {A : List Int} {x : Int}, asc (A ++ b :: B) = true → (∀ n ∈ A ++ b :: B, x ≤ n) → x + A.length ≤ b
  | [], x, _, h => by
    have := h b (by simp)
    simpa using this
  | a :: A, x, ha, h => by
    obtain ⟨h1, h2⟩ := asc_tail (show asc (a :: (A ++ b :: B)) = true from ha)
    have h0 := h a (by simp)
    have := asc_far (A := A) (x := x + 1) h1 fun n hn => by
      have := h2 n hn
      omega
    rw [List.length_cons]
    omega
theorem rem_two : ∀ (ms : List PyData) (i j : Int) (A B : List Int), asc (A ++ B) = true → (∀ n ∈ A ++ B, i ≤ n) →
    rem (i - j) (B.map (· - (j + A.length))) (rem i A ms) = rem i (A ++ B) ms
  | [], i, j, A, B, _, _ => by rw [rem_none, rem_none, rem_none]
  | m :: ms, i, j, [], B, _, _ => by
    rw [rem_nil]
    have := rem_shift j (m :: ms) i B
    simpa using this
  | m :: ms, i, j, a :: A, B, h, hi => by
    obtain ⟨h1, h2⟩ := asc_tail (show asc (a :: (A ++ B)) = true from h)
    show rem (i - j) (B.map (· - (j + (a :: A).length))) (if a = i then rem (i + 1) A ms else m :: rem (i + 1) (a :: A) ms) = if a = i then rem (i + 1) (A ++ B) ms else m :: rem (i + 1) (a :: (A ++ B)) ms
    by_cases e : a = i
    · rw [if_pos e, if_pos e]
      have := rem_two ms (i + 1) (j + 1) A B h1 fun n hn => by
        have := h2 n hn
        omega
      rw [show i + 1 - (j + 1) = i - j by omega] at this
      rw [← this]
      have e2 : (j + 1 + (A.length : Int)) = j + ((a :: A).length : Int) := by rw [List.length_cons]; omega
      rw [e2]
    · rw [if_neg e, if_neg e]
      have up : ∀ n ∈ a :: A ++ B, i + 1 ≤ n := by
        intro n hn
        have h0 := hi a (by simp)
        rcases List.mem_cons.mp (show n ∈ a :: (A ++ B) from hn) with rfl | hn'
        · omega
        · have := h2 n hn'
          omega
      have ih := rem_two ms (i + 1) j (a :: A) B h up
      cases B with
      | nil =>
        rw [List.map_nil, rem_nil] at ih ⊢
        rw [ih]
        rfl
      | cons b B =>
        have far := asc_far (A := a :: A) h up
        show (if b - (j + ((a :: A).length : Int)) = i - j then _ else _) = _
        rw [if_neg (by omega)]
        rw [show i + 1 - j = i - j + 1 by omega] at ih
        rw [← List.map_cons (f := (· - (j + ((a :: A).length : Int)))), ih]
        rfl
theorem rem_kept : ∀ (ms : List PyData) (i : Int) (ns : List Int), asc ns = true → (∀ n ∈ ns, i ≤ n) →
    ((List.range ms.length).filter fun k : Nat => !ns.contains (i + (k : Int))).map (fun k => ms.getD k .none) = rem i ns ms
  | [], i, ns, _, _ => by rw [rem_none]; rfl
  | m :: ms, i, ns, h, hi => by
    have shift : ∀ ns' : List Int, ((List.range ms.length).map Nat.succ).filter (fun k : Nat => !ns'.contains (i + (k : Int))) = (((List.range ms.length).filter fun k : Nat => !ns'.contains (i + 1 + (k : Int))).map Nat.succ) := by
      intro ns'
      rw [List.filter_map]
      refine congrArg (List.map Nat.succ) (List.filter_congr fun k _ => ?_)
      show (!ns'.contains (i + ((k + 1 : Nat) : Int))) = _
      rw [show i + ((k + 1 : Nat) : Int) = i + 1 + (k : Int) by omega]
    have tl : ∀ l : List Nat, (l.map Nat.succ).map (fun k => (m :: ms).getD k .none) = l.map fun k => ms.getD k .none := by
      intro l
      rw [List.map_map]
      rfl
    rw [List.length_cons, List.range_succ_eq_map]
    cases ns with
    | nil =>
      rw [rem_nil]
      have := rem_kept ms (i + 1) [] rfl fun _ h => nomatch h
      rw [rem_nil] at this
      rw [List.filter_cons_of_pos (by simp), List.map_cons, shift, tl, this]
      rfl
    | cons n ns =>
      obtain ⟨h1, h2⟩ := asc_tail h
      have h0 := hi n List.mem_cons_self
      show _ = if n = i then rem (i + 1) ns ms else m :: rem (i + 1) (n :: ns) ms
      by_cases e : n = i
      · subst e
        rw [if_pos rfl, List.filter_cons_of_neg (by simp), shift, tl]
        have ih := rem_kept ms (n + 1) ns h1 fun q hq => by
          have := h2 q hq
          omega
        rw [← ih]
        refine congrArg _ (List.filter_congr fun k _ => ?_)
        rw [List.contains_cons]
        have : (n + 1 + (k : Int) == n) = false := by
          rw [beq_eq_false_iff_ne]
          omega
        rw [this, Bool.false_or]
      · rw [if_neg e]
        have nin : (n :: ns).contains (i + ((0 : Nat) : Int)) = false := by
          cases q : (n :: ns).contains (i + ((0 : Nat) : Int)) with
          | false => rfl
          | true =>
            rw [List.contains_iff_mem] at q
            rcases List.mem_cons.mp q with z | z
            · omega
            · have := h2 _ z
              omega
        rw [List.filter_cons_of_pos (by rw [nin]; rfl), List.map_cons, shift, tl]
        have ih := rem_kept ms (i + 1) (n :: ns) h fun q hq => by
          rcases List.mem_cons.mp hq with rfl | hq
          · omega
          · have := h2 q hq
            omega
        rw [ih]
        rfl
theorem kept_rem {ns : List Int} {ms : List PyData} (h : asc ns = true) (hi : ∀ n ∈ ns, 0 ≤ n) : kept ns ms = rem 0 ns ms := by
  rw [← rem_kept ms 0 ns h hi]
  unfold kept keepL
  refine congrArg _ (List.filter_congr fun k _ => ?_)
  rw [Int.zero_add]
theorem asc_take : ∀ {ns : List Int} (k : Nat), asc ns = true → asc (ns.take k) = true
  | [], k, _ => by rw [List.take_nil]; rfl
  | [a], 0, _ => rfl
  | [a], k + 1, _ => by rw [List.take_succ_cons, List.take_nil]; rfl
  | a :: b :: r, 0, _ => rfl
  | a :: b :: r, 1, _ => rfl
  | a :: b :: r, k + 2, h => by
    obtain ⟨h1, h2⟩ := Bool.and_eq_true_iff.mp (show (decide (a < b) && asc (b :: r)) = true from h)
    have := asc_take (k + 1) h2
    show (decide (a < b) && asc ((b :: r).take (k + 1))) = true
    rw [h1, this]
    rfl
theorem asc_drop : ∀ {ns : List Int} (k : Nat), asc ns = true → asc (ns.drop k) = true
  | ns, 0, h => h
  | [], k + 1, _ => rfl
  | a :: r, k + 1, h => asc_drop k (asc_tail h).1
theorem asc_map (j : Int) : ∀ {ns : List Int}, asc ns = true → asc (ns.map (· - j)) = true
  | [], _ => rfl
  | [_], _ => rfl
  | a :: b :: r, h => by
    obtain ⟨h1, h2⟩ := Bool.and_eq_true_iff.mp (show (decide (a < b) && asc (b :: r)) = true from h)
    have h1 := of_decide_eq_true h1
    show (decide (a - j < b - j) && asc ((b :: r).map (· - j))) = true
    rw [asc_map j h2, decide_eq_true (by omega)]
    rfl
/-- barred in two turns -/
theorem kept_two {ns : List Int} {ms : List PyData} (k : Nat) (hk : k ≤ ns.length) (h : asc ns = true) (hi : ∀ n ∈ ns, 0 ≤ n) :
    kept ((ns.drop k).map (· - (k : Int))) (kept (ns.take k) ms) = kept ns ms := by
  have hl : ((ns.take k).length : Int) = k := by rw [List.length_take]; omega
  have e := rem_two ms 0 0 (ns.take k) (ns.drop k) (by rw [List.take_append_drop]; exact h) (by rw [List.take_append_drop]; exact hi)
  rw [List.take_append_drop, hl] at e
  rw [kept_rem h hi, kept_rem (asc_take k h) fun n hn => hi n (List.mem_of_mem_take hn)]
  rw [kept_rem (asc_map _ (asc_drop k h)) ?_]
  · rw [← e]
    simp
  · intro n hn
    obtain ⟨q, hq, rfl⟩ := List.mem_map.mp hn
    -- the numbers from the k-th on are k at least
    obtain ⟨i, hlt, hi2⟩ := List.getElem_of_mem hq
    have hs : ns.take k ++ ns.drop k = ns := List.take_append_drop k ns
    cases hd : ns.drop k with
    | nil => rw [hd] at hq; cases hq
    | cons b B =>
      have hB : asc (ns.take k ++ b :: B) = true := by rw [← hd, hs]; exact h
      have far := asc_far (A := ns.take k) (x := 0) hB (by rw [← hd, hs]; exact hi)
      rw [hl] at far
      have hdr := asc_drop k h
      rw [hd] at hdr hq
      rcases List.mem_cons.mp hq with rfl | hq
      · omega
      · have := (asc_tail hdr).2 q hq
        omega
end Bk

/-! t[::-1], t a tuple. -/
namespace Hv
open PySem PySem.Spec PyProof.Rows HT
section
variable {prog : Program} {w : World} {A : Around} {E : Value → Shared → Prop} {s : Shared}
theorem app_rev {sl : Addr} {u0 u1 u2 : Value} {n : Nat} {R : Int × Int × Nat → Shared → Prop} (h0 : s.heap.IsSliceOf sl u0 u1 u2) (q0 : IsPart u0 none) (q1 : IsPart u1 none) (q2 : IsPart u2 (some (-1)))
    (h : R ((n : Int) - 1, -1, n) s) : wpAny (model prog w) A (Builtin.Slice.sliceApplied (.ref sl) (pure (n : Int))) R E s := by
  obtain ⟨o3, g1, g2, g3⟩ := id h0
  unfold Builtin.Slice.sliceApplied
  unfold Builtin.Slice.sliceFields
  refine wpAny_bind (wpAny_bind (wpAny_field g1 g3 (x := u0) rfl (wpAny_bind (wpAny_field g1 g3 (x := u1) rfl (wpAny_bind (wpAny_field g1 g3 (x := u2) rfl (wpAny_pure ?_)))))))
  refine wpAny_bind (HT.slicePart_ q2 ?_)
  show wpAny _ _ (if ((-1 : Int) == 0) = true then _ else _) _ _ s
  rw [if_neg (show ¬ (((-1 : Int) == 0) = true) by decide)]
  refine wpAny_bind (HT.slicePart_ q0 (wpAny_bind (HT.slicePart_ q1 (wpAny_bind (wpAny_pure (wpAny_pure ?_))))))
  have e : Builtin.Slice.slicePlaces ((n : Int) - 1) (-1) (-1) = n := by
    unfold Builtin.Slice.slicePlaces
    rw [if_neg (show ¬ ((-1 : Int) > 0) by decide)]
    by_cases hn : (n : Int) - 1 > -1
    · rw [if_pos hn, show (- -1 : Int) = 1 by decide, Int.ediv_one]
      omega
    · rw [if_neg hn]
      have : (n : Int) = 0 := by omega
      simp
      omega
  show R ((n : Int) - 1, -1, Builtin.Slice.slicePlaces ((n : Int) - 1) (-1) (-1)) s
  rw [e]
  exact h
theorem pick_rev (xs : Array Value) : ((List.range xs.size).filterMap fun (k : Nat) => xs[(((xs.size : Int) - 1) + (k : Int) * (-1)).toNat]?).toArray = xs.toList.reverse.toArray := by
  have e : (fun (k : Nat) => xs[(((xs.size : Int) - 1) + (k : Int) * (-1)).toNat]?) = (xs[·]?) ∘ fun (k : Nat) => (((xs.size : Int) - 1) + (k : Int) * (-1)).toNat := rfl
  rw [e, ← List.filterMap_map]
  have e2 : (List.range xs.size).map (fun (k : Nat) => (((xs.size : Int) - 1) + (k : Int) * (-1)).toNat) = (List.range xs.size).map fun k => xs.size - 1 - k := by
    refine List.map_congr_left fun k hk => ?_
    have := List.mem_range.mp hk
    omega
  rw [e2, PySem.W.krv_range, List.filterMap_reverse, PySem.W.krv_all]
theorem get_rev {t sl : Addr} {xs : Array Value} {u0 u1 u2 : Value} {R : Value → Shared → Prop} (ht : IsTup s.heap t xs) (h0 : s.heap.IsSliceOf sl u0 u1 u2) (q0 : IsPart u0 none) (q1 : IsPart u1 none) (q2 : IsPart u2 (some (-1)))
    (h : R (.ref s.heap.objs.size) { s with heap := s.heap.push { cls := .type "tuple", data := .seq xs.toList.reverse.toArray } }) (hz : xs.size ≤ sizeLine) : wpAny (model prog w) A (getItem (.ref t) (.ref sl)) R E s := by
  have hk : sizeOk (.seq xs.toList.reverse.toArray) := by
    show xs.toList.reverse.toArray.size ≤ sizeLine
    simpa using hz
  obtain ⟨o3, g1, g2, g3⟩ := id h0
  have hS : s.TypeIs (.ref sl) "slice" := ⟨o3, g1, g2⟩
  unfold getItem
  try with_reducible
    refine wpAny_holding ?_
  first
  | refine wpAny_bind (wpAny_pure ?_)
  | skip
  refine wpAny_bind (wpAny_sequenceKey
    ht.typeIs (by decide) ?_)
  refine wpAny_bind (wpAny_callSpecial?_slot (name := Str.ofString "__getitem__")
    ht.typeIs PyProof.Rows.slot_tuple_getitem (wpAny_call_entry PyProof.Rows.slot_tuple_getitem
      ht.typeIs entry_tuple_getitem ?_ (args_tuple_getitem _ _)))
  show wpAny _ _ (Builtin.Tuple.tupleItemsOf (.ref t) >>= _)
    _ _ s
  refine wpAny_bind (tupleItemsOf_ ht (wpAny_bind (wpAny_typeOf hS ?_)))
  rw [if_pos (by decide)]
  refine wpAny_bind (app_rev h0 q0 q1 q2 ?_)
  have hno : ¬ ((((xs.size : Int) - 1) == 0 && (-1 : Int) == 1 && xs.size == xs.size) = true) := by
    intro q
    rw [Bool.and_eq_true, Bool.and_eq_true] at q
    exact absurd q.1.2 (by decide)
  show wpAny _ _ (if (((xs.size : Int) - 1) == 0 && (-1 : Int) == 1 && xs.size == xs.size) = true then _ else _) _ _ s
  rw [if_neg hno, pick_rev]
  first
    | exact wpAny_bind (m := Builtin.Tuple.tupleExact _) (wpAny_newObj_type
        (wpAny_pure ⟨_, rfl, wpAny_pure h⟩) hk)
    | exact wpAny_bind (m := Builtin.Tuple.tupleExact _) (wpAny_newObj_type
        (wpAny_bind (wpAny_pure (wpAny_pure ⟨_, rfl, wpAny_pure h⟩))) hk)
    | exact wpAny_bind (wpAny_bind (m := Builtin.Tuple.tupleExact _) (wpAny_newObj_type
        (wpAny_pure (wpAny_pure ⟨_, rfl, wpAny_pure h⟩)) hk))
    | exact wpAny_bind (wpAny_bind (m := Builtin.Tuple.tupleExact _) (wpAny_newObj_type
        (wpAny_pure ⟨_, rfl, wpAny_pure h⟩) hk))
end
end Hv
namespace Hg
open PySem L2
open PySem.Spec PyProof.Rows
section
variable {X : Cx}
def tRevT (K : PySem.W.Frag) (te : TE) : TE := fun σ H Q => te σ H fun x H1 => ∃ a xs, x = .ref a ∧ SqT K H1 a xs ∧ ∀ p, H1 p = none → Q (.ref p) (upd H1 p (.tup xs.reverse))
theorem pe_revT {e : Expr} {te : TE} {k : Nat} {p1 p2 p3 pos : Pos} (he : PE X e te) : PE X (.Subscript e (.Slice none none (some (.UnaryOp .USub (.Constant (.int 1) k p1) p2)) p3) pos) (tRevT X.K te) := by
  refine ⟨fun pins s σ H Q I h => ?_⟩
  refine Subscript_ (thn (he.run pins s σ H _ I h) fun v s1 ⟨x, H1, I1, r1, q1⟩ => ?_)
  obtain ⟨a, xs, rfl, hx, q⟩ := q1
  cases r1
  have hst : PO X (some (.UnaryOp .USub (.Constant (.int 1) k p1) p2)) (tPart (tUn (rU fun i => .int (-i)) (tC (.int 1)))) := po_some
    (pe_un un_neg pe_int)
  refine wpAny_Slice (thn (po_none.run pins s1 σ H1 (fun o G => o = none ∧ G = H1) I1 ⟨rfl, rfl⟩) fun ul s2 ⟨l, H2, I2, pl, el, e2⟩ => ?_)
  subst el e2
  refine thn (po_none.run pins s2 σ H2 (fun o G => o = none ∧ G = H2) I2 ⟨rfl, rfl⟩) fun uu s3 ⟨u, H3, I3, pu, eu, e3⟩ => ?_
  subst eu e3
  refine thn (hst.run pins s3 σ H3 (fun o G => o = some (-1) ∧ G = H3) I3 ⟨1, rfl, -1, rfl, rfl, rfl⟩) fun us s4 ⟨o, H4, I4, ps, eo, e4⟩ => ?_
  subst eo e4
  have I5 : Inv X pins σ H4 { s4 with heap := s4.heap.push { cls := .type "slice", data := .fields #[ul, uu, us] } } := I4.kept (t' := s4.toks) fun b ob q => Heap.get?_push_of_some _ q
  obtain ⟨its, r, ht, hz⟩ := I5.tuple hx
  have hlen := r.length
  show wpAny (model X.prog X.w) X.A (subscriptTail e (.Slice none none (some (.UnaryOp .USub (.Constant (.int 1) k p1) p2)) p3) (.ref a) (.ref s4.heap.objs.size)) (EP X pins σ Q) X.xe { s4 with heap := s4.heap.push { cls := .type "slice", data := .fields #[ul, uu, us] } }
  refine tail_any (ops := [.ref a, .ref s4.heap.objs.size]) ht.typeIs (PyProof.Rows.slot_tuple_getitem.lookup) ?_ (by with_unfolding_all rfl)
  refine Hv.get_rev ht (Heap.IsSliceOf.new _ ul uu us) pl pu ps ?_ (by rw [List.size_toArray]; omega)
  refine ⟨.ref _, _, I5.laid (t' := s4.toks) (o := .tup xs.reverse) (fun b ob q => Heap.get?_push_of_some _ q) (Nat.le_refl _) ?_, rfl, q _ (I5.hok.fresh (Nat.le_refl _))⟩
  exact ⟨by rw [List.length_reverse]; exact hz, _, r.reverse, IsTup.new _ _⟩
end
end Hg

namespace Bk
open PySem L2 Evl Hg
section
variable {K : PySem.W.Frag} {C : Addr} {σ : L2.St} {H H' : Hp} {te : TE} {ta : TA} {q q1 q2 nb : Addr} {dr df : PyData} {ms : List PyData} {ns : List Int} {Q : VK} {E : XK}
theorem fine_kept (h : Fine 3 (.tuple ms)) : Fine 3 (.tuple (kept ns ms)) := by
  obtain ⟨h1, h2⟩ := of_fineTup h
  exact fineTup (Nat.le_trans (kept_len ns ms) h1) fun d hd => h2 d (kept_sub hd)
theorem wo_sp (b : BookD K C H q dr ms df) (hn : SqT K H nb (ns.map V.int)) (k : ∀ q' H2, Ex H H2 → BookD K C H2 q' dr (kept ns ms) df → Q (.ref q') H2) : spWo K C [.ref q, .ref nb] H Q E := by
  obtain ⟨⟨vr, vm, vf, hb, pa⟩, f1, f2, f3⟩ := b
  exact ⟨q, nb, ns, vr, vm, vf, dr, df, ms, rfl, hb, pa, hn, fun q' wm H2 e hb2 hm => k q' H2 e ⟨⟨vr, wm, vf, hb2, ⟨pa.r.ex e, hm, pa.f.ex e, pa.sr, small_kept pa.sm, pa.sf, ok_kept pa.ok⟩⟩, f1, fine_kept f2, f3⟩⟩
theorem same_of (b1 : BookD K C H q1 dr ms df) (b2 : BookD K C H q2 dr ms df) : SameBook K C q1 q2 H := by
  obtain ⟨⟨vr, vm, vf, hb, pa⟩, f1, f2, f3⟩ := b1
  obtain ⟨⟨wr, wm, wf, hb', pa'⟩, _, _, _⟩ := b2
  exact ⟨vr, vm, vf, wr, wm, wf, dr, .tuple ms, df, hb, hb', pa.r, pa'.r, pa.m, pa'.m, pa.f, pa'.f, f1.shaped (by decide), f2.shaped (by decide), f3.shaped (by decide)⟩
theorem eq_go (b1 : BookD K C H q1 dr ms df) (b2 : BookD K C H q2 dr ms df) (k : ∀ H', Ex H H' → Q (.bl true) H') : rEqG (DIns C (SameBook K C)) (.ref q1) (.ref q2) H Q := by
  have s := same_of b1 b2
  obtain ⟨⟨vr, vm, vf, ⟨dx, hb⟩, pa⟩, f1, f2, f3⟩ := b1
  obtain ⟨⟨wr, wm, wf, ⟨dy, hb'⟩, pa'⟩, _, _, _⟩ := b2
  exact ⟨⟨q1, q2, dx, dy, _, _, rfl, rfl, hb, hb', s⟩, k⟩
/-- shown(e) -/
theorem ev_shown (he : Ev te σ H (.ref q)) (b : BookD K C H q dr ms df) : Ev (fun σ H Q => tCons te tNil σ H fun vs H1 => spShown K C vs H1 Q E) σ H (.str (bookText dr (.tuple ms) df)) := by
  intro H1 e Q k
  exact he H1 e _ fun H2 e2 => ⟨q, dr, ms, df, rfl, b.ext (e.trans e2), fun H3 e3 => k H3 (e2.trans e3)⟩
/-- repr([..]) -/
theorem ev_repr {xs : List V} {ds : List PyData} (h : EvL te σ H xs) (hd : DdAll K H xs ds) (s : Shows (.list ds)) : Ev (tCB (fun xs H Q => ∃ v d, xs = [v] ∧ Dd K H v d ∧ Shows d ∧ Q (V.str d.shown) H) (tCons te tNil)) σ H (.str (PyData.list ds).shown) := by
  intro H1 e Q k
  exact h H1 e _ fun l H2 hl e2 h2 => ⟨.ref l, _, rfl, .lst (sq_of h2) (hd.ex (e.trans e2)), s, k H2 e2⟩
/-- a tuple, new or not -/
def EvTp (K : PySem.W.Frag) (te : TE) (σ : L2.St) (H : Hp) (xs : List V) : Prop := ∀ H1, Ex H H1 → ∀ Q : VK, (∀ b H2, Ex H1 H2 → SqT K H2 b xs → Q (.ref b) H2) → te σ H1 Q
theorem etp_v {a : Addr} {xs : List V} (h : Ev te σ H (.ref a)) (hx : SqT K H a xs) : EvTp K te σ H xs := fun H1 e Q q => h H1 e _ fun H2 e2 => q a H2 e2 (ex_t (e.trans e2) hx)
theorem etp_disp {xs : List V} (h : EvA ta σ H xs) (hl : xs.length ≤ 100000) : EvTp K (tTup ta) σ H xs := fun H1 e Q q =>
  eu_tup h hl H1 e _ fun p H2 hp e2 h2 => q p H2 e2 (st_of h2)
theorem etp_rev {a : Addr} {xs : List V} (h : Ev te σ H (.ref a)) (hx : SqT K H a xs) : EvTp K (tRevT K te) σ H xs.reverse := fun H1 e Q q =>
  h H1 e _ fun H2 e2 => ⟨a, xs, rfl, ex_t (e.trans e2) hx, fun p hp => q p _ (e2.trans (Ex.new hp)) (st_of upd_same)⟩
theorem etp_cat {tb : TE} {xs ys : List V} (h1 : EvTp K te σ H xs) (h2 : EvTp K tb σ H ys) (hz : xs.length + ys.length ≤ 1000) : EvTp K (tOp (rCatA K) te tb) σ H (xs ++ ys) := fun H1 e Q q =>
  h1 H1 e _ fun a H2 e2 ha => h2 H2 (e.trans e2) _ fun b H3 e3 hb => ⟨a, b, xs, ys, rfl, rfl, ex_t e3 ha, hb, Nat.le_of_lt (small1000 hz),
    fun hx => q b H3 (e2.trans e3) (by rw [hx]; exact hb), fun _ hy => q a H3 (e2.trans e3) (by rw [hy, List.append_nil]; exact ex_t e3 ha), fun _ _ p hp => q p _ ((e2.trans e3).trans (Ex.new hp)) (st_of upd_same)⟩
theorem etp_cut {a : Addr} {xs : List V} {tl th : TO} {lo hi : Option Int} (h : Ev te σ H (.ref a)) (hx : SqT K H a xs) (h1 : EvO tl σ H lo) (h2 : EvO th σ H hi) : EvTp K (tSl (rSlA K) te tl th) σ H (cutV xs lo hi) := fun H1 e Q q =>
  h H1 e _ fun H2 e2 => h1 H2 (e.trans e2) _ fun H3 e3 => h2 H3 ((e.trans e2).trans e3) _ fun H4 e4 => by
    have e24 := (e2.trans e3).trans e4
    refine ⟨a, xs, rfl, ex_t (e.trans e24) hx, fun w => q a H4 e24 ?_, fun _ p hp => q p _ (e24.trans (Ex.new hp)) (st_of upd_same)⟩
    have : cutV xs lo hi = xs := by
      unfold cutV
      rw [w.1, w.2, List.drop_zero, Nat.sub_zero]
      exact List.take_length
    rw [this]
    exact ex_t (e.trans e24) hx
theorem cut_from (xs : List V) {k : Nat} (hk : k ≤ xs.length) : cutV xs (some (k : Int)) none = xs.drop k := by
  unfold cutV
  rw [HT.sIx_nat, HT.sIx_none, Nat.min_eq_left hk]
  exact List.take_of_length_le (by rw [List.length_drop]; exact Nat.le_refl _)
theorem cut_to (xs : List V) {k : Nat} (hk : k ≤ xs.length) : cutV xs none (some (k : Int)) = xs.take k := by
  unfold cutV
  rw [HT.sIx_nat, HT.sIx_none, Nat.min_eq_left hk, List.drop_zero, Nat.sub_zero]
/-- some datum of few parts -/
def EvS (K : PySem.W.Frag) (te : TE) (σ : L2.St) (H : Hp) : Prop := ∀ H1, Ex H H1 → ∀ Q : VK, (∀ v d H2, Ex H1 H2 → Dd K H2 v d → small d = true → Q v H2) → te σ H1 Q
def EvSA (K : PySem.W.Frag) (ta : TA) (σ : L2.St) (H : Hp) (n : Nat) : Prop := ∀ H1, Ex H H1 → ∀ Q : List V → Hp → Prop, (∀ vs ds H2, Ex H1 H2 → DdAll K H2 vs ds → smallAll ds = true → ds.length = n → Q vs H2) → ta σ H1 Q
theorem es_c {v : V} {d : PyData} (h : ∀ H, Dd K H v d) (s : small d = true) : EvS K (tC v) σ H := fun H1 e Q q => q v d H1 (Ex.refl H1) (h H1) s
theorem es_ev {v : V} {d : PyData} (h : Ev te σ H v) (hd : Dd K H v d) (s : small d = true) : EvS K te σ H := fun H1 e Q q => h H1 e _ fun H2 e2 => q v d H2 e2 (hd.ex (e.trans e2)) s
theorem small_ints {ns : List Int} (h : ns.length ≤ 1000) : small (.tuple (ns.map PyData.int)) = true := by
  simp only [small, Bool.and_eq_true, decide_eq_true_eq, List.length_map]
  refine ⟨h, smallAll_of fun d hd => ?_⟩
  obtain ⟨n, _, rfl⟩ := List.mem_map.mp hd
  simp only [small]
theorem small_intsL {ns : List Int} (h : ns.length ≤ 1000) : small (.list (ns.map PyData.int)) = true := by
  simp only [small, Bool.and_eq_true, decide_eq_true_eq, List.length_map]
  refine ⟨h, smallAll_of fun d hd => ?_⟩
  obtain ⟨n, _, rfl⟩ := List.mem_map.mp hd
  simp only [small]
theorem es_ints {xs : List V} {ns : List Int} (h : EvTp K te σ H xs) (e : xs = ns.map V.int) (hl : ns.length ≤ 1000) : EvS K te σ H := fun H1 e1 Q q => h H1 e1 _ fun b H2 e2 hb => q _ _ H2 e2 (.tup (by rw [e] at hb; exact hb) (dd_intsAll ns)) (small_ints hl)
theorem esa_nil : EvSA K tNil σ H 0 := fun H1 e Q q => q [] [] H1 (Ex.refl H1) .nil (by simp only [smallAll]) rfl
theorem esa_cons {n : Nat} (h : EvS K te σ H) (hr : EvSA K ta σ H n) : EvSA K (tCons te ta) σ H (n + 1) := fun H1 e Q q =>
  h H1 e _ fun v d H2 e2 hd s => hr H2 (e.trans e2) _ fun vs ds H3 e3 hds s2 hl => q (v :: vs) (d :: ds) H3 (e2.trans e3) (.cons (hd.ex e3) hds) (by simp only [smallAll, s, s2, Bool.and_self]) (by rw [List.length_cons, hl])
theorem es_tup {n : Nat} (h : EvSA K ta σ H n) (hn : n ≤ 1000) : EvS K (tTup ta) σ H := fun H1 e Q q =>
  h H1 e _ fun vs ds H2 e2 hd s hl => ⟨Nat.le_of_lt (small1000 (by rw [hd.length]; omega)), fun p hp => q _ (.tuple ds) _ (e2.trans (Ex.new hp)) (.tup (st_of upd_same) (hd.ex (Ex.new hp))) (by simp only [small, s, Bool.and_true, decide_eq_true_eq]; omega)⟩
end
end Bk

namespace Bk
open PySem L2 Evl Hg
abbrev s_right : PySem.Stmt := top 52
abbrev N_right : List Str := ["_law_deck_here", "_law_w", "_law_code_here", "_law_kept", "_law_ban", "_law_k", "_law_rest", "_law_row", "_law_due", "_law_told", "_law_at", "_law_later", "_law_odd", "_law_it"]
def spRight (K : PySem.W.Frag) : Sp := fun vs H Q _ => ∃ (p c : Addr) (k : Nat) (a : Addr) (dr : PyData) (ms : List PyData) (df : PyData), vs = [.ref p, .ref a] ∧ Dk p c k H ∧ k ≤ 700000 ∧ WAt K p c a H dr ms df ∧
  ∀ H2, Dk p c (k + 20) H2 → Kp p c H H2 → Q (.bl true) H2
theorem fnG0 {P : Program} {w : World} {K : PySem.W.Frag} {mg : Str → Option Value} {base : Heap} {k : Nat} {f : Addr} {x q : Str} {st : PySem.Stmt} {fd : FuncData} {N ps : List Str} {sp : Sp}
    (F : Fun K x q st f fd) (S : FnScope N ps (defScope st)) (len : ∀ vs H Q E, sp vs H Q E → vs.length = ps.length)
    (hb : ∀ (cdv : Value) (A : Around) (out : List Env) (s : Shared) (H : Hp) (vs : List V) (Q : VK) (E : XK), Quiet A →
      Room k (A.deeper (PyProof.Rows.envOfC q (defScope st) s.heap.objs.size f cdv)) → sp vs H Q E →
      ∃ t, PSs (cxOf CX0 P w K mg base N q (defScope st) f cdv A out s H E).nox (defBody st) t ∧
        t { nx := fun _ H' => Q .non H', rt := Q } (start N vs) H) : FnG P w K mg base CX0 (k + 1) f fd ps sp :=
  fnG F S len fun cdv A out s H vs Q E g hr h => let ⟨t, h1, h2⟩ := hb cdv A out s H vs Q E g hr h; ⟨t, h1.nox, h2⟩
abbrev σr (p a : Addr) (v2 v3 v4 v6 v8 v9 v10 v11 v12 v13 : Option V) : L2.St := [some (.ref p), some (.ref a), v2, v3, v4, none, v6, none, v8, v9, v10, v11, v12, v13]
abbrev rLen (K : PySem.W.Frag) : List V → Hp → VK → Prop := fun xs H Q => ∃ x n, xs = [x] ∧ LenV K x H n ∧ Q (V.int ↑n) H
abbrev tBan (K : PySem.W.Frag) : TE := tLc (iRng1 (tCons (tCB (rLen K) (tCons (tDGet (tVar 1) (tC (V.str "moves"))) tNil)) tNil)) (gName 5) (tTest (tOp rEq (tDraw 0 (tC (V.int 2))) (tC (V.int 0)))) (tVar 5) (List.map (fun x => x.snd) [(("_law_k" : Str), 5)])
theorem go_ban {K : PySem.W.Frag} {p c a : Addr} {k : Nat} {H : Hp} {Q : VK} {vr vm vf x5 y5 : V} {ms : List PyData} {v2 v3 v4 v6 v8 v9 v10 v11 v12 v13 : Option V} (hw : H a = some (.dK (w5 vr vm vf x5 y5))) (hm : Dd K H vm (.tuple ms)) (hl : ms.length ≤ 10) (dk : Dk p c k H) (hk : k ≤ 900000)
    (kk : ∀ D (ns : List Int) H2, H D = none → H2 D = some (.lst (ns.map V.int)) → asc ns = true → (∀ n ∈ ns, 0 ≤ n ∧ n < (ms.length : Int)) → ns.length ≤ 10 → Dk p c (k + 10) H2 → Kp p c H H2 → Q (.ref D) H2) :
    tBan K (σr p a v2 v3 v4 v6 v8 v9 v10 v11 v12 v13) H Q := by
  cases hm with
  | tup ht ha =>
    rename_i am xs
    have hxl := ha.length
    have g := DGet.k (k := .inr "moves") hw
    rw [w5_m] at g
    refine ⟨.ref a, rfl, a, .ref am, rfl, g, _, xs.length, rfl, Or.inr ⟨xs, ht, rfl⟩, xs.length, rfl, by omega, by omega, fun D hD => ?_⟩
    refine lc_range (lo := 0) (n := ((xs.length : Nat) : Int).toNat) (Iv p c k 1 H D (Up fun _ => True)) (Iv.start dk hD Up.nil) ?_ ?_
    · intro i H' hi iv
      rw [Int.toNat_natCast] at hi
      refine ⟨rfl, t_test (t_op ?_)⟩
      refine draw_t (c := c) (n := 2) rfl hb_c iv.dk (by omega) ⟨by decide, by decide⟩ fun j H2 j0 j1 dk2 kp2 => ⟨rfl, _, rfl, ?_⟩
      by_cases hj : j = 0
      · subst hj
        refine iteT ⟨.int (0 + (i : Int)), rfl, ?_⟩
        rw [Int.zero_add]
        exact iv.yes dk (by omega) dk2 (by omega) kp2 fun acc u => u.yes trivial
      · rw [show decide (V.int j = V.int 0) = false by simp [hj]]
        exact iteF (iv.no dk dk2 (by omega) kp2 fun acc u => u.no)
    · intro H2 iv
      rw [Int.toNat_natCast] at iv
      obtain ⟨⟨acc, h1, h2, ns, rfl, h3, h4⟩, dk2, kp2, nw⟩ := iv
      exact kk D ns H2 nw h1 h3 (fun n hn => by have := h4 n hn; omega) (by rw [List.length_map] at h2; omega) (dk2.mono (by omega)) kp2
theorem el_lcTp {K : PySem.W.Frag} {σ : L2.St} {H : Hp} {te tl : TE} {t : TT} {xs : List V} {j : Nat} {vs : List Nat} (f : Nat → Bool) (v : Nat → V) (h : EvTp K tl σ H xs) (hz : xs.length ≤ 40000)
    (hw : ∀ x, wipe ((wipe σ vs).set j (some x)) vs = wipe σ vs)
    (ht : ∀ (i : Nat) (x : V) H1, Ex H H1 → xs[i]? = some x → EvT t ((wipe σ vs).set j (some x)) H1 (f i))
    (he : ∀ (i : Nat) (x : V) H1, Ex H H1 → xs[i]? = some x → f i = true → Ev te ((wipe σ vs).set j (some x)) H1 (v i)) :
    EvL (tLc (iTup K tl) (gName j) t te vs) σ H (given xs.length f v) := by
  intro H0 e Q q
  refine h H0 e _ fun a H1 e1 hx => ⟨a, rfl, ⟨xs, hx⟩, fun Dl hD => ?_⟩
  refine lc_tup (xs := xs) (Cw H1 f v Dl) ⟨hD, Ex.new hD, upd_same⟩ (fun i H' _ p => ex_t p.2.1 hx) ?_ fun H' p => q Dl H' (fresh_back e1 p.1) (e1.trans p.2.1) p.2.2
  intro i x H' hi p
  have hl := (List.getElem?_eq_some_iff.mp hi).1
  exact ⟨hw x, cw_turn p (by omega) (ht i x H1 (e.trans e1) hi) (he i x H1 (e.trans e1) hi)⟩
theorem bools_show (b : Bool) : Shows (.list [.bool b, .bool b]) := by
  refine Nice.shows (n := 1) (by decide) (nice_list (n := 0) (by show 2 ≤ 10; decide) fun d hd => ?_)
  simp only [List.mem_cons, List.not_mem_nil, or_false] at hd
  have e : d = .bool b := by rcases hd with rfl | rfl <;> rfl
  subst e
  exact (show Fine 0 (.bool b) by simp only [Fine]).nice
/-- a new book of these data -/
def EvBk (K : PySem.W.Frag) (C : Addr) (te : TE) (σ : L2.St) (H : Hp) (dr : PyData) (ms : List PyData) (df : PyData) : Prop := ∀ H1, Ex H H1 → ∀ Q : VK, (∀ q H2, Ex H1 H2 → BookD K C H2 q dr ms df → Q (.ref q) H2) → te σ H1 Q
section
variable {K : PySem.W.Frag} {C : Addr} {σ : L2.St} {H : Hp} {te tb A B G : TE} {dr df : PyData} {ms : List PyData} {ns : List Int} {E : XK}
theorem ebk_var {i : Nat} {q : Addr} (h : σ[i]? = some (some (.ref q))) (b : BookD K C H q dr ms df) : EvBk K C (tVar i) σ H dr ms df := fun H1 e Q k => ⟨_, h, k q H1 (Ex.refl H1) (b.ext e)⟩
theorem ebk_wo (h1 : EvBk K C te σ H dr ms df) (h2 : EvTp K tb σ H (ns.map V.int)) : EvBk K C (tCall (spWo K C) [] E (tCons te (tCons tb tNil))) σ H dr (kept ns ms) df := by
  intro H1 e Q k
  refine h1 H1 e _ fun q H2 e2 b => h2 H2 (e.trans e2) _ fun t H3 e3 ht => ?_
  show spWo K C [.ref q, .ref t] H3 Q E
  exact wo_sp (b.ext e3) ht fun q' H4 e4 b4 => k q' H4 ((e2.trans e3).trans e4) b4
theorem ebk_woK (h1 : EvBk K C te σ H dr ms df) (h2 : EvTp K tb σ H (ns.map V.int)) : EvBk K C (tCallK (spWo K C) swp E tNil (tCons tb (tCons te tNil))) σ H dr (kept ns ms) df := by
  intro H1 e Q k
  refine h2 H1 e _ fun t H2 e2 ht => h1 H2 (e.trans e2) _ fun q H3 e3 b => ?_
  show spWo K C [.ref q, .ref t] H3 Q E
  exact wo_sp b (ex_t e3 ht) fun q' H4 e4 b4 => k q' H4 ((e2.trans e3).trans e4) b4
theorem ebk_woM (h1 : EvBk K C te σ H dr ms df) (h2 : EvTp K tb σ H (ns.map V.int)) : EvBk K C (tMeth C "without_moves" (spWo K C) [] E te (tCons tb tNil)) σ H dr (kept ns ms) df := by
  intro H1 e Q k
  refine h1 H1 e _ fun q H2 e2 b => ?_
  obtain ⟨⟨vr, vm, vf, ⟨dx, hq⟩, _⟩, _, _, _⟩ := id b
  refine ⟨q, dx, _, rfl, hq, no_wo _ _ _, h2 H2 (e.trans e2) _ fun t H3 e3 ht => ?_⟩
  show spWo K C [.ref q, .ref t] H3 Q E
  exact wo_sp (b.ext e3) ht fun q' H4 e4 b4 => k q' H4 ((e2.trans e3).trans e4) b4
theorem ebk_make {ta : TA} {vr vm vf : V} (h : EvA ta σ H [vr, vm, vf]) (pa : Parts K H vr vm vf dr (.tuple ms) df) (f1 : Fine 3 dr) (f2 : Fine 3 (.tuple ms)) (f3 : Fine 3 df) : EvBk K C (tMake C (spInit K C) [] E ta) σ H dr ms df := by
  intro H1 e Q k
  refine h H1 e _ fun H2 e2 => ?_
  exact make_go (pa.ex (e.trans e2)) fun b H4 e4 _ hb4 => k b H4 (e2.trans e4) ⟨⟨vr, vm, vf, hb4, pa.ex ((e.trans e2).trans e4)⟩, f1, f2, f3⟩
theorem ev_eqB {te1 te2 : TE} (h1 : EvBk K C te1 σ H dr ms df) (h2 : EvBk K C te2 σ H dr ms df) : Ev (tOp (rEqG (DIns C (SameBook K C))) te1 te2) σ H (.bl true) := by
  intro H1 e Q k
  exact h1 H1 e _ fun q1 H2 e2 b1 => h2 H2 (e.trans e2) _ fun q2 H3 e3 b2 => eq_go (b1.ext e3) b2 fun H4 e4 => k H4 ((e2.trans e3).trans e4)
theorem q_for3 {g : TG} {tu tz : TS} {D : Ends} (hA : EvBk K C A σ H dr ms df) (hB : EvBk K C B σ H dr ms df) (hG : EvBk K C G σ H dr ms df)
    (kk : ∀ t (qs : List V) H1, Ex H H1 → H1 t = some (.tup qs) → (∀ (i : Nat) (x : V), qs[i]? = some x → ∃ b, x = .ref b ∧ BookD K C H1 b dr ms df) → ∃ Pv : Nat → L2.St → Hp → Prop, Pv 0 σ H1 ∧ (∀ i σ' H', i ≤ qs.length → Pv i σ' H' → SqT K H' t qs) ∧
      (∀ (i : Nat) (x : V) σ' H', qs[i]? = some x → Pv i σ' H' → g x σ' H' fun σ2 H2 => tu { D with nx := Pv (i + 1), ct := Pv (i + 1), bk := tz D } σ2 H2) ∧ ∀ σ' H', Pv qs.length σ' H' → tz D σ' H') :
    tSeq (tFor (iTup K (tTup (tCons A (tCons B (tCons G tNil))))) g tu) tz D σ H := by
  refine hA H (Ex.refl H) _ fun q1 H1 e1 b1 => hB H1 e1 _ fun q2 H2 e2 b2 => hG H2 (e1.trans e2) _ fun q3 H3 e3 b3 => ?_
  refine ⟨by show 3 ≤ sizeLine; decide, fun t ht => ⟨t, rfl, ⟨_, st_of upd_same⟩, ?_⟩⟩
  have e4 : Ex H3 (upd H3 t (.tup [.ref q1, .ref q2, .ref q3])) := Ex.new ht
  obtain ⟨Pv, p0, p1, p2, p3⟩ := kk t [.ref q1, .ref q2, .ref q3] _ (((e1.trans e2).trans e3).trans e4) upd_same (by
    intro i x hi
    match i, hi with
    | 0, hi => cases hi; exact ⟨_, rfl, b1.ext ((e2.trans e3).trans e4)⟩
    | 1, hi => cases hi; exact ⟨_, rfl, b2.ext (e3.trans e4)⟩
    | 2, hi => cases hi; exact ⟨_, rfl, b3.ext e4⟩
    | _ + 3, hi => simp at hi)
  exact for_tup (K := K) (a := t) (xs := [.ref q1, .ref q2, .ref q3]) (D := { D with nx := tz D }) Pv p0 p1 p2 p3
end
section
variable {K : PySem.W.Frag} {C : Addr} {σ : L2.St} {H : Hp} {te tb : TE} {ta : TA} {vs : List V} {ds : List PyData} {n i j : Nat} {l : Addr} {D : Ends} {tz tu : TS} {g : TG} {E : XK}
theorem q_oddL (h : EvSA K ta σ H n) (hn : n ≤ 1000) (kk : ∀ l vs ds H1, Ex H H1 → H1 l = some (.lst vs) → DdAll K H1 vs ds → smallAll ds = true → ds.length = n → tz D (σ.set i (some (.ref l))) H1) : tSeq (tAsg (tLst ta) (gName i)) tz D σ H :=
  h H (Ex.refl H) _ fun vs ds H1 e1 hd s hl => ⟨Nat.le_of_lt (small1000 (by rw [hd.length]; omega)), fun p hp => kk p vs ds _ (e1.trans (Ex.new hp)) upd_same (hd.ex (Ex.new hp)) s hl⟩
theorem smallAll_app : ∀ {as bs : List PyData}, smallAll as = true → smallAll bs = true → smallAll (as ++ bs) = true
  | [], _, _, h => h
  | a :: as, bs, h1, h2 => by
    have h1' : (small a && smallAll as) = true := by simpa only [smallAll] using h1
    obtain ⟨q1, q2⟩ := Bool.and_eq_true_iff.mp h1'
    show smallAll (a :: (as ++ bs)) = true
    simp only [smallAll, q1, smallAll_app q2 h2, Bool.and_self]
theorem q_oddC (hj : σ[j]? = some (some (.ref l))) (hl : H l = some (.lst vs)) (hd : DdAll K H vs ds) (s : smallAll ds = true) (hz : ds.length ≤ 100) (h : EvSA K ta σ H n) (hn : n ≤ 100)
    (kk : ∀ l' vs' ds' H1, Ex H H1 → H1 l' = some (.lst vs') → DdAll K H1 vs' ds' → smallAll ds' = true → ds'.length ≤ 200 → tz D (σ.set i (some (.ref l'))) H1) : tSeq (tAsg (tOp rCat (tVar j) (tLst ta)) (gName i)) tz D σ H := by
  refine ⟨.ref l, hj, h H (Ex.refl H) _ fun vs2 ds2 H1 e1 hd2 s2 hl2 => ⟨Nat.le_of_lt (small1000 (by rw [hd2.length]; omega)), fun p hp => ?_⟩⟩
  have e2 : Ex H (upd H1 p (.lst vs2)) := e1.trans (Ex.new hp)
  refine ⟨l, p, vs, vs2, rfl, rfl, e2 _ _ hl, upd_same, Nat.le_of_lt (small1000 (by rw [hd.length, hd2.length]; omega)), fun r hr => ?_⟩
  exact kk r (vs ++ vs2) (ds ++ ds2) _ (e2.trans (Ex.new hr)) upd_same ((hd.ex (e2.trans (Ex.new hr))).append (hd2.ex ((Ex.new hp).trans (Ex.new hr)))) (smallAll_app s s2) (by rw [List.length_append]; omega)
theorem q_forC {b : Addr} {d0 : PyData} (hi : σ[i]? = some (some (.ref b))) (h0 : Dd K H (.ref b) d0) (s0 : small d0 = true) (hj : σ[j]? = some (some (.ref l))) (hl : H l = some (.lst vs)) (hd : DdAll K H vs ds) (s : smallAll ds = true) (hz : ds.length ≤ 200)
    (kk : ∀ L (ws : List V) es H1, Ex H H1 → H1 L = some (.lst ws) → DdAll K H1 ws es → smallAll es = true → ∃ Pv : Nat → L2.St → Hp → Prop, Pv 0 σ H1 ∧ (∀ i σ' H', i ≤ ws.length → Pv i σ' H' → SqL K H' L ws) ∧
      (∀ (i : Nat) (x : V) σ' H', ws[i]? = some x → Pv i σ' H' → g x σ' H' fun σ2 H2 => tu { D with nx := Pv (i + 1), ct := Pv (i + 1), bk := tz D } σ2 H2) ∧ ∀ σ' H', Pv ws.length σ' H' → tz D σ' H') :
    tSeq (tFor (iList K (tOp rCat (tLst (tCons (tVar i) tNil)) (tVar j))) g tu) tz D σ H := by
  refine ⟨.ref b, hi, by show 1 ≤ sizeLine; decide, fun p hp => ⟨.ref l, hj, ?_⟩⟩
  have e1 : Ex H (upd H p (.lst [.ref b])) := Ex.new hp
  refine ⟨p, l, [.ref b], vs, rfl, rfl, upd_same, e1 _ _ hl, Nat.le_of_lt (small1000 (by rw [hd.length, List.length_singleton]; omega)), fun r hr => ⟨r, rfl, ⟨_, SqL.of upd_same⟩, ?_⟩⟩
  have e2 := e1.trans (Ex.new (o := .lst ([.ref b] ++ vs)) hr)
  obtain ⟨Pv, p0, p1, p2, p3⟩ := kk r ([.ref b] ++ vs) (d0 :: ds) _ e2 upd_same (.cons (h0.ex e2) (hd.ex e2)) (by simp only [smallAll, s0, s, Bool.and_self])
  exact for_list (K := K) (a := r) (xs := [.ref b] ++ vs) (D := { D with nx := tz D }) Pv p0 p1 p2 p3
theorem es_listOf {a : Addr} {ns : List Int} (h : Ev te σ H (.ref a)) (hx : SqT K H a (ns.map V.int)) (hl : ns.length ≤ 1000) :
    EvS K (tCB (fun xs H Q => ∃ p ys, xs = [V.ref p] ∧ (SqL K H p ys ∨ SqT K H p ys) ∧ ∀ (l : Addr), H l = none → Q (V.ref l) (upd H l (.lst ys))) (tCons te tNil)) σ H := fun H1 e Q q =>
  h H1 e _ fun H2 e2 => ⟨a, _, rfl, Or.inr (ex_t (e.trans e2) hx), fun p hp => q _ _ _ (e2.trans (Ex.new hp)) (.lst (SqL.of upd_same) (dd_intsAll ns)) (small_intsL hl)⟩
theorem rg_ints (n : Int) : rgV 0 n = (((List.range (n - 0).toNat).map fun i : Nat => (0 : Int) + (i : Int))).map V.int := by
  unfold rgV
  rw [List.map_map]
  rfl
theorem es_rg {z : Int} (h : Ev te σ H (.int z)) (hz : 0 ≤ z ∧ z ≤ 900) : EvS K (tTupRg (tRg1 te)) σ H := fun H1 e Q q =>
  h H1 e _ fun H2 e2 => ⟨z, rfl, RgOk.of_le (Int.le_refl 0) (by omega) (by decide) hz.1, fun p hp => q _ _ _ (e2.trans (Ex.new hp)) (.tup (by rw [rg_ints]; exact st_of upd_same) (dd_intsAll _)) (small_ints (by rw [List.length_map, List.length_range]; omega))⟩
theorem es_dict : EvS K tDNewK σ H := fun H1 e Q q p hp => q _ (.dict []) _ (Ex.new hp) (.dct (kvs := []) (ds := []) (Or.inl upd_same) .nil) (by simp only [small])
theorem ru_neg {z : Int} : RU (rU fun i => .int (-i)) (.int z) H (.int (-z)) := fun H1 e Q q => ⟨z, rfl, q H1 (Ex.refl _)⟩
theorem ev_isbar {q : Addr} {x vr vm vf : V} {ms : List PyData} {d : PyData} (h1 : Ev te σ H (.ref q)) (h2 : Ev tb σ H x) (hb : BookAt C H q vr vm vf) (hm : Dd K H vm (.tuple ms)) (hd : Dd K H x d) (s : small d = true) :
    Ev (tCall (spIsBar K C) [] E (tCons te (tCons tb tNil))) σ H (.bl (areAsc 0 ((ms.length : Int) - 1) d)) := by
  intro H1 e Q k
  refine h1 H1 e _ fun H2 e2 => h2 H2 (e.trans e2) _ fun H3 e3 => ?_
  show spIsBar K C [.ref q, x] H3 Q E
  have e13 := (e.trans e2).trans e3
  exact ⟨q, x, vr, vm, vf, d, ms, rfl, hb.ex e13, hm.ex e13, hd.ex e13, s, fun H4 e4 => k H4 ((e2.trans e3).trans e4)⟩
theorem ev_isbarK {q : Addr} {x vr vm vf : V} {ms : List PyData} {d : PyData} (h1 : Ev te σ H (.ref q)) (h2 : Ev tb σ H x) (hb : BookAt C H q vr vm vf) (hm : Dd K H vm (.tuple ms)) (hd : Dd K H x d) (s : small d = true) :
    Ev (tCallK (spIsBar K C) swp E tNil (tCons tb (tCons te tNil))) σ H (.bl (areAsc 0 ((ms.length : Int) - 1) d)) := by
  intro H1 e Q k
  refine h2 H1 e _ fun H2 e2 => h1 H2 (e.trans e2) _ fun H3 e3 => ?_
  show spIsBar K C [.ref q, x] H3 Q E
  have e13 := (e.trans e2).trans e3
  exact ⟨q, x, vr, vm, vf, d, ms, rfl, hb.ex e13, hm.ex e13, hd.ex e13, s, fun H4 e4 => k H4 ((e2.trans e3).trans e4)⟩
theorem ev_lbar {a : Addr} {x vr vm vf x5 y5 : V} {ms : List PyData} {d : PyData} (h1 : Ev te σ H (.ref a)) (h2 : Ev tb σ H x) (hw : H a = some (.dK (w5 vr vm vf x5 y5))) (hm : Dd K H vm (.tuple ms)) (hd : Dd K H x d) (s : small d = true) :
    Ev (tCall (spLbar K) [] E (tCons te (tCons tb tNil))) σ H (.bl (areAsc 0 ((ms.length : Int) - 1) d)) := by
  intro H1 e Q k
  refine h1 H1 e _ fun H2 e2 => h2 H2 (e.trans e2) _ fun H3 e3 => ?_
  show spLbar K [.ref a, x] H3 Q E
  have e13 := (e.trans e2).trans e3
  exact ⟨a, x, vr, vm, vf, x5, y5, ms, d, rfl, e13 _ _ hw, hm.ex e13, hd.ex e13, s, fun H4 e4 => k H4 ((e2.trans e3).trans e4)⟩
theorem sub_ints (l : List Int) (k : Int) : (List.range (l.map V.int).length).map (fun i => V.int (l.getD i 0 - k)) = (l.map (· - k)).map V.int := by
  refine List.ext_getElem (by simp) fun i h1 h2 => ?_
  simp at h1
  simp [h1]
end
section
variable {P : Program} {w : World} {K : PySem.W.Frag} {mg : Str → Option Value} {base : Heap} {C : Addr}
theorem sc_right : FnScope N_right ["_law_deck_here", "_law_w"] (defScope s_right) := ⟨rfl, rfl, rfl, by decide +kernel, rfl, by decide +kernel, by decide +kernel⟩
theorem ok_right {f fW fN fE : Addr} {fd fdW fdN fdE : FuncData} (F : Fun K "_law_right" "_law_right" s_right f fd) (T : Tb K mg C) (bl : mg "list" = none) (br : mg "repr" = none) (y : Sys base)
    (GC : Df P w K mg base 9 "_law_code" (spCode K C)) (GS : Cal P w K mg base CX0 1 "_law_shown" (spShown K C)) (GD : Df P w K mg base 1 "_law_draw" spDraw)
    (GB : Df P w K mg base 10 "barred_book" (spWo K C)) (GBK : DfK P w K mg base 10 "barred_book" (spWo K C) ["bar", "book"] swp)
    (MW : Meth K C "without_moves" fW) (GW : FnOk P w K mg base CX0 9 fW fdW ["self", "numbers"] (spWo K C)) (bW : Binds K fdW ["self", "numbers"] [])
    (M : Mk K C fN) (GN : FnOk P w K mg base CX0 7 fN fdN ["self", "rooms", "moves", "first"] (spInit K C)) (bN : Binds K fdN ["self", "rooms", "moves", "first"] [])
    (GE : FnOk P w K mg base CX0 1 fE fdE ["self", "other"] (spEq (SameBook K C))) (hEq : PySem.W.findIn K (.ref C) "__eq__" = some (some (.ref fE))) (hFn : PySem.W.isFn K (.ref fE) = true) (bE : Binds K fdE ["self", "other"] [])
    (GL : Df P w K mg base 1 "_law_is_bar" (spLbar K)) (GI : Df P w K mg base 5 "is_bar" (spIsBar K C)) (GIK : DfK P w K mg base 5 "is_bar" (spIsBar K C) ["thing", "book"] swp) :
    FnG P w K mg base CX0 11 f fd ["_law_deck_here", "_law_w"] (spRight K) := by
  refine fnG0 F sc_right (fun vs H Q E h => by obtain ⟨p, c, k, a, dr, ms, df, rfl, _⟩ := h; rfl) (fun cdv A outer s H vs Q E gq hr h => ?_)
  obtain ⟨p, c, k, a, dr, ms, df, rfl, dk, hk, wa, kk⟩ := h
  have hu := hu_of hr
  refine ⟨_, (pss_cons (ps_set (i := 2) sc_right.nd rfl (Or.inl rfl) (pe_d GC hr (by decide) rfl (pa_cons (pv 1) pa_nil)))
  (pss_cons (ps_set (i := 3) sc_right.nd rfl (Or.inl rfl) (pe_g GS gq hr (by decide) rfl pass0 (pa_cons (pv 2) pa_nil)))
  (pss_cons (ps_set (i := 4) sc_right.nd rfl (Or.inr rfl) (pe_callTy call_tuple_of (by rfl) T.b_tuple (by decide +kernel) (pa_cons (pe_lc (own := [("_law_k", 5)]) rfl sc_right.nd (pi_range1 rfl T.b_range (pa_cons (pe_callB call_len (by rfl) T.b_len (by decide +kernel) (pa_cons (pe_dget hu (pv 1) pe_str (fun _ _ => rfl)) pa_nil)) pa_nil)) (blkOk_by (own := [("_law_k", 5)]) (N := N_right) (sc := defScope s_right) (by decide +kernel)) (fun _ _ _ _ _ => (pg_name (i := 5) sc_right.nd rfl (Or.inl rfl))) (fun _ _ _ _ _ => (pts_one (pt_cmpR op_eq (pe_draw GD hr (by decide) rfl (pa_cons (pv 0) (pa_cons pe_int pa_nil))) pe_int (nomark _)))) (fun _ _ _ _ _ => (pv 5))) pa_nil)))
  (pss_cons (ps_set (i := 6) sc_right.nd rfl (Or.inl rfl) (pe_callTy call_tuple_of (by rfl) T.b_tuple (by decide +kernel) (pa_cons (pe_lc (own := [("_law_k", 5), ("_law_row", 7)]) rfl sc_right.nd (pi_enumT rfl T.b_enumerate (pa_cons (pe_dget hu (pv 1) pe_str (fun _ _ => rfl)) pa_nil)) (blkOk_by (own := [("_law_k", 5), ("_law_row", 7)]) (N := N_right) (sc := defScope s_right) (by decide +kernel)) (fun _ _ _ _ _ => (pg_tupK K (n := 2) rfl (pgs_cons (pg_name (i := 5) sc_right.nd rfl (Or.inl rfl)) (pgs_cons (pg_name (i := 7) sc_right.nd rfl (Or.inl rfl)) pgs_nil)))) (fun _ _ _ _ _ => (pts_one (pt_cmpR (op_ninK K) (pv 5) (pv 4) (by rfl)))) (fun _ _ _ _ _ => (pv 7))) pa_nil)))
  (pss_cons (ps_set (i := 8) sc_right.nd rfl (Or.inl rfl) (pe_callB (call_repr gq hr.units y) (by rfl) br (by decide +kernel) (pa_cons (pe_lst (pa_cons (pe_dget hu (pv 1) pe_str (fun _ _ => rfl)) (pa_cons (pv 6) (pa_cons (pe_dget hu (pv 1) pe_str (fun _ _ => rfl)) pa_nil)))) pa_nil)))
  (pss_cons (ps_for PassesOwn.never rfl (pi_tup (pe_tup (pa_cons (pe_d GB hr (by decide) rfl (pa_cons (pv 2) (pa_cons (pv 4) pa_nil))) (pa_cons (pe_dk GBK hr (by decide) rfl (pk_cons (pv 4) (pk_cons (pv 2) pk_nil))) (pa_cons (pe_meth (pv 2) T.ins.cl MW GW (hr.mono (by decide)) bW .nil pass0 (pa_cons (pv 4) pa_nil)) pa_nil))))) (pg_name (i := 9) sc_right.nd rfl (Or.inl rfl)) (pss_one (ps_if (PW.pt (pw_or (pt_not (pt_val (pe_callB call_isi (by rfl) T.b_isinstance (by decide +kernel) (pa_cons (pv 9) (pa_cons (pe_glob (v := .ref C) rfl T.c_Book rfl) pa_nil))))) (pw_or (pt_cmpR op_ne (pe_g GS gq hr (by decide) rfl pass0 (pa_cons (pv 9) pa_nil)) (pv 8) (nomark _)) (pw_or1 (pt_not (pt_cmpR (op_eqG (rcG_ins GE hEq hFn bE pass0) (hr.mono (by decide))) (pv 9) (pe_make M GN (hr.mono (by decide)) rfl T.c_Book bN .nil pass0 (pa_cons (pe_dget hu (pv 1) pe_str (fun _ _ => rfl)) (pa_cons (pv 6) (pa_cons (pe_dget hu (pv 1) pe_str (fun _ _ => rfl)) pa_nil)))) (nomark _))))))) (pss_one (ps_ret pe_bl)) pss_nil)))
  (pss_cons (ps_set (i := 10) sc_right.nd rfl (Or.inr rfl) (pe_draw GD hr (by decide) rfl (pa_cons (pv 0) (pa_cons (pe_op op_add (pe_callB call_len (by rfl) T.b_len (by decide +kernel) (pa_cons (pv 4) pa_nil)) pe_int) pa_nil))))
  (pss_cons (ps_set (i := 11) sc_right.nd rfl (Or.inl rfl) (pe_callTy call_tuple_of (by rfl) T.b_tuple (by decide +kernel) (pa_cons (pe_lc (own := [("_law_k", 5)]) rfl sc_right.nd (pi_tup (pe_slice sl_tupA (pv 4) (po_some (pv 10)) po_none)) (blkOk_by (own := [("_law_k", 5)]) (N := N_right) (sc := defScope s_right) (by decide +kernel)) (fun _ _ _ _ _ => (pg_name (i := 5) sc_right.nd rfl (Or.inl rfl))) (fun _ _ _ _ _ => pts_nil) (fun _ _ _ _ _ => (pe_op op_sub (pv 5) (pv 10)))) pa_nil)))
  (pss_cons (ps_if (pt_not (pt_cmpR (op_eqG (rcG_ins GE hEq hFn bE pass0) (hr.mono (by decide))) (pe_d GB hr (by decide) rfl (pa_cons (pe_d GB hr (by decide) rfl (pa_cons (pv 2) (pa_cons (pe_slice sl_tupA (pv 4) po_none (po_some (pv 10))) pa_nil))) (pa_cons (pv 11) pa_nil))) (pe_d GB hr (by decide) rfl (pa_cons (pv 2) (pa_cons (pv 4) pa_nil))) (nomark _))) (pss_one (ps_ret pe_bl)) pss_nil)
  (pss_cons (ps_set (i := 12) sc_right.nd rfl (Or.inl rfl) (pe_lst (pa_cons pe_non (pa_cons pe_int (pa_cons (pe_tup pa_nil) (pa_cons (pe_callTy call_list_of (by rfl) bl (by decide +kernel) (pa_cons (pv 4) pa_nil)) (pa_cons (pe_revT (pv 4)) (pa_cons (pe_op op_catA (pv 4) (pv 4)) (pa_cons (pe_op op_catA (pv 4) (pe_tup (pa_cons (pe_callB call_len (by rfl) T.b_len (by decide +kernel) (pa_cons (pe_dget hu (pv 1) pe_str (fun _ _ => rfl)) pa_nil)) pa_nil))) (pa_cons (pe_op op_catA (pe_tup (pa_cons (pe_un un_neg pe_int) pa_nil)) (pv 4)) (pa_cons (pe_tup (pa_cons pe_bl pa_nil)) (pa_cons (pe_tup (pa_cons pe_int (pa_cons pe_bl pa_nil))) pa_nil))))))))))))
  (pss_cons (ps_set (i := 12) sc_right.nd rfl (Or.inl rfl) (pe_op op_cat (pv 12) (pe_lst (pa_cons (pe_tup (pa_cons pe_str pa_nil)) (pa_cons (pe_tup (pa_cons pe_int pa_nil)) (pa_cons (pe_tup (pa_cons pe_int (pa_cons pe_int pa_nil))) (pa_cons (pe_tupRg rfl rfl T.b_tuple (prg_1 rfl T.b_range (pe_callB call_len (by rfl) T.b_len (by decide +kernel) (pa_cons (pe_dget hu (pv 1) pe_str (fun _ _ => rfl)) pa_nil)))) (pa_cons pe_dnewK pa_nil))))))))
  (pss_cons (ps_for PassesOwn.never rfl (pi_list (pe_op op_cat (pe_lst (pa_cons (pv 4) pa_nil)) (pv 12))) (pg_name (i := 13) sc_right.nd rfl (Or.inl rfl)) (pss_cons (ps_set (i := 8) sc_right.nd rfl (Or.inl rfl) (pe_d GL hr (by decide) rfl (pa_cons (pv 1) (pa_cons (pv 13) pa_nil))))
  (pss_one (ps_if (pt_cmpR op_ne (pe_callB (call_repr gq hr.units y) (by rfl) br (by decide +kernel) (pa_cons (pe_lst (pa_cons (pe_d GI hr (by decide) rfl (pa_cons (pv 2) (pa_cons (pv 13) pa_nil))) (pa_cons (pe_dk GIK hr (by decide) rfl (pk_cons (pv 13) (pk_cons (pv 2) pk_nil))) pa_nil))) pa_nil)) (pe_callB (call_repr gq hr.units y) (by rfl) br (by decide +kernel) (pa_cons (pe_lst (pa_cons (pv 8) (pa_cons (pv 8) pa_nil))) pa_nil)) (nomark _)) (pss_one (ps_ret pe_bl)) pss_nil))))
  (pss_one (ps_ret (pe_cmpR op_eq (pe_g GS gq hr (by decide) rfl pass0 (pa_cons (pv 2) pa_nil)) (pv 3) (nomark _)))))))))))))))), ?_⟩
  obtain ⟨⟨vr, vm, vf, x5, y5, hwid, paD⟩, f1, f2, f3⟩ := wa
  have hw : H a = some (.dK (w5 vr vm vf x5 y5)) := (of_hid hwid).1
  have ain := (of_hid hwid).2
  have msl := (of_fineTup f2).1
  -- the book
  refine q_n ⟨.ref a, rfl, a, vr, vm, vf, x5, y5, dr, .tuple ms, df, rfl, hw, paD.ex hid_le, fun q H1 e1 hb1 => ?_⟩
  have dk1 := dk.up e1
  have qin : q ∉ [p, c] := by
    obtain ⟨n1, m1, t1, g1, g2, _⟩ := dk1.ex
    obtain ⟨dx, g3⟩ := hb1
    intro z
    simp only [List.mem_cons, List.not_mem_nil, or_false] at z
    rcases z with rfl | rfl
    · rw [g1] at g3
      cases g3
    · rw [g2] at g3
      cases g3
  have bdD : BookD K C (hid [p, c] H1) q dr ms df := by
    obtain ⟨dx, g3⟩ := hb1
    exact ⟨⟨vr, vm, vf, ⟨dx, hid_of g3 qin⟩, paD.ex (hid_ex e1)⟩, f1, f2, f3⟩
  have wD : hid [p, c] H1 a = some (.dK (w5 vr vm vf x5 y5)) := hid_ex e1 _ _ hwid
  have paD1 := paD.ex (hid_ex e1)
  show tSeq _ _ _ (σr p a (some (.ref q)) none none none none none none none none none) H1
  -- shown
  refine q_asg (ev_shown (ev_var rfl) (bdD.ext hid_le)) fun H2 e2 => ?_
  show tSeq _ _ _ (σr p a (some (.ref q)) (some (.str (bookText dr (.tuple ms) df))) none none none none none none none none) H2
  generalize hkt : bookText dr (.tuple ms) df = kt
  have dk2 := dk1.up e2
  have kp02 : Kp p c H H2 := Kp.of (e1.trans e2)
  have wD2 := hid_ex (S := [p, c]) e2 _ _ wD
  have bd2 := bdD.ext (hid_ex e2)
  have pa2 := paD1.ex (hid_ex e2)
  clear wD bdD paD1 hw hb1 e1 e2 dk1 paD hwid
  -- the ban
  refine q_n (t_cb (t_cons ?_))
  refine go_ban (of_hid wD2).1 (pa2.m.ex hid_le) msl dk2 (by omega) fun D ns H3 hD h3 asc3 bnd lns dk3 kp3 => ?_
  refine ⟨D, _, rfl, Or.inl ⟨SqL.of h3, fun TB hTB => ?_⟩⟩
  have e4 : Ex H3 (upd H3 TB (.tup (ns.map V.int))) := Ex.new hTB
  have h4 : (upd H3 TB (.tup (ns.map V.int))) TB = some (.tup (ns.map V.int)) := upd_same
  have oTB := dk3.full.out hTB
  generalize upd H3 TB (.tup (ns.map V.int)) = H4 at e4 h4
  have hx4 : Ex (hid [p, c] H2) (hid [p, c] H4) := (hid_kp (by simp) (by simp) kp3).trans (hid_ex e4)
  have wD4 := hx4 _ _ wD2
  have bd4 := bd2.ext hx4
  have pa4 := pa2.ex hx4
  have dk4 := dk3.up e4
  have kp04 := (kp02.trans kp3).trans (Kp.of e4)
  have tb4 : hid [p, c] H4 TB = some (.tup (ns.map V.int)) := hid_of h4 oTB
  clear wD2 bd2 pa2 hx4 h4 hTB e4 dk3 kp3 h3 hD dk2 kp02
  show tSeq _ _ _ (σr p a (some (.ref q)) (some (.str kt)) (some (.ref TB)) none none none none none none none) H4
  -- the rest
  have hm4 := pa4.m
  cases hm4 with
  | tup ht ha =>
  rename_i am xs
  have hxl := ha.length
  have el := el_lcE (K := K) (σ := σr p a (some (.ref q)) (some (.str kt)) (some (.ref TB)) none none none none none none none) (H := H4) (ta := tCons (tDGet (tVar 1) (tC (V.str "moves"))) tNil) (t := tTest (tOp (rIn K true) (tVar 5) (tVar 4))) (te := tVar 7) (j1 := 5) (j2 := 7) (vs := [5, 7])
    (fun i => !ns.contains (i : Int)) (fun i => xs.getD i .non) (ea_cons (ev_dget (te := tVar 1) (ev_var rfl) (of_hid wD4).1 w5_m) ea_nil) (ex_t hid_le ht) (by omega) (fun _ _ => rfl) (fun i x H5 e hx => by
      have := et_test (ev_op (ev_var (σ := ((wipe (σr p a (some (.ref q)) (some (.str kt)) (some (.ref TB)) none none none none none none none) [5, 7]).set 5 (some (.int (i : Nat)))).set 7 (some x)) (H := H5) (i := 5) rfl) (ev_var (i := 4) rfl) (rv_niT (K := K) (x := .int (i : Nat)) (ex_t e (st_of (of_hid tb4).1)) rfl (flat_ints _)))
      rw [in_ints] at this
      exact this) (fun i x H5 e hx _ => by
      have : xs.getD i .non = x := by rw [List.getD_eq_getElem?_getD, hx]; rfl
      rw [this]
      exact ev_var rfl)
  have eg : given xs.length (fun i => !ns.contains (i : Int)) (fun i => xs.getD i .non) = (keepL ns ms.length).map fun i => xs.getD i .non := by
    unfold given keepL
    rw [hxl]
  rw [eg] at el
  have hpick : DdAll K (hid [p, c] H4) _ (kept ns ms) := ha.pick (keepL ns ms.length) fun i hi => by
    have := List.mem_range.mp (List.mem_filter.mp hi).1
    omega
  refine q_n (t_cb (t_cons ?_))
  refine el H4 (Ex.refl _) _ fun l H5 hl e5 h5 => ⟨l, _, rfl, Or.inl ⟨sq_of h5, fun TR hTR => ?_⟩⟩
  have e6 : Ex H5 (upd H5 TR (.tup ((keepL ns ms.length).map fun i => xs.getD i .non))) := Ex.new hTR
  have h6 : (upd H5 TR (.tup ((keepL ns ms.length).map fun i => xs.getD i .non))) TR = some (.tup ((keepL ns ms.length).map fun i => xs.getD i .non)) := upd_same
  have oTR := (dk4.full.ex e5).out hTR
  generalize upd H5 TR (.tup ((keepL ns ms.length).map fun i => xs.getD i .non)) = H6 at e6 h6
  have e46 := e5.trans e6
  have hx6 := hid_ex (S := [p, c]) e46
  have dTR : Dd K (hid [p, c] H6) (.ref TR) (.tuple (kept ns ms)) := .tup (st_of (hid_of h6 oTR)) (hpick.ex hx6)
  have wD6 := hx6 _ _ wD4
  have bd6 := bd4.ext hx6
  have pa6 := pa4.ex hx6
  have tb6 := hx6 _ _ tb4
  have dk6 := dk4.up e46
  have kp06 := kp04.trans (Kp.of e46)
  have paR : Parts K (hid [p, c] H6) vr (.ref TR) vf dr (.tuple (kept ns ms)) df := ⟨pa6.r, dTR, pa6.f, pa6.sr, small_kept pa6.sm, pa6.sf, ok_kept pa6.ok⟩
  clear el eg hpick h6 e6 h5 hTR e5 hl e46 hx6 wD4 bd4 pa4 tb4 dk4 kp04 oTR ht ha
  show tSeq _ _ _ (σr p a (some (.ref q)) (some (.str kt)) (some (.ref TB)) (some (.ref TR)) none none none none none none) H6
  -- due
  refine q_asg (ev_repr (ds := [dr, .tuple (kept ns ms), df]) (el_lst (ea_cons (ev_dget (te := tVar 1) (ev_var rfl) (of_hid wD6).1 w5_r) (ea_cons (ev_var rfl) (ea_cons (ev_dget (te := tVar 1) (ev_var rfl) (of_hid wD6).1 w5_f) ea_nil))) (by show 3 ≤ 100000; decide))
    (.cons (pa6.r.ex hid_le) (.cons (dTR.ex hid_le) (.cons (pa6.f.ex hid_le) .nil))) (text_shows f1 (fine_kept f2) f3)) fun H7 e7 => ?_
  show tSeq _ _ _ (σr p a (some (.ref q)) (some (.str kt)) (some (.ref TB)) (some (.ref TR)) (some (.str (bookText dr (.tuple (kept ns ms)) df))) none none none none none) H7
  have hx7 := hid_ex (S := [p, c]) e7
  have wD7 := hx7 _ _ wD6
  have bd7 := bd6.ext hx7
  have paR7 := paR.ex hx7
  have pa7 := pa6.ex hx7
  have tb7 := hx7 _ _ tb6
  have dk7 := dk6.up e7
  have kp07 := kp06.trans (Kp.of e7)
  clear hx7 wD6 bd6 pa6 tb6 dk6 kp06 dTR paR e7
  -- the three
  have bq7 := bd7.ext hid_le
  have st7 : SqT K H7 TB (ns.map V.int) := st_of (of_hid tb7).1
  refine q_for3 (ebk_wo (ebk_var rfl bq7) (etp_v (ev_var rfl) st7)) (ebk_woK (ebk_var rfl bq7) (etp_v (ev_var rfl) st7)) (ebk_woM (ebk_var rfl bq7) (etp_v (ev_var rfl) st7)) fun tt qs H11 e711 h11 told => ?_
  refine ⟨fun i σ' H' => Ex H11 H' ∧ ∃ v9, σ' = σr p a (some (.ref q)) (some (.str kt)) (some (.ref TB)) (some (.ref TR)) (some (.str (bookText dr (.tuple (kept ns ms)) df))) v9 none none none none, ⟨Ex.refl _, none, rfl⟩, (fun i σ' H' _ z => st_of (z.1 _ _ h11)), ?_, ?_⟩
  · rintro i x σ' H' hi ⟨eH, v9, rfl⟩
    obtain ⟨b, rfl, hb⟩ := told i x hi
    have hbH := hb.ext eH
    obtain ⟨⟨wr, wm, wf, hbA, _⟩, _, _, _⟩ := hbH
    have e7H := e711.trans eH
    have wH := e7H _ _ (of_hid wD7).1
    have paH := (paR7.ex hid_le).ex e7H
    show tIfS _ _ _ _ (σr p a (some (.ref q)) (some (.str kt)) (some (.ref TB)) (some (.ref TR)) (some (.str (bookText dr (.tuple (kept ns ms)) df))) (some (.ref b)) none none none none) H'
    have eqv : Ev (tOp (rEqG (DIns C (SameBook K C))) (tVar 9) (tMake C (spInit K C) [] E0 (tCons (tDGet (tVar 1) (tC (V.str "rooms"))) (tCons (tVar 6) (tCons (tDGet (tVar 1) (tC (V.str "first"))) tNil)))))
        (σr p a (some (.ref q)) (some (.str kt)) (some (.ref TB)) (some (.ref TR)) (some (.str (bookText dr (.tuple (kept ns ms)) df))) (some (.ref b)) none none none none) H' (.bl true) :=
      ev_eqB (ebk_var rfl (hb.ext eH)) (ebk_make (ea_cons (ev_dget (te := tVar 1) (ev_var rfl) wH w5_r) (ea_cons (ev_var rfl) (ea_cons (ev_dget (te := tVar 1) (ev_var rfl) wH w5_f) ea_nil))) paH f1 (fine_kept f2) f3)
    refine s_when (b := false) (et_is (et_or (a := !true) (b := (!decide (V.str (bookText dr (.tuple (kept ns ms)) df) = V.str (bookText dr (.tuple (kept ns ms)) df)) || !true)) (et_not (et_test (ev_isBook T.ins (ev_var rfl) hbA))) fun _ => et_or (et_test (ev_op (ev_shown (ev_var rfl) (hb.ext eH)) (ev_var rfl) (rv_ne rfl))) fun _ => et_not (et_test eqv)) (by simp)) (fun z => nomatch z) (fun _ H2 e2 => ?_)
    exact ⟨eH.trans e2, _, rfl⟩
  rintro σ' H' ⟨eH, v9, rfl⟩
  have e7' := e711.trans eH
  have hx8 := hid_ex (S := [p, c]) e7'
  have wD8 := hx8 _ _ wD7
  have bd8 := bd7.ext hx8
  have pa8 := pa7.ex hx8
  have tb8 := hx8 _ _ tb7
  have dk8 := dk7.up e7'
  have kp08 := kp07.trans (Kp.of e7')
  clear hx8 wD7 bd7 pa7 tb7 dk7 kp07 e711 told h11 bq7 st7 paR7
  have st8 : SqT K H' TB (ns.map V.int) := st_of (of_hid tb8).1
  have nl : (ns.map V.int).length = ns.length := List.length_map _
  -- at
  refine q_n ?_
  refine draw_t (c := c) (n := ((ns.map V.int).length : Int) + 1) rfl (fun R h => ⟨.ref TB, rfl, .ref TB, _, rfl, Or.inr ⟨_, st8, rfl⟩, _, 1, rfl, rfl, h⟩) dk8 (by omega) ⟨by omega, by omega⟩ fun at' H9 at0 at1 dk9 kp9 => ?_
  obtain ⟨k1, rfl⟩ : ∃ k1 : Nat, at' = (k1 : Int) := ⟨at'.toNat, by omega⟩
  have hk1 : k1 ≤ ns.length := by omega
  have hx9 : Ex (hid [p, c] H') (hid [p, c] H9) := hid_kp (by simp) (by simp) kp9
  have wD9 := hx9 _ _ wD8
  have bd9 := bd8.ext hx9
  have pa9 := pa8.ex hx9
  have tb9 := hx9 _ _ tb8
  have kp09 := kp08.trans kp9
  clear hx9 wD8 bd8 pa8 tb8 dk8 kp08 st8
  have st9 : SqT K H9 TB (ns.map V.int) := st_of (of_hid tb9).1
  have bq9 := bd9.ext hid_le
  have hw9 := (of_hid wD9).1
  have hm9 := pa9.m.ex hid_le
  generalize hdt : bookText dr (.tuple (kept ns ms)) df = dt
  show tSeq _ _ _ (σr p a (some (.ref q)) (some (.str kt)) (some (.ref TB)) (some (.ref TR)) (some (.str dt)) v9 (some (.int (k1 : Int))) none none none) H9
  -- later
  have cutF : cutV (ns.map V.int) (some (k1 : Int)) none = (ns.drop k1).map V.int := by rw [cut_from _ (by omega), List.map_drop]
  have cutT : cutV (ns.map V.int) none (some (k1 : Int)) = (ns.take k1).map V.int := by rw [cut_to _ (by omega), List.map_take]
  have etF : EvTp K (tSl (rSlA K) (tVar 4) (tPart (tVar 10)) tNoPart) (σr p a (some (.ref q)) (some (.str kt)) (some (.ref TB)) (some (.ref TR)) (some (.str dt)) v9 (some (.int (k1 : Int))) none none none) H9 ((ns.drop k1).map V.int) := by
    have := etp_cut (K := K) (σ := σr p a (some (.ref q)) (some (.str kt)) (some (.ref TB)) (some (.ref TR)) (some (.str dt)) v9 (some (.int (k1 : Int))) none none none) (te := tVar 4) (tl := tPart (tVar 10)) (th := tNoPart) (lo := some (k1 : Int)) (hi := none) (ev_var rfl) st9 (eo_some (ev_var rfl)) eo_none
    rw [cutF] at this
    exact this
  have dl : ((ns.drop k1).map V.int).length = (ns.drop k1).length := List.length_map _
  have dl2 : (ns.drop k1).length ≤ 10 := by rw [List.length_drop]; omega
  have el9 := el_lcTp (K := K) (t := tYes) (te := tOp (rI0 fun i j => V.int (i - j)) (tVar 5) (tVar 10)) (j := 5) (vs := [5]) (fun _ => true) (fun i => .int ((ns.drop k1).getD i 0 - (k1 : Int))) etF (by omega) (fun _ => rfl) (fun _ _ _ _ _ => et_yes) (fun i x H1 e hx _ => by
    obtain rfl : x = .int ((ns.drop k1).getD i 0) := by
      rw [List.getElem?_map] at hx
      cases e2 : (ns.drop k1)[i]? with
      | none => rw [e2] at hx; cases hx
      | some z =>
        rw [e2] at hx
        rw [List.getD_eq_getElem?_getD, e2]
        exact (Option.some.inj hx).symm
    exact ev_op (ev_var rfl) (ev_var rfl) rv_I0)
  rw [given_all, sub_ints] at el9
  refine q_n (t_cb (t_cons ?_))
  refine el9 H9 (Ex.refl _) _ fun l H10 hl e10 h10 => ⟨l, _, rfl, Or.inl ⟨sq_of h10, fun TL hTL => ?_⟩⟩
  have e11 : Ex H10 (upd H10 TL (.tup (((ns.drop k1).map (· - (k1 : Int))).map V.int))) := Ex.new hTL
  have h11 : (upd H10 TL (.tup (((ns.drop k1).map (· - (k1 : Int))).map V.int))) TL = some (.tup (((ns.drop k1).map (· - (k1 : Int))).map V.int)) := upd_same
  generalize upd H10 TL (.tup (((ns.drop k1).map (· - (k1 : Int))).map V.int)) = H11' at e11 h11
  have e9 := e10.trans e11
  show tSeq _ _ _ (σr p a (some (.ref q)) (some (.str kt)) (some (.ref TB)) (some (.ref TR)) (some (.str dt)) v9 (some (.int (k1 : Int))) (some (.ref TL)) none none) H11'
  -- barred in two turns
  have st11 := ex_t e9 st9
  have bq11 := bq9.ext e9
  have etT : EvTp K (tSl (rSlA K) (tVar 4) tNoPart (tPart (tVar 10))) (σr p a (some (.ref q)) (some (.str kt)) (some (.ref TB)) (some (.ref TR)) (some (.str dt)) v9 (some (.int (k1 : Int))) (some (.ref TL)) none none) H11' ((ns.take k1).map V.int) := by
    have := etp_cut (K := K) (σ := σr p a (some (.ref q)) (some (.str kt)) (some (.ref TB)) (some (.ref TR)) (some (.str dt)) v9 (some (.int (k1 : Int))) (some (.ref TL)) none none) (te := tVar 4) (tl := tNoPart) (th := tPart (tVar 10)) (lo := none) (hi := some (k1 : Int)) (ev_var rfl) st11 eo_none (eo_some (ev_var rfl))
    rw [cutT] at this
    exact this
  have two := ebk_wo (E := E0) (ebk_wo (E := E0) (ebk_var (σ := σr p a (some (.ref q)) (some (.str kt)) (some (.ref TB)) (some (.ref TR)) (some (.str dt)) v9 (some (.int (k1 : Int))) (some (.ref TL)) none none) (i := 2) rfl bq11) etT) (etp_v (ev_var (i := 11) rfl) (st_of h11))
  rw [kept_two k1 hk1 asc3 fun n hn => (bnd n hn).1] at two
  refine q_when (b := !true) (et_not (et_test (ev_eqB two (ebk_wo (ebk_var rfl bq11) (etp_v (ev_var rfl) st11))))) (fun z => nomatch z) (fun _ H12 e12 => ?_)
  have e912 := e9.trans e12
  have st12 := ex_t e912 st9
  have bq12 := bq9.ext e912
  have hw12 := e912 _ _ hw9
  have hm12 := hm9.ex e912
  have kp12 := kp09.trans (Kp.of e912)
  have dk12 := dk9.up e912
  clear two etT bq11 st11 el9 etF e10 h10 hTL hl e9 e12 bq9 st9 hw9 hm9 kp09 dk9 e912 h11
  obtain ⟨xm2, hmt, hma⟩ : ∃ xm, SqT K H12 am xm ∧ DdAll K H12 xm ms := by
    cases hm12 with
    | tup a b => exact ⟨_, a, b⟩
  have hml := hma.length
  have lenE : ∀ {σ : L2.St}, σ[1]? = some (some (.ref a)) → ∀ {H'}, Ex H12 H' → Ev (tCB (rLen K) (tCons (tDGet (tVar 1) (tC (V.str "moves"))) tNil)) σ H' (.int (xm2.length : Int)) := fun {σ} h {HH} e => ev_lenT (K := K) (ev_dget (te := tVar 1) (ev_var h) (e _ _ hw12) w5_m) (ex_t e hmt)
  have l10 : ns.length ≤ 1000 := by omega
  -- odd
  refine q_oddL (n := 10) (esa_cons (es_c (fun _ => .non) (by simp only [small])) (esa_cons (es_c (fun _ => .int 0) (by simp only [small])) (esa_cons (es_tup esa_nil (by decide)) (esa_cons (es_listOf (ev_var rfl) st12 l10) (esa_cons (es_ints (etp_rev (ev_var rfl) st12) (List.map_reverse ..).symm (by rw [List.length_reverse]; omega))
    (esa_cons (es_ints (etp_cat (etp_v (ev_var rfl) st12) (etp_v (ev_var rfl) st12) (by rw [nl]; omega)) (List.map_append ..).symm (by rw [List.length_append]; omega))
    (esa_cons (es_ints (ns := ns ++ [(xm2.length : Int)]) (etp_cat (etp_v (ev_var rfl) st12) (etp_disp (ea_cons (lenE rfl (Ex.refl _)) ea_nil) (by show 1 ≤ 100000; decide)) (by rw [nl, List.length_singleton]; omega)) (by simp) (by rw [List.length_append, List.length_singleton]; omega))
    (esa_cons (es_ints (ns := (-1) :: ns) (etp_cat (etp_disp (ea_cons (ev_un (x := .int 1) ev_c ru_neg) ea_nil) (by show 1 ≤ 100000; decide)) (etp_v (ev_var rfl) st12) (by rw [nl, List.length_singleton]; omega)) (by simp) (by rw [List.length_cons]; omega))
    (esa_cons (es_tup (esa_cons (es_c (fun _ => .bl true) (by simp only [small])) esa_nil) (by decide)) (esa_cons (es_tup (esa_cons (es_c (fun _ => .int 0) (by simp only [small])) (esa_cons (es_c (fun _ => .bl true) (by simp only [small])) esa_nil)) (by decide)) esa_nil)))))))))) (by decide) fun L1 vs1 ds1 H13 e13 hL1 hd1 s1 n1 => ?_
  show tSeq _ _ _ (σr p a (some (.ref q)) (some (.str kt)) (some (.ref TB)) (some (.ref TR)) (some (.str dt)) v9 (some (.int (k1 : Int))) (some (.ref TL)) (some (.ref L1)) none) H13
  refine q_oddC (n := 5) (j := 12) rfl hL1 hd1 s1 (by omega) (esa_cons (es_tup (esa_cons (es_c (fun _ => .str _) (by simp only [small]; decide)) esa_nil) (by decide)) (esa_cons (es_tup (esa_cons (es_c (fun _ => .int 1) (by simp only [small])) esa_nil) (by decide)) (esa_cons (es_tup (esa_cons (es_c (fun _ => .int 0) (by simp only [small])) (esa_cons (es_c (fun _ => .int 1) (by simp only [small])) esa_nil)) (by decide))
    (esa_cons (es_rg (lenE rfl e13) (by omega)) (esa_cons es_dict esa_nil))))) (by decide) fun L2 vs2 ds2 H14 e14 hL2 hd2 s2 n2 => ?_
  show tSeq _ _ _ (σr p a (some (.ref q)) (some (.str kt)) (some (.ref TB)) (some (.ref TR)) (some (.str dt)) v9 (some (.int (k1 : Int))) (some (.ref TL)) (some (.ref L2)) none) H14
  have e124 := e13.trans e14
  -- each of them
  refine q_forC (i := 4) (j := 12) rfl (Dd.tup (ex_t e124 st12) (dd_intsAll ns)) (small_ints l10) rfl hL2 hd2 s2 n2 fun L3 ws es H15 e15 hL3 hds s3 => ?_
  refine ⟨fun i σ' H' => Ex H15 H' ∧ ∃ v8 v13, σ' = σr p a (some (.ref q)) (some (.str kt)) (some (.ref TB)) (some (.ref TR)) v8 v9 (some (.int (k1 : Int))) (some (.ref TL)) (some (.ref L2)) v13, ⟨Ex.refl _, some (.str dt), none, rfl⟩, (fun i σ' H' _ z => SqL.of (z.1 _ _ hL3)), ?_, ?_⟩
  · rintro i x σ' H' hi ⟨eH, v8, v13, rfl⟩
    obtain ⟨d, hd, hx⟩ := hds.get hi
    have sd := smallAll_mem s3 (List.mem_of_getElem? hd)
    have hxH := hx.ex eH
    have eAll := (e124.trans e15).trans eH
    obtain ⟨⟨wr, wm, wf, hbA, hpa⟩, _, _, _⟩ := bq12.ext eAll
    show tSeq _ _ _ (σr p a (some (.ref q)) (some (.str kt)) (some (.ref TB)) (some (.ref TR)) v8 v9 (some (.int (k1 : Int))) (some (.ref TL)) (some (.ref L2)) (some x)) H'
    refine q_asg (ev_lbar (ev_var rfl) (ev_var rfl) (eAll _ _ hw12) (.tup (ex_t eAll hmt) (hma.ex eAll)) hxH sd) fun H16 e16 => ?_
    have hxN := hxH.ex e16
    show tIfS _ _ _ _ (σr p a (some (.ref q)) (some (.str kt)) (some (.ref TB)) (some (.ref TR)) (some (.bl (areAsc 0 ((ms.length : Int) - 1) d))) v9 (some (.int (k1 : Int))) (some (.ref TL)) (some (.ref L2)) (some x)) H16
    refine s_when (b := false) (et_is (et_test (ev_op (ev_repr (el_lst (ea_cons (ev_isbar (ev_var rfl) (ev_var rfl) (hbA.ex e16) (hpa.m.ex e16) hxN sd) (ea_cons (ev_isbarK (ev_var rfl) (ev_var rfl) (hbA.ex e16) (hpa.m.ex e16) hxN sd) ea_nil)) (by show 2 ≤ 100000; decide)) (.cons (.bl _) (.cons (.bl _) .nil)) (bools_show _))
      (ev_repr (el_lst (ea_cons (ev_var rfl) (ea_cons (ev_var rfl) ea_nil)) (by show 2 ≤ 100000; decide)) (.cons (.bl _) (.cons (.bl _) .nil)) (bools_show _)) (rv_ne rfl))) (by simp)) (fun z => nomatch z) (fun _ H17 e17 => ?_)
    exact ⟨(eH.trans e16).trans e17, _, _, rfl⟩
  rintro σ' H' ⟨eH, v8, v13, rfl⟩
  have eAll := (e124.trans e15).trans eH
  refine s_ret (ev_op (ev_shown (ev_var rfl) (bq12.ext eAll)) (ev_var rfl) (rv_eq rfl)) fun H18 e18 => ?_
  rw [hkt, decide_eq_true rfl]
  exact kk H18 ((dk12.up (eAll.trans e18)).mono (by omega)) (kp12.trans (Kp.of (eAll.trans e18)))
end
end Bk

namespace Bk
open PySem L2 Evl Hg
abbrev s_law : PySem.Stmt := top 53
def spLaw (K : PySem.W.Frag) : Sp := fun vs H Q _ => ∃ (a : Addr) (ns : List Int), vs = [.ref a] ∧ SqL K H a (ns.map V.int) ∧ ns.length ≤ 63 ∧ ∀ H2, Q (.bl true) H2
section
variable {P : Program} {w : World} {K : PySem.W.Frag} {mg : Str → Option Value} {base : Heap} {C : Addr}
theorem sc_law : FnScope ["_law_script", "_law_deck_here", "_law_go"] ["_law_script"] (defScope s_law) := ⟨rfl, rfl, rfl, by decide +kernel, rfl, by decide +kernel, by decide +kernel⟩
theorem ok_law {f : Addr} {fd : FuncData} (F : Fun K "law" "law" s_law f fd) (T : Tx K mg) (GK : Df P w K mg base 1 "_law_deck" (spDeck K)) (GBk : Df P w K mg base 3 "_law_book" (spBook K)) (GR : Cal P w K mg base CX0 11 "_law_right" (spRight K)) :
    FnG P w K mg base CX0 12 f fd ["_law_script"] (spLaw K) := by
  refine fnG0 F sc_law (fun vs H Q E h => by obtain ⟨a, ns, rfl, _⟩ := h; rfl) (fun cdv A outer s H vs Q E gq hr h => ?_)
  obtain ⟨a, ns, rfl, ha, hl, kk⟩ := h
  refine ⟨_, (pss_cons (ps_set (i := 1) sc_law.nd rfl (Or.inl rfl) (pe_d GK hr (by decide) rfl (pa_cons (pv 0) pa_nil)))
  (pss_cons (ps_for PassesOwn.never rfl (pi_range1 rfl T.b_range (pa_cons pe_int pa_nil)) (pg_name (i := 2) sc_law.nd rfl (Or.inl rfl)) (pss_one (ps_if (pt_not (pt_val (pe_g GR gq hr (by decide) rfl pass0 (pa_cons (pv 1) (pa_cons (pe_d GBk hr (by decide) rfl (pa_cons (pv 1) (pa_cons pe_int pa_nil))) pa_nil))))) (pss_one (ps_ret pe_bl)) pss_nil)))
  (pss_one (ps_ret pe_bl)))), ?_⟩
  refine ⟨.ref a, rfl, a, ns, rfl, ha, hl, fun p c H1 e1 hp hc dk => ?_⟩
  show tSeq _ _ _ [some (.ref a), some (.ref p), none] H1
  refine q_forR1 (n := 4) (ea_cons ev_c ea_nil) (by decide) (fun i σ' H' => Dk p c (220 * i) H' ∧ ∃ v, σ' = [some (.ref a), some (.ref p), v]) (fun H2 e2 => ⟨dk.up e2, none, rfl⟩) ?_ ?_
  · rintro i σ' H' hi ⟨dk2, v, rfl⟩
    refine ⟨.ref p, rfl, .ref p, rfl, p, c, 220 * i, rfl, dk2, by omega, fun w' dr ms df H3 hw dk3 kp3 => ?_⟩
    refine ⟨p, c, 220 * i + 200, w', dr, ms, df, rfl, dk3, by omega, hw, fun H4 dk4 kp4 => ⟨true, rfl, ?_⟩⟩
    exact iteF ⟨dk4.mono (by omega), _, rfl⟩
  · rintro σ' H' ⟨dk2, v, rfl⟩
    exact kk H'
end
end Bk

namespace Bk
open PySem L2 Evl Hg
/-- a def that the top has written -/
structure DF (K : PySem.W.Frag) (x : Str) (st : PySem.Stmt) : Prop where
  ex : ∃ (f : Addr) (fd : FuncData), PySem.W.nsIn K mainGlobals x = some (some (.ref f)) ∧ Fun K x x st f fd
theorem DF.mk1 {K : PySem.W.Frag} {x : Str} {st : PySem.Stmt} {f : Addr} {oc kV dc pm cd ct : Value} {od an : Option Addr} {sl : Array (Option Value)} (a : PySem.W.nsIn K mainGlobals x = some (some (.ref f)))
    (l : K.lookup f = some ⟨oc, od, .func (PySem.W.fnOf x x (defArgs st) (defBody st) (defScope st) .none kV dc pm an cd ct), sl⟩) (c : PySem.W.codeIn K cd x = true) (k : PySem.W.keepIn K (.ref f) = true) : DF K x st := ⟨f, _, a, fun_mk l c k⟩
/-- a method that the top has written -/
structure MF (K : PySem.W.Frag) (C : Addr) (m q : Str) (st : PySem.Stmt) : Prop where
  ex : ∃ (f : Addr) (fd : FuncData), Meth K C m f ∧ Fun K m q st f fd
theorem MF.mk1 {K : PySem.W.Frag} {C : Addr} {m q : Str} {st : PySem.Stmt} {f : Addr} {oc kV dc pm cd ct : Value} {od an : Option Addr} {sl : Array (Option Value)} (a : PySem.W.findIn K (.ref C) m = some (some (.ref f))) (i : PySem.W.isFn K (.ref f) = true)
    (l : K.lookup f = some ⟨oc, od, .func (PySem.W.fnOf m q (defArgs st) (defBody st) (defScope st) .none kV dc pm an cd ct), sl⟩) (c : PySem.W.codeIn K cd q = true) (k : PySem.W.keepIn K (.ref f) = true) : MF K C m q st := ⟨f, _, ⟨a, i, k⟩, fun_mk l c k⟩
section
variable {P : Program} {w : World} {K : PySem.W.Frag} {mg : Str → Option Value} {base h : Heap} {k : Nat} {x : Str} {st : PySem.Stmt} {ps : List Str} {sp : Sp}
theorem DF.df (d : DF K x st) (X : K.In h) (G : h.Ns mainGlobals mg)
    (bd : ∀ (kV doc pm : Value) (an : Option Addr) (cdv ct : Value) (us : List Value), us.length = ps.length → bindArgs (PySem.W.fnOf x x (defArgs st) (defBody st) (defScope st) .none kV doc pm an cdv ct) ⟨us, []⟩ = pure (ps.zip us))
    (ok : ∀ (f : Addr) (fd : FuncData), Fun K x x st f fd → FnOk P w K mg base CX0 k f fd ps sp) : Df P w K mg base k x sp := by
  obtain ⟨f, fd, a, F⟩ := d.ex
  exact ⟨f, fd, ps, ok f fd F, PySem.W.mg_of X G a, F.kp, F.binds bd⟩
theorem DF.dg (d : DF K x st) (X : K.In h) (G : h.Ns mainGlobals mg)
    (bd : ∀ (kV doc pm : Value) (an : Option Addr) (cdv ct : Value) (us : List Value), us.length = ps.length → bindArgs (PySem.W.fnOf x x (defArgs st) (defBody st) (defScope st) .none kV doc pm an cdv ct) ⟨us, []⟩ = pure (ps.zip us))
    (ok : ∀ (f : Addr) (fd : FuncData), Fun K x x st f fd → FnG P w K mg base CX0 k f fd ps sp) : Hg.Cal P w K mg base CX0 k x sp := by
  obtain ⟨f, fd, a, F⟩ := d.ex
  exact ⟨f, fd, ps, ok f fd F, PySem.W.mg_of X G a, F.kp, F.binds bd⟩
theorem DF.dk {a b : Str} (d : DF K x st) (X : K.In h) (G : h.Ns mainGlobals mg)
    (bd : ∀ (kV doc pm : Value) (an : Option Addr) (cdv ct : Value) (u v : Value), bindArgs (PySem.W.fnOf x x (defArgs st) (defBody st) (defScope st) .none kV doc pm an cdv ct) ⟨[], [(b, v), (a, u)]⟩ = pure [(a, u), (b, v)])
    (ok : ∀ (f : Addr) (fd : FuncData), Fun K x x st f fd → FnOk P w K mg base CX0 k f fd [a, b] sp) : DfK P w K mg base k x sp [b, a] swp := by
  obtain ⟨f, fd, e, F⟩ := d.ex
  exact ⟨f, fd, [a, b], swp, ok f fd F, PySem.W.mg_of X G e, F.kp, kb2 F bd⟩
end
/-- what stands in the written part -/
structure All (K : PySem.W.Frag) (C : Addr) : Prop where
  d4 : DF K "is_integer" s_is_integer
  d5 : DF K "is_between" s_is_between
  d6 : DF K "are_between" s_are_between
  d7 : DF K "do_ascend" s_do_ascend
  d8 : DF K "are_ascending" s_are_ascending
  d9 : DF K "are_letters" s_are_letters
  d10 : DF K "is_tuple_of" s_is_tuple_of
  d12 : DF K "barred_book" s_barred
  d13 : DF K "is_bar" s_is_bar
  d34 : DF K "is_heard" s_is_heard
  d35 : DF K "are_rooms" s_are_rooms
  d36 : DF K "are_standings" s_are_standings
  d37 : DF K "can_look_into" s_can_look_into
  d38 : DF K "is_move" s_is_move
  m0 : MF K C "__init__" "Book.__init__" s_init
  m2 : MF K C "__eq__" "Book.__eq__" s_eq
  m5 : MF K C "without_moves" "Book.without_moves" s_without
  d45 : DF K "_law_deck" s_deck
  d46 : DF K "_law_draw" s_draw
  d47 : DF K "_law_pick" s_pick
  d48 : DF K "_law_book" s_book
  d49 : DF K "_law_code" s_code
  d50 : DF K "_law_shown" s_shown
  d51 : DF K "_law_is_bar" s_lbar
  d52 : DF K "_law_right" s_right
  cB : PySem.W.nsIn K mainGlobals "Book" = some (some (.ref C))
  ins : C8.InsC K C
  mks : PySem.W.makesIn K C = true
  kc : PySem.W.keepIn K (.ref C) = true
  nR : PySem.W.findIn K (.ref C) "rooms" = some none
  nM : PySem.W.findIn K (.ref C) "moves" = some none
  nF : PySem.W.findIn K (.ref C) "first" = some none
  kA : ∃ t, PySem.W.nsIn K mainGlobals "AWAY" = some (some (.int (-1) t))
  kR : ∃ t, PySem.W.nsIn K mainGlobals "GREATEST_ROOM" = some (some (.int 9 t))
  kF : ∃ t, PySem.W.nsIn K mainGlobals "GREATEST_FACE" = some (some (.int 99 t))
  z1 : PySem.W.nsIn K mainGlobals "isinstance" = some none
  z2 : PySem.W.nsIn K mainGlobals "int" = some none
  z3 : PySem.W.nsIn K mainGlobals "bool" = some none
  z4 : PySem.W.nsIn K mainGlobals "tuple" = some none
  z5 : PySem.W.nsIn K mainGlobals "str" = some none
  z6 : PySem.W.nsIn K mainGlobals "all" = some none
  z7 : PySem.W.nsIn K mainGlobals "range" = some none
  z8 : PySem.W.nsIn K mainGlobals "len" = some none
  z9 : PySem.W.nsIn K mainGlobals "enumerate" = some none
  z10 : PySem.W.nsIn K mainGlobals "list" = some none
  z11 : PySem.W.nsIn K mainGlobals "repr" = some none
theorem kc_mk {K : PySem.W.Frag} {n : Str} {i : Int} {t : Tok} (e : PySem.W.nsIn K mainGlobals n = some (some (.int i t))) : ∃ t, PySem.W.nsIn K mainGlobals n = some (some (.int i t)) := ⟨t, e⟩
theorem kit_self {K : PySem.W.Frag} {C : Addr} : PySem.W.kitOne K (.ref C) (.ref C) = some true := if_pos (by
  first
  | exact beq_self_eq_true _
  | (show (C == C) = true; exact beq_self_eq_true C)
  | simp)
theorem all_go {P : Program} {w : World} {K : PySem.W.Frag} {h : Heap} {mg : Str → Option Value} {fa C : Addr} (X : K.In h) (G : h.Ns mainGlobals mg) (hfa : mg "law" = some (.ref fa)) (al : All K C) (dl : DF K "law" s_law) :
    ∃ fd : FuncData, (∀ (s : Shared) (v : Value), BindsTo s fd ⟨[v], []⟩ [("_law_script", v)]) ∧ ∀ base : Heap, K.In base → base.Ns mainGlobals mg → Sys base → FnG P w K mg base CX0 12 fa fd ["_law_script"] (spLaw K) := by
  obtain ⟨f, fd, a, F⟩ := dl.ex
  have e := hfa.symm.trans (PySem.W.mg_of X G a)
  cases e
  have no : ∀ {n : Str}, PySem.W.nsIn K mainGlobals n = some none → mg n = none := fun z => PySem.W.mg_none_of X G z
  have T : Tx K mg := ⟨no al.z1, no al.z2, no al.z3, no al.z4, no al.z5, no al.z6, no al.z7, no al.z8⟩
  have kc : ∀ {n : Str} {i : Int}, (∃ t, PySem.W.nsIn K mainGlobals n = some (some (.int i t))) → ∃ u, mg n = some u ∧ RelV (.int i) u := fun ⟨t, z⟩ => ⟨_, PySem.W.mg_of X G z, t, rfl⟩
  have Ty' : Ty K mg := ⟨T, kc al.kA, kc al.kR, kc al.kF, no al.z9⟩
  have Tb' : Tb K mg C := ⟨Ty', al.ins, al.nR, al.nM, al.nF, PySem.W.mg_of X G al.cB⟩
  have Tz' : Tz K mg := ⟨Ty', no al.z10, no al.z11⟩
  obtain ⟨fI, fdI, MI, FI⟩ := al.m0.ex
  obtain ⟨fE, fdE, ME, FE⟩ := al.m2.ex
  obtain ⟨fW, fdW, MW, FW⟩ := al.m5.ex
  have M : Mk K C fI := ⟨al.mks, MI.at_, MI.fn, al.kc⟩
  have bI := FI.binds (ps := ["self", "rooms", "moves", "first"]) fun _ _ _ _ _ _ us hl => match us, hl with | [_, _, _, _], _ => rfl
  have bE := FE.binds (ps := ["self", "other"]) fun _ _ _ _ _ _ us hl => match us, hl with | [_, _], _ => rfl
  have bW := FW.binds (ps := ["self", "numbers"]) fun _ _ _ _ _ _ us hl => match us, hl with | [_, _], _ => rfl
  refine ⟨fd, fun s v => ?_, fun base hb hg hs => ?_⟩
  · obtain ⟨oc, od, kV, doc, pm, an, cdv, ct, osl, rfl, _⟩ := F.ex
    exact .of_eq rfl
  have g4 : Df P w K mg base 1 "is_integer" (sp1 K isWhole) := al.d4.df X G (fun _ _ _ _ _ _ us hl => match us, hl with | [_], _ => rfl) fun f fd F => ok_is_integer F T
  have g5 : Df P w K mg base 2 "is_between" (sp3 K betw) := al.d5.df X G (fun _ _ _ _ _ _ us hl => match us, hl with | [_, _, _], _ => rfl) fun f fd F => ok_is_between F T g4
  have g6 : Df P w K mg base 3 "are_between" (sp3 K areBetw) := al.d6.df X G (fun _ _ _ _ _ _ us hl => match us, hl with | [_, _, _], _ => rfl) fun f fd F => ok_are_between F T g5
  have g7 : Df P w K mg base 1 "do_ascend" (spAsc K) := al.d7.df X G (fun _ _ _ _ _ _ us hl => match us, hl with | [_], _ => rfl) fun f fd F => ok_do_ascend F T
  have g8 : Df P w K mg base 4 "are_ascending" (sp3 K areAsc) := al.d8.df X G (fun _ _ _ _ _ _ us hl => match us, hl with | [_, _, _], _ => rfl) fun f fd F => ok_are_ascending F g6 g7
  have g9 : Df P w K mg base 2 "are_letters" (sp1 K isHeard) := al.d9.df X G (fun _ _ _ _ _ _ us hl => match us, hl with | [_], _ => rfl) fun f fd F => ok_are_letters F T g7
  have g10 : Df P w K mg base 1 "is_tuple_of" (sp2 K hasLen) := al.d10.df X G (fun _ _ _ _ _ _ us hl => match us, hl with | [_, _], _ => rfl) fun f fd F => ok_is_tuple_of F T
  have g34 : Df P w K mg base 3 "is_heard" (sp1 K isHeard) := al.d34.df X G (fun _ _ _ _ _ _ us hl => match us, hl with | [_], _ => rfl) fun f fd F => ok_is_heard F g9
  have g35 : Df P w K mg base 4 "are_rooms" (sp1 K areRooms) := al.d35.df X G (fun _ _ _ _ _ _ us hl => match us, hl with | [_], _ => rfl) fun f fd F => ok_are_rooms F Ty' g6
  have g36 : Df P w K mg base 5 "are_standings" (spStand K) := al.d36.df X G (fun _ _ _ _ _ _ us hl => match us, hl with | [_, _], _ => rfl) fun f fd F => ok_are_standings F Ty' g8
  have g37 : Df P w K mg base 5 "can_look_into" (spLook K) := al.d37.df X G (fun _ _ _ _ _ _ us hl => match us, hl with | [_, _], _ => rfl) fun f fd F => ok_can_look_into F Ty' g8
  have g38 : Df P w K mg base 6 "is_move" (spMove K) := al.d38.df X G (fun _ _ _ _ _ _ us hl => match us, hl with | [_, _], _ => rfl) fun f fd F => ok_is_move F Ty' g10 g5 g34 g8 g37
  have GI : FnOk P w K mg base CX0 7 fI fdI ["self", "rooms", "moves", "first"] (spInit K C) := ok_init FI Tb' g35 g38 g36
  have GE : FnOk P w K mg base CX0 1 fE fdE ["self", "other"] (spEq (SameBook K C)) := ok_eq FE Tb'
  have GW : FnOk P w K mg base CX0 9 fW fdW ["self", "numbers"] (spWo K C) := ok_wo FW Tb' M GI bI
  have g12 : Df P w K mg base 10 "barred_book" (spWo K C) := al.d12.df X G (fun _ _ _ _ _ _ us hl => match us, hl with | [_, _], _ => rfl) fun f fd F => ok_barred F Tb' MW GW bW
  have g12k : DfK P w K mg base 10 "barred_book" (spWo K C) ["bar", "book"] swp := al.d12.dk X G (fun _ _ _ _ _ _ _ _ => rfl) fun f fd F => ok_barred F Tb' MW GW bW
  have g13 : Df P w K mg base 5 "is_bar" (spIsBar K C) := al.d13.df X G (fun _ _ _ _ _ _ us hl => match us, hl with | [_, _], _ => rfl) fun f fd F => ok_is_bar F Tb' g8
  have g13k : DfK P w K mg base 5 "is_bar" (spIsBar K C) ["thing", "book"] swp := al.d13.dk X G (fun _ _ _ _ _ _ _ _ => rfl) fun f fd F => ok_is_bar F Tb' g8
  have g45 : Df P w K mg base 1 "_law_deck" (spDeck K) := al.d45.df X G (fun _ _ _ _ _ _ us hl => match us, hl with | [_], _ => rfl) fun f fd F => ok_deck F Tz'
  have g46 : Df P w K mg base 1 "_law_draw" spDraw := al.d46.df X G (fun _ _ _ _ _ _ us hl => match us, hl with | [_, _], _ => rfl) fun f fd F => ok_draw F T
  have g47 : Df P w K mg base 2 "_law_pick" (spPick K) := al.d47.df X G (fun _ _ _ _ _ _ us hl => match us, hl with | [_, _], _ => rfl) fun f fd F => ok_pick F T g46
  have g48 : Df P w K mg base 3 "_law_book" (spBook K) := al.d48.df X G (fun _ _ _ _ _ _ us hl => match us, hl with | [_, _], _ => rfl) fun f fd F => ok_book F T g46 g47
  have g49 : Df P w K mg base 9 "_law_code" (spCode K C) := al.d49.df X G (fun _ _ _ _ _ _ us hl => match us, hl with | [_], _ => rfl) fun f fd F => ok_code F Tb' M GI bI
  have g50 : Hg.Cal P w K mg base CX0 1 "_law_shown" (spShown K C) := al.d50.dg X G (fun _ _ _ _ _ _ us hl => match us, hl with | [_], _ => rfl) fun f fd F => ok_shown F Tb' (no al.z11) hs
  have g51 : Df P w K mg base 1 "_law_is_bar" (spLbar K) := al.d51.df X G (fun _ _ _ _ _ _ us hl => match us, hl with | [_, _], _ => rfl) fun f fd F => ok_lbar F T
  have g52 : Hg.Cal P w K mg base CX0 11 "_law_right" (spRight K) := al.d52.dg X G (fun _ _ _ _ _ _ us hl => match us, hl with | [_, _], _ => rfl) fun f fd F => ok_right F Tb' (no al.z10) (no al.z11) hs g49 g50 g46 g12 g12k MW GW bW M GI bI GE ME.at_ ME.fn bE g51 g13 g13k
  exact ok_law F T g45 g48 g52
theorem walk {l : PySem.W.OpenLaw} {q : Program} {loose : List Str} {XP : (Str → Option Value) → Heap → Prop} {YP : World → Heap → Prop} {d : DefRec} {K : Params → PySem.W.Frag} (hn : l.most = some 63) (hdf : d.params.defaults = []) (hi : PyProof.Rows.importsNone q = true)
    (hY : ∀ (w : World) (h : Heap), YP w h → (K w.params).In h)
    (F : ∀ (w : World) (mg : Str → Option Value) (fa : Addr) (h : Heap), (K w.params).In h → h.Ns mainGlobals mg → mg d.name = some (.ref fa) →
      ∃ fd : FuncData, (∀ (s : Shared) (u : Value), BindsTo s fd ⟨[u], []⟩ [("_law_script", u)]) ∧ ∀ base : Heap, (K w.params).In base → base.Ns mainGlobals mg → Sys base → FnG l.prog w (K w.params) mg base CX0 12 fa fd ["_law_script"] (spLaw (K w.params))) :
    PySem.W.WalkO q loose XP YP l.row.toRowW d [] (fun f vs => PySem.call f vs) :=
  Hg.walkG (n := 63) (k := 12) (x := "_law_script") (sp := fun K => spLaw K) hn (by decide) hdf ⟨rfl, by decide, by decide⟩ hi hY F fun K H a ns hl _ hS => ⟨a, ns, rfl, hS, hl, fun _ => rfl⟩
end Bk

open PySem PySem.W PyProof.Rows
set_option maxHeartbeats 0 in
theorem PySem.Challenge.cw_housewardens_k51_barred_books_holds : PySem.Challenge.rw_housewardens_k51_barred_books.Holds := by
  w_on; o_law; k_head; (case hw => w_witness2)
  k_fill
  refine Bk.walk (l := PySem.Challenge.rw_housewardens_k51_barred_books) rfl rfl ?hi (fun w h Y => PySem.W.kIn_of Y) ?F
  case hi => first | decide +kernel | rfl
  case F =>
    intro w mg fa h KX G hmg
    refine' Bk.all_go KX G hmg ⟨?d4, ?d5, ?d6, ?d7, ?d8, ?d9, ?d10, ?d12, ?d13, ?d34, ?d35, ?d36, ?d37, ?d38, ?m0, ?m2, ?m5, ?d45, ?d46, ?d47, ?d48, ?d49, ?d50, ?d51, ?d52, ?cB, ?ins, ?mk, ?kc, ?nR, ?nM, ?nF, ?kA, ?kR, ?kF, ?z1, ?z2, ?z3, ?z4, ?z5, ?z6, ?z7, ?z8, ?z9, ?z10, ?z11⟩ ?dl
    (case cB => k_is)
    (case d4 => refine' Bk.DF.mk1 ?a ?l ?c ?k; (case a => k_is); (case l => k_is); (case c => k_is); (case k => k_is))
    (case d5 => refine' Bk.DF.mk1 ?a ?l ?c ?k; (case a => k_is); (case l => k_is); (case c => k_is); (case k => k_is))
    (case d6 => refine' Bk.DF.mk1 ?a ?l ?c ?k; (case a => k_is); (case l => k_is); (case c => k_is); (case k => k_is))
    (case d7 => refine' Bk.DF.mk1 ?a ?l ?c ?k; (case a => k_is); (case l => k_is); (case c => k_is); (case k => k_is))
    (case d8 => refine' Bk.DF.mk1 ?a ?l ?c ?k; (case a => k_is); (case l => k_is); (case c => k_is); (case k => k_is))
    (case d9 => refine' Bk.DF.mk1 ?a ?l ?c ?k; (case a => k_is); (case l => k_is); (case c => k_is); (case k => k_is))
    (case d10 => refine' Bk.DF.mk1 ?a ?l ?c ?k; (case a => k_is); (case l => k_is); (case c => k_is); (case k => k_is))
    (case d12 => refine' Bk.DF.mk1 ?a ?l ?c ?k; (case a => k_is); (case l => k_is); (case c => k_is); (case k => k_is))
    (case d13 => refine' Bk.DF.mk1 ?a ?l ?c ?k; (case a => k_is); (case l => k_is); (case c => k_is); (case k => k_is))
    (case d34 => refine' Bk.DF.mk1 ?a ?l ?c ?k; (case a => k_is); (case l => k_is); (case c => k_is); (case k => k_is))
    (case d35 => refine' Bk.DF.mk1 ?a ?l ?c ?k; (case a => k_is); (case l => k_is); (case c => k_is); (case k => k_is))
    (case d36 => refine' Bk.DF.mk1 ?a ?l ?c ?k; (case a => k_is); (case l => k_is); (case c => k_is); (case k => k_is))
    (case d37 => refine' Bk.DF.mk1 ?a ?l ?c ?k; (case a => k_is); (case l => k_is); (case c => k_is); (case k => k_is))
    (case d38 => refine' Bk.DF.mk1 ?a ?l ?c ?k; (case a => k_is); (case l => k_is); (case c => k_is); (case k => k_is))
    (case m0 => refine' Bk.MF.mk1 ?a ?i ?l ?c ?k; (case a => k_is); (case i => k_is); (case l => k_is); (case c => k_is); (case k => k_is))
    (case m2 => refine' Bk.MF.mk1 ?a ?i ?l ?c ?k; (case a => k_is); (case i => k_is); (case l => k_is); (case c => k_is); (case k => k_is))
    (case m5 => refine' Bk.MF.mk1 ?a ?i ?l ?c ?k; (case a => k_is); (case i => k_is); (case l => k_is); (case c => k_is); (case k => k_is))
    (case d45 => refine' Bk.DF.mk1 ?a ?l ?c ?k; (case a => k_is); (case l => k_is); (case c => k_is); (case k => k_is))
    (case d46 => refine' Bk.DF.mk1 ?a ?l ?c ?k; (case a => k_is); (case l => k_is); (case c => k_is); (case k => k_is))
    (case d47 => refine' Bk.DF.mk1 ?a ?l ?c ?k; (case a => k_is); (case l => k_is); (case c => k_is); (case k => k_is))
    (case d48 => refine' Bk.DF.mk1 ?a ?l ?c ?k; (case a => k_is); (case l => k_is); (case c => k_is); (case k => k_is))
    (case d49 => refine' Bk.DF.mk1 ?a ?l ?c ?k; (case a => k_is); (case l => k_is); (case c => k_is); (case k => k_is))
    (case d50 => refine' Bk.DF.mk1 ?a ?l ?c ?k; (case a => k_is); (case l => k_is); (case c => k_is); (case k => k_is))
    (case d51 => refine' Bk.DF.mk1 ?a ?l ?c ?k; (case a => k_is); (case l => k_is); (case c => k_is); (case k => k_is))
    (case d52 => refine' Bk.DF.mk1 ?a ?l ?c ?k; (case a => k_is); (case l => k_is); (case c => k_is); (case k => k_is))
    (case dl => refine' Bk.DF.mk1 ?a ?l ?c ?k; (case a => k_is); (case l => k_is); (case c => k_is); (case k => k_is))
    (case ins => refine' ⟨⟨?pg, ?hd, ?po, ?sa⟩, ?ha, ?hn, ?ht, ?hm, Bk.kit_self⟩ <;> k_is)
    (case mk => k_is); (case kc => k_is); (case nR => k_is); (case nM => k_is); (case nF => k_is)
    (case kA => refine' Bk.kc_mk ?e; (case e => k_is)); (case kR => refine' Bk.kc_mk ?e; (case e => k_is)); (case kF => refine' Bk.kc_mk ?e; (case e => k_is))
    (case z1 => k_is); (case z2 => k_is); (case z3 => k_is); (case z4 => k_is); (case z5 => k_is); (case z6 => k_is); (case z7 => k_is); (case z8 => k_is); (case z9 => k_is); (case z10 => k_is); (case z11 => k_is)

