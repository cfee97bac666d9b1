import PyProof.Rows.All
import Wide.All
import OpenK.AllK
import Wide.FinOn
import PyProof.EqAt
import PyProof.EqKinds
import PyProof.TupleCall
import HandS.ForMost
import HandS.ForExc
import HandS.Wide
import HandS.Gcd
import HandS.ExcIs
import HandS.ExcBuiltin
import HandS.RaiseMore
import HandS.Codes
import HandS.IsInst
import HandS.Zip
import HandS.Zip0
import HandS.Walk
import KE.GoesEnum
import KE.KMathGC
import HandS.Text
import HandS.Style
import HandS.TupMul
import HandS.TupAny
import KE.KRevSl
import HandS.Conv
import PySem.Challenge.RW_everystart_k05_whole_sums_of_throws
set_option Elab.async false
set_option linter.all false
set_option maxRecDepth 100000
set_option pp.maxSteps 1500
set_option maxHeartbeats 1000000
set_option exponentiation.threshold 256
namespace Ev
open PySem PySem.Spec PyProof.Rows L2

/-! ### promises of defs that run where nothing is being shown (the list of guards is known to be empty) -/
structure FnG (P : Program) (w : World) (K : PySem.W.Frag) (mg : Str → Option Value) (base : Heap) (CX : CXT) (k : Nat)
    (f : Addr) (fd : FuncData) (ps : List Str) (sp : Sp) : Prop where
  len : ∀ vs H Q E, sp vs H Q E → vs.length = ps.length
  run : ∀ (A : Around), A.guards = some [] → ∀ (outer : List Env) (s : Shared) (H : Hp) (args : Args) (us : List Value) (vs : List V)
    (Q : VK) (E : XK), Room k A → Env0 P w K mg base A outer s H → BindsTo s fd args (ps.zip us) → Vals vs us → sp vs H Q E →
    codeAny (model P w) A (.call (.ref f) args) (CR CX outer P w H s Q E) s

theorem FnG.of {P : Program} {w : World} {K : PySem.W.Frag} {mg : Str → Option Value} {base : Heap} {CX : CXT} {k : Nat}
    {f : Addr} {fd : FuncData} {ps : List Str} {sp : Sp} (F : FnOk P w K mg base CX k f fd ps sp) : FnG P w K mg base CX k f fd ps sp :=
  ⟨F.len, fun A _ outer s H args us vs Q E hr he hb hv hs => F.run A outer s H args us vs Q E hr he hb hv hs⟩

section
variable {P : Program} {w : World} {K : PySem.W.Frag} {mg : Str → Option Value} {base : Heap}
theorem okG {x qual : Str} {st : Stmt} {f : Addr} {fd : FuncData} {N ps : List Str} {k : Nat} {sp : Sp}
    (F : Fun K x qual st f fd) (S : FnScope N ps (defScope st)) (len : ∀ vs H Q E, sp vs H Q E → vs.length = ps.length)
    (hbody : ∀ (cdv : Value) (A : Around) (outer : List Env) (s : Shared) (H : Hp) (vs : List V) (Q : VK) (E : XK), A.guards = some [] →
      Room k (A.deeper (envOfC qual (defScope st) s.heap.objs.size f cdv)) → sp vs H Q E →
      ∃ t, PSs (cxOf CX0 P w K mg base N qual (defScope st) f cdv A outer s H E).nox (defBody st) t ∧
        t { nx := fun _ H' => Q .non H', rt := Q } (start N vs) H) : FnG P w K mg base CX0 (k + 1) f fd ps sp := by
  obtain ⟨c1, c2, c3, c4, c5, c6, c7, c8, c9, rfl, lk, hcd⟩ := F.ex
  refine ⟨len, fun A hA outer s H args us vs Q E hr e0 hb r hsp => ?_⟩
  have long := len _ _ _ _ hsp
  have stays := e0.mod.kin.keeps (h' := s.heap) fun b o e => And.left (e0.bs b o e)
  have free := e0.mod.nolimit.keeps (h' := s.heap) fun b o e => And.left (e0.bs b o e)
  refine codeAny_call_function hr.depth (stays _ _ lk) rfl S.co S.gen rfl (PySem.W.codeRec_of stays hcd) (hb _ _ _ _ ?_)
  refine wpAny_newFunctionEnv_cells S.kind (fun y hy => ?_) fun env he s1 x => ?_
  · obtain ⟨n, v⟩ := y
    exact (S.par n (List.of_mem_zip hy).1).elim .inl fun q => .inr ⟨q, PySem.W.cellsFrom_some _ _ _ (.inl q)⟩
  cases he
  refine ⟨free.keeps x.toInCall.keep, codeAny_func ?_⟩
  obtain ⟨t, ht, hq⟩ := hbody c7 A outer s H vs Q E hA (hr.deeper _) hsp
  have J := inv_start (CX := CX0) (E := E) S hr.hd e0 long r x
  refine wpAny_mono (ht.nox.run [] s1 (start N vs) H _ J hq) (fun fl s' hs => ?_) (fun _ _ z => z)
  match fl, hs with
  | .ret u, ⟨v, σ', H', J', rv, q⟩ => exact ⟨v, H', J'.os, J'.bare, J'.base, J'.hok, rv, q⟩
  | .next, ⟨σ', H', J', q⟩ => exact ⟨V.non, H', J'.os, J'.bare, J'.base, J'.hok, rfl, q⟩
  | .brk, ⟨_, _, _, q⟩ => exact q.elim
  | .cont, ⟨_, _, _, q⟩ => exact q.elim
end

section
variable {X : Cx} {CX : CXT} {k : Nat} {f : Addr} {fd : FuncData} {ps : List Str} {ds : List Value} {dvs : List V} {sp : Sp} {E : XK}
  {x : Str} {p pos : Pos} {e : Expr} {es : List Expr} {t : TA}
theorem runG {pins : List (Addr × Obj)} {σ : L2.St} {H : Hp} {s : Shared} {Q : VK} {us : List Value} {vs : List V}
    (F : FnG X.prog X.w X.K X.mg X.base CX k f fd ps sp) (hG : X.A.guards = some []) (hr : Room k X.A) (hb : Binds X.K fd ps [])
    (hx : Passes CX X E) (I : Inv X pins σ H s) (r : Vals vs us) (h : sp vs H Q E) :
    wpAny (model X.prog X.w) X.A (call (.ref f) us) (EP X pins σ Q) X.xe s := by
  have hl : us.length = ps.length := r.length.symm.trans (F.len _ _ _ _ h)
  have b := hb s us I.kIn (by rw [List.append_nil]; exact hl)
  rw [List.append_nil] at b
  have z := F.run X.A hG X.stack s H ⟨us, []⟩ us vs Q E hr I.env0 b r h
  refine wpAny_call (codeAny_mono z fun o s' hq => ?_)
  match o, hq with
  | .error e, hq => exact hx pins σ H s e s' I hq
  | .ok (.ret u), hq => exact I.after hq
  | .ok .next, hq => exact hq.elim
  | .ok .brk, hq => exact hq.elim
  | .ok .cont, hq => exact hq.elim
theorem pe_callG (F : FnG X.prog X.w X.K X.mg X.base CX k f fd ps sp) (hG : X.A.guards = some []) (hr : Room k X.A) (hg : Gl X x)
    (hm : X.mg x = some (.ref f)) (hk : PySem.W.keepIn X.K (.ref f) = true) (hb : Binds X.K fd ps []) (hx : Passes CX X E)
    (ha : PA X (e :: es) t) (hdb : (x == ("__debug__" : Str)) = false := by decide)
    (he : starEach (e :: es) X.env = (false, eval e X.env) :: starEach es X.env := by rfl)
    (hpl : (backTo pos (starEach es X.env)).any (·.1) = false := by rfl) :
    PE X (.Call (.Name x p) (e :: es) [] pos) (fun σ H Q => t σ H fun vs H1 => sp vs H1 Q E) := by
  refine ⟨fun pins s σ H Q I h => wpAny_Call_Name_kw (ld_glob I hg hm ?_ hdb)⟩
  refine PySem.W.callWith_K (h₀ := X.base) I.ok.mod.kin hk (thn (ha.run pos pins s σ H _ I h) ?_) he hpl
  exact fun us s1 ⟨vs, H1, I1, r, q⟩ => ⟨I1.kIn, runG F hG hr hb hx I1 r q⟩
/-- how a call by keywords alone binds: the i-th parameter gets the keyword's value at place pm[i] -/
structure KB0 (K : PySem.W.Frag) (fd : FuncData) (ps ks : List Str) (pm : List Nat) : Prop where
  to : ∀ (s : Shared) (ws : List Value), K.In s.heap → ws.length = ks.length →
    BindsTo s fd ⟨[], ks.zip ws⟩ (ps.zip (pm.map fun i => ws.getD i Value.none))
def putV (pm : List Nat) (zs : List V) : List V := pm.map fun i => zs.getD i V.non
theorem relPut {zs : List V} {ws : List Value} (r : Vals zs ws) : ∀ pm : List Nat, Vals (putV pm zs) (pm.map fun i => ws.getD i Value.none)
  | [] => .nil
  | i :: pm => by
    refine .cons ?_ (relPut r pm)
    show L2.RelV (zs.getD i V.non) (ws.getD i Value.none)
    cases e : zs[i]? with
    | none =>
      have e2 := r.none_of e
      rw [List.getD_eq_getElem?_getD, List.getD_eq_getElem?_getD, e, e2]
      rfl
    | some z =>
      obtain ⟨u, e2, q⟩ := r.get e
      rw [List.getD_eq_getElem?_getD, List.getD_eq_getElem?_getD, e, e2]
      exact q
/-- f(k = v, ..), keywords alone; what is raised is wished for at the slots -/
theorem pe_callK0S {ks : List Str} {kws : List Keyword} {tk : TA} {pm : List Nat} {ES : L2.St → XK}
    (F : FnOk X.prog X.w X.K X.mg X.base CX k f fd ps sp) (hr : Room k X.A) (hg : Gl X x) (hm : X.mg x = some (.ref f))
    (hk : PySem.W.keepIn X.K (.ref f) = true) (hb : KB0 X.K fd ps ks pm) (hx : ∀ σ, PassesAt CX X σ (ES σ)) (hkw : PK X kws tk)
    (hall : (backToKw pos (keywordEach kws X.env)).all (·.1.isSome) = true := by rfl)
    (hks : (backToKw pos (keywordEach kws X.env)).filterMap (·.1) = ks := by rfl) (hdb : (x == ("__debug__" : Str)) = false := by decide)
    (hpl : ((backTo pos (starEach [] X.env)).any (·.1) || (backToKw pos (keywordEach kws X.env)).any (·.1.isNone)) = false := by rfl) :
    PE X (.Call (.Name x p) [] kws pos) (fun σ H Q => tk σ H fun zs H1 => zs.length = ks.length ∧ sp (putV pm zs) H1 Q (ES σ)) := by
  refine ⟨fun pins s σ H Q I h => wpAny_Call_Name_kw (ld_glob I hg hm ?_ hdb)⟩
  refine PySem.W.callWith_KW0 (h₀ := X.base) I.ok.mod.kin hk hall (thn (hkw.run pos pins s σ H _ I h) ?_) hpl
  intro ws s2 ⟨zs, H2, I2, rz, l2, q2⟩
  refine ⟨I2.kIn, ?_⟩
  rw [hks]
  have z := F.run X.A X.stack s2 H2 ⟨[], ks.zip ws⟩ _ (putV pm zs) Q (ES σ) hr I2.env0 (hb.to s2 ws I2.kIn (rz.length.symm.trans l2)) (relPut rz pm) q2
  refine wpAny_call (codeAny_mono z fun o s' hq => ?_)
  match o, hq with
  | .error e, hq => exact hx σ pins H2 s2 e s' I2 hq
  | .ok (.ret u), hq => exact I2.after hq
  | .ok .next, hq => exact hq.elim
  | .ok .brk, hq => exact hq.elim
  | .ok .cont, hq => exact hq.elim
theorem passC (hx : Passes CX X E) (σ : L2.St) : PassesAt CX X σ E := fun pins H s e s' I c => hx pins σ H s e s' I c
/-- f(k = v, ..), keywords alone -/
theorem pe_callK0 {ks : List Str} {kws : List Keyword} {tk : TA} {pm : List Nat}
    (F : FnOk X.prog X.w X.K X.mg X.base CX k f fd ps sp) (hr : Room k X.A) (hg : Gl X x) (hm : X.mg x = some (.ref f))
    (hk : PySem.W.keepIn X.K (.ref f) = true) (hb : KB0 X.K fd ps ks pm) (hx : Passes CX X E) (hkw : PK X kws tk)
    (hall : (backToKw pos (keywordEach kws X.env)).all (·.1.isSome) = true := by rfl)
    (hks : (backToKw pos (keywordEach kws X.env)).filterMap (·.1) = ks := by rfl) (hdb : (x == ("__debug__" : Str)) = false := by decide)
    (hpl : ((backTo pos (starEach [] X.env)).any (·.1) || (backToKw pos (keywordEach kws X.env)).any (·.1.isNone)) = false := by rfl) :
    PE X (.Call (.Name x p) [] kws pos) (fun σ H Q => tk σ H fun zs H1 => zs.length = ks.length ∧ sp (putV pm zs) H1 Q E) :=
  pe_callK0S (ES := fun _ => E) F hr hg hm hk hb (passC hx) hkw hall hks hdb hpl
/-- X(), an own class of exceptions without __init__ -/
theorem pmk_own0 {C : Addr} {bmB : List Value} {B newId initId : String} (F : ExcBaseFacts B newId initId bmB)
    (q : PySem.W.excIn X.K C bmB newId = true) (gC : X.mg x = some (.ref C)) (kC : PySem.W.keepIn X.K (.ref C) = true)
    (r : Raises X (.ref C)) (hg : Gl X x) (hdb : (x == ("__debug__" : Str)) = false := by decide) :
    PMk X (.Call (.Name x p) [] [] pos) (fun _ H Q => Q (.ref C) none H) := by
  intro pins s σ H Q I h
  refine wpAny_Call_Name_kw (ld_glob I hg gC ?_ hdb)
  refine PySem.W.callWith_K0 I.kIn kC ?_
  show wpAny _ _ (call (.ref C) []) _ _ _
  obtain ⟨bm, N, nm, qn, bs, hdct, sn, sub, ab, col, dd, k0, k1, k2, k3, k5, mN, hC, hN, hni, T⟩ := exc_obj I.kIn q
  exact wpAny_call_exc_subT F T hC hN hni (fun h' e hm => mk_of I hm r h (I.hok.gone hm.new)) (Nat.zero_le _)
end

/-- // by a divisor of either sign, below 2 ^ 9000 in size -/
def CDivZ (_ j : Int) : Prop := j ≠ 0 ∧ j.natAbs.log2 < 9000
theorem op_fdivZ {X : Cx} : OpR X (binaryOp .FloorDiv) (rI CDivZ fun i j => .int (i.fdiv j)) :=
  opI fun _ _ _ _ _ _ _ hc q => floordiv_int hc.1 q (.inl (PyProof.noPylong_of_log2 hc.2))
/-- isinstance(e, c) where the class of what the suite holds is told by the reading -/
theorem call_isE2 {X : Cx} {a D : Addr} {oe : Obj} {pn : List (Addr × Obj)} {cls : Value} {d : Option Addr} (C : ExcC X.K D) (hz : Zc cls d oe)
    (hf : ∃ vs, oe.data = .fields vs) : CallR (X.suite a ((a, oe) :: pn)) (.builtin "isinstance")
      (fun xs H Q => cls = .ref D ∧ d = none ∧ rIsE X.K D a xs H Q) := by
  intro pins s σ H xs us Q I r h
  obtain ⟨h1, h2, q⟩ := h
  subst h1; subst h2
  exact call_isE C hz hf pins s σ H xs us Q I r q

/-! ### the end of a law, by such a promise -/
theorem law_callG {P : Program} {w : World} {K : PySem.W.Frag} {mg mb : Str → Option Value} {k : Nat} {fa a : Addr} {fd : FuncData}
    {x : Str} {sp : Sp} {s₁ : Shared} {vs : List Value} {ns : List Int} (KX : K.In s₁.heap) (hns : s₁.heap.Ns mainGlobals mg)
    (hb : s₁.heap.Ns builtinsNs mb) (hbb : ∀ x : Str, x ≠ "__name__" → mb x = bootBuiltins x) (hlim : s₁.heap.NoLimit) (hg : s₁.gens = #[])
    (ha : s₁.heap.get? a = some { cls := .type "list", data := .seq vs.toArray }) (hi : IntsAre vs ns) (hl : ns.length ≤ sizeLine)
    (hr : Room k callerA) (F : ∀ base : Heap, K.In base → base.Ns mainGlobals mg → FnG P w K mg base CX0 k fa fd [x] sp)
    (hbind : ∀ (s : Shared) (u : Value), BindsTo s fd ⟨[u], []⟩ [(x, u)])
    (hsp : ∀ H : Hp, Only H → SqL K H a (ns.map V.int) → sp [.ref a] H (fun v _ => v = .bl true) fun _ _ _ => False) :
    codeAny (model P w) callerA (.call (.ref fa) ⟨[.ref a], []⟩)
      (fun r s' => r = .ok (.ret (.bool true)) ∧ OldK s₁.heap s'.heap ∧ s'.os = s₁.os ∧ AllBare s'.gens) s₁ := by
  have rv := vals_ints hi
  have lenV := hi.length
  have core : ∀ H : Hp, Only H → SqL K H a (ns.map V.int) → HOk P w H s₁.heap → (∀ b, H b ≠ none → b = a) →
      (H a ≠ none → K.lookup a = none) → codeAny (model P w) callerA (.call (.ref fa) ⟨[.ref a], []⟩)
      (fun r s' => r = .ok (.ret (.bool true)) ∧ OldK s₁.heap s'.heap ∧ s'.os = s₁.os ∧ AllBare s'.gens) s₁ := by
    intro H hO hS hok hA hK
    have away : ∀ {b : Addr} {o : Obj} {es : Array DictEntry} {ep : Nat}, s₁.heap.get? b = some o → o.data = .dict es ep → H b = none := by
      intro b o es ep e d
      cases q : H b with
      | none => rfl
      | some u =>
        have e' : b = a := hA b (fun z => by rw [q] at z; cases z)
        rw [e', ha] at e
        cases e
        exact nomatch (show Data.seq vs.toArray _ = Data.dict es ep from d)
    have nsK : ∀ {b : Addr} {m : Str → Option Value}, s₁.heap.Ns b m → (hidT s₁.heap H).Ns b m := by
      intro b m z
      obtain ⟨o, es, ep, e, d, r⟩ := z
      exact ⟨o, es, ep, hidT_get e (away e d), d, r⟩
    have hKb : K.In (hidT s₁.heap H) := by
      intro b o e
      refine hidT_get (KX b o e) ?_
      cases q : H b with
      | none => rfl
      | some u =>
        have e' : b = a := hA b (fun z => by rw [q] at z; cases z)
        subst e'
        rw [hK (fun z => by rw [q] at z; cases z)] at e
        cases e
    obtain ⟨mc, l1, l2⟩ := hlim
    have hM : Mod K mg (hidT s₁.heap H) := ⟨hKb, nsK hns, ⟨mb, nsK hb, hbb⟩, mc, nsK l1, l2⟩
    have e0 : Env0 P w K mg (hidT s₁.heap H) callerA [] s₁ H :=
      ⟨rfl, hM, fun b o e => of_hidT e, Nat.le_of_eq (hidT_size _ _), trivial, fun b hb => (nomatch hb), hok, .of_eq hg⟩
    have main := (F _ hKb (nsK hns)).run callerA rfl [] s₁ H ⟨[.ref a], []⟩ [.ref a] [.ref a] _ _ hr e0 (hbind s₁ (.ref a)) (.cons rfl .nil) (hsp H hO hS)
    refine codeAny_mono main fun r s' h => ?_
    match r, h with
    | .error e, h => exact h.elim
    | .ok .next, h => exact h.elim
    | .ok .brk, h => exact h.elim
    | .ok .cont, h => exact h.elim
    | .ok (.ret u), ⟨v, H', os, bare, un, hok', r', q⟩ =>
      have q' : v = .bl true := q
      subst q'
      have eu : u = Value.bool true := r'
      subst eu
      refine ⟨rfl, OldK.of_keep fun b o e => ?_, os, bare⟩
      cases q : H b with
      | none => exact un.keep b o e q (fun z => nomatch z) (fun z => nomatch z)
      | some u =>
        rcases hO b with z | ⟨ob, xs, z⟩
        · rw [q] at z; cases z
        · have e1 := (hok b _ z).1
          have e2 := (hok' b _ (un.frzs b ob _ z)).1
          rw [e] at e1; cases e1
          exact e2
  cases hk : K.lookup a with
  | some o =>
    have e := KX a o hk
    rw [ha] at e
    cases e
    refine core (fun _ => none) (fun _ => .inl rfl) ?_ (fun b u z => nomatch z) (fun b z => absurd rfl z) fun z => absurd rfl z
    exact .inr ⟨_, vs.toArray, _, hk, rfl, rfl, rfl, by rw [List.size_toArray, lenV]; exact hl, by simpa using rv⟩
  | none =>
    have yes : (if a = a then some (HO.frz { cls := .type "list", data := .seq vs.toArray } (.lst (ns.map V.int))) else none) =
        some (HO.frz { cls := .type "list", data := .seq vs.toArray } (.lst (ns.map V.int))) := if_pos rfl
    refine core (fun b => if b = a then some (.frz { cls := .type "list", data := .seq vs.toArray } (.lst (ns.map V.int))) else none)
      (fun b => ?_) (.inl (.inr ⟨_, yes⟩)) (fun b u z => ?_) (fun b z => ?_) fun _ => hk
    · by_cases hb : b = a
      · exact .inr ⟨_, _, if_pos hb⟩
      · exact .inl (if_neg hb)
    · by_cases hb : b = a
      · cases (if_pos hb).symm.trans z
        subst hb
        exact ⟨ha, by rw [List.length_map]; exact hl, vs, _, rv, ha⟩
      · cases (if_neg hb).symm.trans z
    · by_cases hb : b = a
      · exact hb
      · exact absurd (if_neg hb) z

theorem walk_ofG {l : PySem.W.OpenLaw} {n k : Nat} {q : Program} {loose : List Str} {XP : (Str → Option Value) → Heap → Prop}
    {YP : World → Heap → Prop} {d : DefRec} {K : Params → PySem.W.Frag} {sp : World → Sp} {x : Str}
    (hn : l.most = some n) (hn2 : n ≤ sizeLine) (hdf : d.params.defaults = []) (hr : Room k callerA)
    (hY : ∀ (w : World) (h : Heap), YP w h → (K w.params).In h)
    (F : ∀ (w : World) (mg : Str → Option Value) (fa : Addr) (h : Heap), (K w.params).In h → h.Ns mainGlobals mg → mg d.name = some (.ref fa) →
      ∃ fd : FuncData, (∀ (s : Shared) (u : Value), BindsTo s fd ⟨[u], []⟩ [(x, u)]) ∧
        ∀ base : Heap, (K w.params).In base → base.Ns mainGlobals mg → FnG l.prog w (K w.params) mg base CX0 k fa fd [x] (sp w))
    (hsp : ∀ (w : World) (H : Hp) (a : Addr) (ns : List Int), ns.length ≤ n → Only H → SqL (K w.params) H a (ns.map V.int) →
      sp w [.ref a] H (fun v _ => v = .bl true) fun _ _ _ => False) :
    PySem.W.WalkO q loose XP YP l.row.toRowW d [] (fun f vs => PySem.call f vs) := by
  refine Att.attach_call hn hdf fun w s₀ s₁ mg mb fa o pm cd doc a vs ns G Y ho hd hcd hmg hobj hints hlen hg => ?_
  obtain ⟨fd, hb, hF⟩ := F w mg fa _ (hY w _ Y) G.T.g hmg
  exact law_callG (hY w _ Y) G.T.g G.T.b G.T.builtins G.T.nolimit hg hobj hints (Nat.le_trans hlen hn2) hr hF hb fun H hO hS => hsp w H a ns hlen hO hS

/-! ### repr of what is nested -/
mutual
/-- shown by repr within the line, no dicts -/
def fits : PyData → Bool
  | .none => true
  | .bool _ => true
  | .int i => decide (i.natAbs.log2 < 1920)
  | .str x => x.cps.toList.all fun c => decide (c < 16 ^ 8)
  | .list xs => fitsAll xs
  | .tuple xs => fitsAll xs
  | .dict _ => false
def fitsAll : List PyData → Bool
  | [] => true
  | x :: xs => fits x && fitsAll xs
end
mutual
theorem fits_to : ∀ d : PyData, fits d = true → d.showable = true ∧ d.hasDict = false ∧ d.leavesShort 1921 = true
  | .none, _ => ⟨rfl, rfl, rfl⟩
  | .bool _, _ => ⟨rfl, rfl, rfl⟩
  | .int i, h => by
    have h' : i.natAbs.log2 < 1920 := by simpa only [fits, decide_eq_true_eq] using h
    refine ⟨by simpa only [PyData.showable, decide_eq_true_eq] using h', rfl, ?_⟩
    have e := int_text_length_le (k := 1920) (by decide) h'
    simp only [PyData.leavesShort, decide_eq_true_eq]
    show (Str.ofString (toString i)).length ≤ 1921
    rw [PySem.ofString_length]
    exact e
  | .str x, h => ⟨rfl, rfl, by simpa only [fits, PyData.leavesShort] using h⟩
  | .list xs, h => by
    have z := fitsAll_to xs (by simpa only [fits] using h)
    exact ⟨by simpa only [PyData.showable] using z.1, by simpa only [PyData.hasDict] using z.2.1, by simpa only [PyData.leavesShort] using z.2.2⟩
  | .tuple xs, h => by
    have z := fitsAll_to xs (by simpa only [fits] using h)
    exact ⟨by simpa only [PyData.showable] using z.1, by simpa only [PyData.hasDict] using z.2.1, by simpa only [PyData.leavesShort] using z.2.2⟩
  | .dict _, h => by simp [fits] at h
theorem fitsAll_to : ∀ xs : List PyData, fitsAll xs = true → PyData.showableAll xs = true ∧ PyData.hasDictAll xs = false ∧ PyData.leavesShortAll 1921 xs = true
  | [], _ => ⟨rfl, rfl, rfl⟩
  | x :: xs, h => by
    have h' : fits x = true ∧ fitsAll xs = true := by simpa only [fitsAll, Bool.and_eq_true] using h
    have a := fits_to x h'.1
    have b := fitsAll_to xs h'.2
    refine ⟨?_, ?_, ?_⟩
    · simp only [PyData.showableAll, a.1, b.1, Bool.and_self]
    · simp only [PyData.hasDictAll, a.2.1, b.2.1, Bool.or_self]
    · simp only [PyData.leavesShortAll, a.2.2, b.2.2, Bool.and_self]
end
mutual
/-- how many leaves and displays (a text: one more than its signs) -/
def sz : PyData → Nat
  | .none => 1
  | .bool _ => 1
  | .int _ => 1
  | .str x => x.length + 1
  | .list xs => szAll xs + 1
  | .tuple xs => szAll xs + 1
  | .dict _ => 1
def szAll : List PyData → Nat
  | [] => 0
  | x :: xs => sz x + szAll xs
end
mutual
theorem shown_sz : ∀ d : PyData, fits d = true → d.shown.length + 2 ≤ 1930 * sz d
  | .none, _ => by
    have e : (PyData.shown .none).length = 4 := rfl
    simp only [sz]
    omega
  | .bool b, _ => by
    have e : (PyData.shown (.bool b)).length ≤ 5 := by cases b <;> decide
    simp only [sz]
    omega
  | .int i, h => by
    have h' : i.natAbs.log2 < 1920 := by simpa only [fits, decide_eq_true_eq] using h
    have e := int_text_length_le (k := 1920) (by decide) h'
    have e2 : (PyData.shown (.int i)).length ≤ 1921 := by
      show (Str.ofString (toString i)).length ≤ 1921
      rw [PySem.ofString_length]
      exact e
    simp only [sz]
    omega
  | .str x, h => by
    have hx : ∀ c ∈ x.cps.toList, c < 16 ^ 8 := by simpa only [fits, List.all_eq_true, decide_eq_true_eq] using h
    have e := StrLaws.reprText_len x hx
    have e2 : (PyData.shown (.str x)).length = (reprText x).length := rfl
    simp only [sz]
    omega
  | .list xs, h => by
    have h1 := shownAll_sz xs (by simpa only [fits] using h)
    have h2 := listText_len_le (PyData.shownAll xs)
    have h3 := PyData.shownAll_length xs
    simp only [PyData.shown, sz]
    omega
  | .tuple xs, h => by
    have h1 := shownAll_sz xs (by simpa only [fits] using h)
    have h2 := tupleText_len_le (PyData.shownAll xs)
    have h3 := PyData.shownAll_length xs
    simp only [PyData.shown, sz]
    omega
  | .dict _, h => by simp [fits] at h
theorem shownAll_sz : ∀ xs : List PyData, fitsAll xs = true → ((PyData.shownAll xs).map (·.length)).sum + 2 * xs.length ≤ 1930 * szAll xs
  | [], _ => by simp [PyData.shownAll, szAll]
  | x :: xs, h => by
    have h' : fits x = true ∧ fitsAll xs = true := by simpa only [fitsAll, Bool.and_eq_true] using h
    have h1 := shown_sz x h'.1
    have h2 := shownAll_sz xs h'.2
    simp only [PyData.shownAll, szAll, List.map_cons, List.sum_cons, List.length_cons]
    omega
end
theorem fits_len {d : PyData} (h : fits d = true) (hw : sz d ≤ 8000) : d.shown.length ≤ sizeLine := by
  have e := shown_sz d h
  rw [sizeLine_eq]
  omega
section
variable {X : Cx}
/-- repr(x), x a list or a tuple of plain data -/
def rRepr (K : PySem.W.Frag) : List V → Hp → VK → Prop := fun vs H Q =>
  ∃ (a : Addr) (d : PyData), vs = [.ref a] ∧ Dp K H (.ref a) d ∧ fits d = true ∧ sz d ≤ 8000 ∧ d.depth ≤ 60 ∧ Q (.str d.shown) H
theorem call_repr (hG : X.A.guards = some []) (hu : X.A.units + 64 < cLine) : CallR X (.builtin "repr") (rRepr X.K) := by
  intro pins s σ H vs us Q I r h
  obtain ⟨a, d, rfl, hd, hf, hw, hdep, q⟩ := h
  obtain ⟨u, rfl, ru⟩ := vals1 r
  cases ru
  obtain ⟨as, rd⟩ := Dp.reads I d _ _ hd rfl
  have f := fits_to d hf
  refine repr_of_reads' rd f.1 (PyData.noDict_hsm f.2.1) hG (by omega) (fun _ _ e => e) (fun h' u tk hk => ?_) (fits_len hf hw)
  exact ⟨.str d.shown, H, I.kept hk, ⟨_, rfl⟩, q⟩
end
section
variable {X : Cx}
/-- repr(x), x plain data of any kind without dicts -/
def rReprV (K : PySem.W.Frag) : List V → Hp → VK → Prop := fun vs H Q =>
  ∃ (v : V) (d : PyData), vs = [v] ∧ Dp K H v d ∧ fits d = true ∧ sz d ≤ 8000 ∧ d.depth ≤ 60 ∧ Q (.str d.shown) H
theorem call_reprV (hG : X.A.guards = some []) (hu : X.A.units + 64 < cLine) : CallR X (.builtin "repr") (rReprV X.K) := by
  intro pins s σ H vs us Q I r h
  obtain ⟨v, d, rfl, hd, hf, hw, hdep, q⟩ := h
  have hl := fits_len hf hw
  cases hd with
  | non =>
    obtain ⟨u, rfl, ru⟩ := vals1 r
    cases ru
    exact PySem.P.repr_of_none ⟨.str _, H, I.tok _, ⟨_, rfl⟩, q⟩
  | bl b =>
    obtain ⟨u, rfl, ru⟩ := vals1 r
    cases ru
    refine PySem.P.repr_of_bool ⟨.str (PyData.shown (.bool b)), H, I.tok _, ⟨_, rfl⟩, q⟩
  | int i =>
    obtain ⟨u, rfl, t, rfl⟩ := vals1 r
    exact PySem.P.repr_of_int (of_decide_eq_true hf) ⟨.str _, H, I.tok _, ⟨_, rfl⟩, q⟩
  | str x =>
    obtain ⟨u, rfl, t, rfl⟩ := vals1 r
    exact PySem.P.repr_of_str ⟨.str _, H, I.tok _, ⟨_, rfl⟩, q⟩ hl
  | lst a b => exact call_repr hG hu pins s σ H _ us Q I r ⟨_, _, rfl, .lst a b, hf, hw, hdep, q⟩
  | tup a b => exact call_repr hG hu pins s σ H _ us Q I r ⟨_, _, rfl, .tup a b, hf, hw, hdep, q⟩
end
/-! ### data of ints -/
theorem dpAll_ints {K : PySem.W.Frag} {H : Hp} : ∀ fs : List Int, DpAll K H (fs.map V.int) (fs.map PyData.int)
  | [] => .nil
  | f :: fs => .cons (.int f) (dpAll_ints fs)
theorem canLay_ints : ∀ fs : List Int, PyData.canLayAll0 (fs.map PyData.int) = true
  | [] => rfl
  | f :: fs => by
    simp only [List.map_cons, PyData.canLayAll0, PyData.canLay0, canLay_ints fs, Bool.and_self]
theorem depth_ints : ∀ fs : List Int, PyData.depthAll (fs.map PyData.int) = 0
  | [] => rfl
  | f :: fs => by
    simp only [List.map_cons, PyData.depthAll, PyData.depth, depth_ints fs, Nat.max_self]
theorem shaped_ints (fs : List Int) : SeqAt.shaped (.list (fs.map PyData.int)) = true := by
  simp only [SeqAt.shaped, PyData.canLay0, canLay_ints, PyData.depth, depth_ints]
  decide
theorem shaped_intsT (fs : List Int) : SeqAt.shaped (.tuple (fs.map PyData.int)) = true := by
  simp only [SeqAt.shaped, PyData.canLay0, canLay_ints, PyData.depth, depth_ints]
  decide
theorem eqv_ints_nil : ∀ fs : List Int, PyData.eqv (.list (fs.map PyData.int)) (.list []) = fs.isEmpty
  | [] => rfl
  | f :: fs => by
    simp [PyData.eqv, PyData.eqvAll]
theorem snoc_cases {α : Type} (l : List α) : l = [] ∨ ∃ r a, l = r ++ [a] := by
  rcases List.eq_nil_or_concat l with h | ⟨r, a, h⟩
  · exact .inl h
  · exact .inr ⟨r, a, by rw [h, List.concat_eq_append]⟩
theorem vne {a b : V} (e : (!decide (a = b)) = true) : a ≠ b := fun z => by
  rw [decide_eq_true z] at e
  exact absurd e (by decide)
theorem veq {a b : V} (e : ¬ (!decide (a = b)) = true) : a = b := by
  by_cases h : a = b
  · exact h
  · rw [decide_eq_false h] at e
    exact absurd rfl e
theorem vneF {a b : V} (e : ¬ decide (a = b) = true) : a ≠ b := fun z => e (decide_eq_true z)
/-! ### data stay under what is new -/
theorem Same.seqT {K : PySem.W.Frag} {H H' : Hp} {a : Addr} {xs : List V} (e : Same H H') (h : SqT K H a xs) : SqT K H' a xs := by
  rcases h with (h | ⟨o, h⟩) | h
  · exact .inl (.inl (e _ _ h))
  · exact .inl (.inr ⟨o, e _ _ h⟩)
  · exact .inr h
mutual
theorem dp_same {K : PySem.W.Frag} {H H' : Hp} (s : Same H H') : ∀ (d : PyData) (v : V), Dp K H v d → Dp K H' v d
  | .none, _, h => by cases h; exact .non
  | .bool _, _, h => by cases h; exact .bl _
  | .int _, _, h => by cases h; exact .int _
  | .str _, _, h => by cases h; exact .str _
  | .list ds, _, h => by
    cases h with
    | lst a b => exact .lst (s.seq a) (dpAll_same s ds _ b)
  | .tuple ds, _, h => by
    cases h with
    | tup a b => exact .tup (Ev.Same.seqT s a) (dpAll_same s ds _ b)
  | .dict _, _, h => by cases h
theorem dpAll_same {K : PySem.W.Frag} {H H' : Hp} (s : Same H H') : ∀ (ds : List PyData) (vs : List V), DpAll K H vs ds → DpAll K H' vs ds
  | [], _, h => by cases h; exact .nil
  | d :: ds, _, h => by
    cases h with
    | cons a b => exact .cons (dp_same s d _ a) (dpAll_same s ds _ b)
end
theorem nn {c : Prop} [Decidable c] {M N : Prop} (hc : c) (h : N) : if (!decide c) = true then M else N := by
  rw [decide_eq_true hc]
  exact iteF h
/-! ### what the loom is: a dict of a list of ints and two ints -/
def ld (F : Addr) (s t : Int) : List (Key × V) := [(Sum.inr "far", .ref F), (Sum.inr "stirred", .int s), (Sum.inr "times", .int t)]
def Lm (H : Hp) (L F : Addr) : Prop := ∃ (fs : List Int) (s t : Int), H L = some (.dK (ld F s t)) ∧ H F = some (.lst (fs.map V.int)) ∧ fs.length ≤ 63
theorem ld_far {F : Addr} {s t : Int} : valV (ld F s t) (Sum.inr "far") = some (.ref F) := rfl
theorem ld_stirred {F : Addr} {s t : Int} : valV (ld F s t) (Sum.inr "stirred") = some (.int s) := rfl
theorem ld_times {F : Addr} {s t : Int} : valV (ld F s t) (Sum.inr "times") = some (.int t) := rfl
theorem ld_len {F : Addr} {s t : Int} : (ld F s t).length < sizeLine := by
  show 3 < sizeLine
  decide
theorem ld_put {F : Addr} {s t u : Int} : putK (ld F s t) (Sum.inr "times") (.int u) = ld F s u := rfl
/-- all but the loom's two objects is as it was -/
def Kp (L F : Addr) (H H' : Hp) : Prop := ∀ b o, b ≠ L → b ≠ F → H b = some o → H' b = some o
theorem Kp.refl {L F : Addr} (H : Hp) : Kp L F H H := fun _ _ _ _ h => h
theorem Kp.trans {L F : Addr} {H H1 H2 : Hp} (a : Kp L F H H1) (b : Kp L F H1 H2) : Kp L F H H2 := fun c o h1 h2 h => b c o h1 h2 (a c o h1 h2 h)
theorem Kp.new {L F p : Addr} {H : Hp} {o : HO} (h : H p = none) : Kp L F H (upd H p o) := fun b u _ _ e => by
  rw [upd_ne (ne_of_none e h)]
  exact e
theorem Kp.updL {L F : Addr} {H : Hp} {o : HO} : Kp L F H (upd H L o) := fun b u h1 _ e => by
  rw [upd_ne h1]
  exact e
theorem Kp.updF {L F : Addr} {H : Hp} {o : HO} : Kp L F H (upd H F o) := fun b u _ h2 e => by
  rw [upd_ne h2]
  exact e
theorem Lm.new {H : Hp} {L F p : Addr} {o : HO} (h : Lm H L F) (hp : H p = none) : Lm (upd H p o) L F := by
  obtain ⟨fs, s, t, h1, h2, h3⟩ := h
  exact ⟨fs, s, t, by rw [upd_ne (ne_of_none h1 hp)]; exact h1, by rw [upd_ne (ne_of_none h2 hp)]; exact h2, h3⟩
theorem Lm.ne {H : Hp} {L F p : Addr} (h : Lm H L F) (hp : H p = none) : p ≠ L ∧ p ≠ F := by
  obtain ⟨fs, s, t, h1, h2, h3⟩ := h
  refine ⟨fun e => ?_, fun e => ?_⟩
  · rw [e, h1] at hp
    cases hp
  · rw [e, h2] at hp
    cases hp
theorem kp_same {L F : Addr} {H H' : Hp} (s : Same H H') : Kp L F H H' := fun b o _ _ e => s b o e
theorem Lm.same {H H' : Hp} {L F : Addr} (h : Lm H L F) (s : Same H H') : Lm H' L F := by
  obtain ⟨fs, a, b, h1, h2, h3⟩ := h
  exact ⟨fs, a, b, s _ _ h1, s _ _ h2, h3⟩
theorem Lm.tup {H : Hp} {L F t : Addr} {xs : List V} (h : Lm H L F) (ht : H t = some (.tup xs)) : t ≠ L ∧ t ≠ F := by
  obtain ⟨fs, a, b, h1, h2, h3⟩ := h
  exact ⟨ne_of ht h1 (by intro z; cases z), ne_of ht h2 (by intro z; cases z)⟩
theorem Kp.tup {L F t : Addr} {H H' : Hp} {xs : List V} (k : Kp L F H H') (h : Lm H L F) (ht : H t = some (.tup xs)) : H' t = some (.tup xs) := k _ _ (h.tup ht).1 (h.tup ht).2 ht
theorem Kp.seq {K : PySem.W.Frag} {L F a : Addr} {H H' : Hp} {xs : List V} (k : Kp L F H H') (h1 : a ≠ L) (h2 : a ≠ F) (h : SqL K H a xs) : SqL K H' a xs := by
  rcases h with (h | ⟨o, h⟩) | h
  · exact .inl (.inl (k _ _ h1 h2 h))
  · exact .inl (.inr ⟨o, k _ _ h1 h2 h⟩)
  · exact .inr h
theorem cut_ints (ns : List Int) (lo hi : Option Int) : ∃ ms : List Int, cutV (ns.map V.int) lo hi = ms.map V.int ∧ ms.length ≤ ns.length := by
  refine ⟨(ns.drop (HT.sIx ns.length 0 lo)).take (HT.sIx ns.length ns.length hi - HT.sIx ns.length 0 lo), ?_, ?_⟩
  · unfold cutV
    rw [List.length_map, List.map_take, List.map_drop]
  · rw [List.length_take, List.length_drop]
    omega
theorem int_at {ms : List Int} {i : Nat} {x : V} (h : (ms.map V.int)[i]? = some x) : ∃ m, ms[i]? = some m ∧ x = .int m := by
  rw [List.getElem?_map] at h
  cases e : ms[i]? with
  | none => rw [e] at h; cases h
  | some m => rw [e] at h; exact ⟨m, rfl, (Option.some.inj h).symm⟩
theorem same_new {H : Hp} {p : Addr} {o : HO} (h : H p = none) : Same H (upd H p o) := fun b x e => by
  rw [upd_ne (ne_of_none e h)]
  exact e
/-- a new object's own later states leave the rest -/
theorem same_put {H H1 : Hp} {p : Addr} {o : HO} (s : Same H H1) (h : H p = none) : Same H (upd H1 p o) := fun b x e => by
  rw [upd_ne (ne_of_none e h)]
  exact s _ _ e
theorem yes_of {σ : L2.St} {H : Hp} {M N : Hp → Prop} (h : M H) : tYes σ H (fun b H3 => if b = true then M H3 else N H3) := by
  unfold tYes
  show if true = true then M H else N H
  rw [if_pos rfl]
  exact h
theorem absI (a : Int) : (if a < 0 then -a else a) = (a.natAbs : Int) := by
  split <;> omega
end Ev

set_option exponentiation.threshold 256
/-! fractions -/
namespace Ev
def gc (a b : Int) : Nat := Nat.gcd a.natAbs b.natAbs
def dv (a b : Int) : Int := if 0 < b then (gc a b : Int) else -(gc a b : Int)
def fA (a b : Int) : Int := a.fdiv (dv a b)
def fB (a b : Int) : Int := b.fdiv (dv a b)
def Low (x y : Int) : Prop := 0 < y ∧ Nat.gcd x.natAbs y.natAbs = 1
theorem gc_pos {a b : Int} (h : b ≠ 0) : 0 < gc a b := Nat.gcd_pos_of_pos_right _ (by omega)
theorem dv_abs (a b : Int) : (dv a b).natAbs = gc a b := by
  unfold dv
  split <;> omega
theorem dv_ne {a b : Int} (h : b ≠ 0) : dv a b ≠ 0 := by
  have := gc_pos (a := a) h
  have e := dv_abs a b
  omega
theorem dv_dvd_a (a b : Int) : dv a b ∣ a := by
  rw [← Int.natAbs_dvd_natAbs, dv_abs]
  exact Nat.gcd_dvd_left _ _
theorem dv_dvd_b (a b : Int) : dv a b ∣ b := by
  rw [← Int.natAbs_dvd_natAbs, dv_abs]
  exact Nat.gcd_dvd_right _ _
theorem fA_mul {a b : Int} (h : b ≠ 0) : a = dv a b * fA a b := by
  obtain ⟨c, hc⟩ := dv_dvd_a a b
  have e : fA a b = c := by
    have : fA a b = (dv a b * c).fdiv (dv a b) := by rw [← hc]; rfl
    rw [this, Int.mul_fdiv_cancel_left _ (dv_ne h)]
  rw [e]
  exact hc
theorem fB_mul {a b : Int} (h : b ≠ 0) : b = dv a b * fB a b := by
  obtain ⟨c, hc⟩ := dv_dvd_b a b
  have e : fB a b = c := by
    have : fB a b = (dv a b * c).fdiv (dv a b) := by rw [← hc]; rfl
    rw [this, Int.mul_fdiv_cancel_left _ (dv_ne h)]
  rw [e]
  exact hc
theorem fA_le {a b : Int} (h : b ≠ 0) : (fA a b).natAbs ≤ a.natAbs := by
  have e := congrArg Int.natAbs (fA_mul (a := a) h)
  rw [Int.natAbs_mul, dv_abs] at e
  rw [e]
  exact Nat.le_mul_of_pos_left _ (gc_pos h)
theorem fB_le {a b : Int} (h : b ≠ 0) : (fB a b).natAbs ≤ b.natAbs := by
  have e := congrArg Int.natAbs (fB_mul (a := a) h)
  rw [Int.natAbs_mul, dv_abs] at e
  rw [e]
  exact Nat.le_mul_of_pos_left _ (gc_pos h)
theorem low_f {a b : Int} (h : b ≠ 0) : Low (fA a b) (fB a b) := by
  have hp := gc_pos (a := a) h
  refine ⟨?_, ?_⟩
  · have e := fB_mul (a := a) h
    rcases Int.lt_trichotomy 0 b with hb | hb | hb
    · have d : dv a b = (gc a b : Int) := if_pos hb
      rw [d] at e
      rcases Int.lt_trichotomy 0 (fB a b) with z | z | z
      · exact z
      · rw [← z, Int.mul_zero] at e
        exact absurd e h
      · have : (gc a b : Int) * fB a b < 0 := Int.mul_neg_of_pos_of_neg (by omega) z
        omega
    · exact absurd hb.symm h
    · have d : dv a b = -(gc a b : Int) := if_neg (by omega)
      rw [d] at e
      rcases Int.lt_trichotomy 0 (fB a b) with z | z | z
      · exact z
      · rw [← z, Int.mul_zero] at e
        exact absurd e h
      · have : 0 < -(gc a b : Int) * fB a b := Int.mul_pos_of_neg_of_neg (by omega) z
        omega
  · have ea := congrArg Int.natAbs (fA_mul (a := a) h)
    have eb := congrArg Int.natAbs (fB_mul (a := a) h)
    rw [Int.natAbs_mul, dv_abs] at ea eb
    have g : gc a b = Nat.gcd (gc a b * (fA a b).natAbs) (gc a b * (fB a b).natAbs) := by
      conv => lhs; unfold gc; rw [ea, eb]
    rw [Nat.gcd_mul_left] at g
    have : gc a b * 1 = gc a b * Nat.gcd (fA a b).natAbs (fB a b).natAbs := by rw [Nat.mul_one]; exact g
    exact (Nat.eq_of_mul_eq_mul_left hp this).symm
theorem low_inj {x y z u : Int} (h1 : Low x y) (h2 : Low z u) (e : x * u = z * y) : x = z ∧ y = u := by
  obtain ⟨p1, c1⟩ := h1
  obtain ⟨p2, c2⟩ := h2
  have en := congrArg Int.natAbs e
  rw [Int.natAbs_mul, Int.natAbs_mul] at en
  have d1 : y.natAbs ∣ u.natAbs := by
    have : y.natAbs ∣ x.natAbs * u.natAbs := ⟨z.natAbs, by rw [en, Nat.mul_comm]⟩
    exact Nat.Coprime.dvd_of_dvd_mul_left (show Nat.Coprime y.natAbs x.natAbs by rw [Nat.coprime_comm]; exact c1) this
  have d2 : u.natAbs ∣ y.natAbs := by
    have : u.natAbs ∣ z.natAbs * y.natAbs := ⟨x.natAbs, by rw [← en, Nat.mul_comm]⟩
    exact Nat.Coprime.dvd_of_dvd_mul_left (show Nat.Coprime u.natAbs z.natAbs by rw [Nat.coprime_comm]; exact c2) this
  have ey : y = u := by
    have := Nat.dvd_antisymm d1 d2
    omega
  subst ey
  exact ⟨Int.eq_of_mul_eq_mul_right (by omega) e, rfl⟩
end Ev

set_option exponentiation.threshold 256
/-! data of any kind, dicts too, as the heap holds them -/
namespace Ev
open PySem PySem.Spec PyProof.Rows L2
def kD : Key → PyData
  | .inl i => .int i
  | .inr x => .str x
mutual
/-- v is d; lists and dicts stand at places of which Z tells something -/
inductive Dx (K : PySem.W.Frag) (Z : Addr → Prop) (H : Hp) : V → PyData → Prop
  | non : Dx K Z H .non .none
  | bl (b : Bool) : Dx K Z H (.bl b) (.bool b)
  | int (i : Int) : Dx K Z H (.int i) (.int i)
  | str (x : Str) : Dx K Z H (.str x) (.str x)
  | lst {a : Addr} {xs : List V} {ds : List PyData} (e : H a = some (.lst xs)) (z : Z a) (h : DxAll K Z H xs ds) : Dx K Z H (.ref a) (.list ds)
  | tup {a : Addr} {xs : List V} {ds : List PyData} (e : SqT K H a xs) (h : DxAll K Z H xs ds) : Dx K Z H (.ref a) (.tuple ds)
  | dct {a : Addr} {kvs : List (Key × V)} {ds : List (PyData × PyData)} (e : H a = some (.dK kvs)) (z : Z a) (h : DxKv K Z H kvs ds) : Dx K Z H (.ref a) (.dict ds)
inductive DxAll (K : PySem.W.Frag) (Z : Addr → Prop) (H : Hp) : List V → List PyData → Prop
  | nil : DxAll K Z H [] []
  | cons {v : V} {vs : List V} {d : PyData} {ds : List PyData} (h : Dx K Z H v d) (r : DxAll K Z H vs ds) : DxAll K Z H (v :: vs) (d :: ds)
inductive DxKv (K : PySem.W.Frag) (Z : Addr → Prop) (H : Hp) : List (Key × V) → List (PyData × PyData) → Prop
  | nil : DxKv K Z H [] []
  | cons {k : Key} {v : V} {vs : List (Key × V)} {d : PyData} {ds : List (PyData × PyData)} (h : Dx K Z H v d) (r : DxKv K Z H vs ds) : DxKv K Z H ((k, v) :: vs) ((kD k, d) :: ds)
end
/-! ### they stay where nothing of theirs is changed -/
mutual
theorem dx_keep {K : PySem.W.Frag} {Z : Addr → Prop} {H H' : Hp} (hT : ∀ a xs, SqT K H a xs → SqT K H' a xs) (hZ : ∀ a o, Z a → H a = some o → H' a = some o) : ∀ {v : V} {d : PyData}, Dx K Z H v d → Dx K Z H' v d
  | _, _, .non => .non
  | _, _, .bl b => .bl b
  | _, _, .int i => .int i
  | _, _, .str x => .str x
  | _, _, .lst e z h => .lst (hZ _ _ z e) z (dxAll_keep hT hZ h)
  | _, _, .tup e h => .tup (hT _ _ e) (dxAll_keep hT hZ h)
  | _, _, .dct e z h => .dct (hZ _ _ z e) z (dxKv_keep hT hZ h)
theorem dxAll_keep {K : PySem.W.Frag} {Z : Addr → Prop} {H H' : Hp} (hT : ∀ a xs, SqT K H a xs → SqT K H' a xs) (hZ : ∀ a o, Z a → H a = some o → H' a = some o) : ∀ {vs : List V} {ds : List PyData}, DxAll K Z H vs ds → DxAll K Z H' vs ds
  | _, _, .nil => .nil
  | _, _, .cons h r => .cons (dx_keep hT hZ h) (dxAll_keep hT hZ r)
theorem dxKv_keep {K : PySem.W.Frag} {Z : Addr → Prop} {H H' : Hp} (hT : ∀ a xs, SqT K H a xs → SqT K H' a xs) (hZ : ∀ a o, Z a → H a = some o → H' a = some o) : ∀ {vs : List (Key × V)} {ds : List (PyData × PyData)}, DxKv K Z H vs ds → DxKv K Z H' vs ds
  | _, _, .nil => .nil
  | _, _, .cons h r => .cons (dx_keep hT hZ h) (dxKv_keep hT hZ r)
end
theorem dx_same {K : PySem.W.Frag} {Z : Addr → Prop} {H H' : Hp} (s : Same H H') {v : V} {d : PyData} (h : Dx K Z H v d) : Dx K Z H' v d := dx_keep (fun _ _ e => Ev.Same.seqT s e) (fun _ _ _ e => s _ _ e) h
theorem dxAll_same {K : PySem.W.Frag} {Z : Addr → Prop} {H H' : Hp} (s : Same H H') {v : List V} {d : List PyData} (h : DxAll K Z H v d) : DxAll K Z H' v d := dxAll_keep (fun _ _ e => Ev.Same.seqT s e) (fun _ _ _ e => s _ _ e) h
/-- beside the loom's two -/
def ZL (L F : Addr) : Addr → Prop := fun a => a ≠ L ∧ a ≠ F
theorem Kp.sqT {K : PySem.W.Frag} {L F a : Addr} {H H' : Hp} {xs : List V} (k : Kp L F H H') (hM : Lm H L F) (h : SqT K H a xs) : SqT K H' a xs := by
  obtain ⟨fs, s, t, h1, h2, h3⟩ := hM
  rcases h with (h | ⟨o, h⟩) | h
  · exact .inl (.inl (k _ _ (ne_of h h1 (by intro z; cases z)) (ne_of h h2 (by intro z; cases z)) h))
  · exact .inl (.inr ⟨o, k _ _ (ne_of h h1 (by intro z; cases z)) (ne_of h h2 (by intro z; cases z)) h⟩)
  · exact .inr h
theorem dx_kp {K : PySem.W.Frag} {L F : Addr} {H H' : Hp} (k : Kp L F H H') (hM : Lm H L F) {v : V} {d : PyData} (h : Dx K (ZL L F) H v d) : Dx K (ZL L F) H' v d := dx_keep (fun _ _ e => k.sqT hM e) (fun _ _ z e => k _ _ z.1 z.2 e) h
theorem dxAll_kp {K : PySem.W.Frag} {L F : Addr} {H H' : Hp} (k : Kp L F H H') (hM : Lm H L F) {v : List V} {d : List PyData} (h : DxAll K (ZL L F) H v d) : DxAll K (ZL L F) H' v d := dxAll_keep (fun _ _ e => k.sqT hM e) (fun _ _ z e => k _ _ z.1 z.2 e) h
/-! ### plain data -/
mutual
theorem dp_of_dx {K : PySem.W.Frag} {Z : Addr → Prop} {H : Hp} : ∀ {v : V} {d : PyData}, Dx K Z H v d → d.hasDict = false → Dp K H v d
  | _, _, .non, _ => .non
  | _, _, .bl b, _ => .bl b
  | _, _, .int i, _ => .int i
  | _, _, .str x, _ => .str x
  | _, _, .lst e z h, n => .lst (SqL.of e) (dpAll_of_dx h (by simpa only [PyData.hasDict] using n))
  | _, _, .tup e h, n => .tup e (dpAll_of_dx h (by simpa only [PyData.hasDict] using n))
  | _, _, .dct e z h, n => by simp only [PyData.hasDict] at n; cases n
theorem dpAll_of_dx {K : PySem.W.Frag} {Z : Addr → Prop} {H : Hp} : ∀ {vs : List V} {ds : List PyData}, DxAll K Z H vs ds → PyData.hasDictAll ds = false → DpAll K H vs ds
  | _, _, .nil, _ => .nil
  | _, _, .cons h r, n => by
    simp only [PyData.hasDictAll, Bool.or_eq_false_iff] at n
    exact .cons (dp_of_dx h n.1) (dpAll_of_dx r n.2)
end
/-! ### as the library reads them -/
section
variable {X : Cx} {pins : List (Addr × Obj)} {σ : L2.St} {H : Hp} {s : Shared} {Z : Addr → Prop}
theorem kv_vals : ∀ {kvs : List (Key × V)} {ws : List (Key × Value)}, KV kvs ws → Vals (kvs.map (·.2)) (ws.map (·.2))
  | _, _, .nil => .nil
  | _, _, .cons h r => .cons h.2 (kv_vals r)
theorem key_reads {h : Heap} {k : Key} {u : Value} (e : keyIs k u = true) : Reads h u (kD k) [] := by
  rcases keyIs_shape e with ⟨i, t, rfl, rfl⟩ | ⟨x, t, rfl, rfl⟩
  · exact .int i t
  · exact .str x t
theorem keys_reads {h : Heap} {P : Program} {w : World} : ∀ {kvs : List (Key × V)} {ws : List (Key × Value)} {es : List DictEntry} {ds : List (PyData × PyData)}, KV kvs ws → Pairs (mixKind P w) es ws → DxKv X.K Z H kvs ds →
    ReadsAll h (es.map (·.key)) (ds.map (·.1)) []
  | _, _, _, _, .nil, .nil, .nil => .nil
  | _, _, _, _, .cons hk r, .cons he hv q, .cons hd t => by
    refine .cons (as := []) (bs := []) (key_reads ?_) (keys_reads r q t)
    rw [mixKind_is] at he
    have e1 := hk.1
    show keyIs _ _ = true
    dsimp only at e1 ⊢
    rw [e1]
    exact he
mutual
theorem dx_reads (I : Inv X pins σ H s) : ∀ {v : V} {d : PyData} {u : Value}, Dx X.K Z H v d → RelV v u → ∃ as, Reads s.heap u d as
  | _, _, _, .non, r => by cases r; exact ⟨_, .none⟩
  | _, _, _, .bl b, r => by cases r; exact ⟨_, .bool b⟩
  | _, _, _, .int i, r => by obtain ⟨t, rfl⟩ := r; exact ⟨_, .int i t⟩
  | _, _, _, .str x, r => by obtain ⟨t, rfl⟩ := r; exact ⟨_, .str x t⟩
  | _, _, _, .lst e z h, r => by
    cases r
    obtain ⟨its, rv, ⟨o, n, ho, hc, _, hd⟩, _⟩ := I.list (SqL.of e)
    obtain ⟨as, hr⟩ := dxAll_reads I h rv
    exact ⟨_, .list ho hc hd hr⟩
  | _, _, _, .tup e h, r => by
    cases r
    obtain ⟨its, rv, ⟨o, ho, hc, n, hd⟩, _⟩ := I.tuple e
    obtain ⟨as, hr⟩ := dxAll_reads I h rv
    exact ⟨_, .tuple ho hc hd hr⟩
  | _, _, _, .dct e z h, r => by
    cases r
    obtain ⟨_, _, ws, rk, o, es, ep, ho, hx, hd, _, hp, _⟩ := dk_of I.hok e
    obtain ⟨as, hr⟩ := dxKv_reads I h rk hp
    exact ⟨_, .dict ho hx.1 hd (keys_reads rk hp h) hr⟩
theorem dxAll_reads (I : Inv X pins σ H s) : ∀ {vs : List V} {ds : List PyData} {us : List Value}, DxAll X.K Z H vs ds → Vals vs us → ∃ as, ReadsAll s.heap us ds as
  | _, _, _, .nil, r => by cases r; exact ⟨_, .nil⟩
  | _, _, _, .cons h t, .cons r1 r2 => by
    obtain ⟨as, q1⟩ := dx_reads I h r1
    obtain ⟨bs, q2⟩ := dxAll_reads I t r2
    exact ⟨_, .cons q1 q2⟩
theorem dxKv_reads (I : Inv X pins σ H s) {P : Program} {w : World} : ∀ {kvs : List (Key × V)} {ds : List (PyData × PyData)} {ws : List (Key × Value)} {es : List DictEntry}, DxKv X.K Z H kvs ds → KV kvs ws → Pairs (mixKind P w) es ws →
    ∃ as, ReadsAll s.heap (es.map (·.val)) (ds.map (·.2)) as
  | _, _, _, _, .nil, .nil, .nil => ⟨_, .nil⟩
  | _, _, _, _, .cons h t, .cons hk r, .cons he hv q => by
    obtain ⟨as, q1⟩ := dx_reads I h hk.2
    obtain ⟨bs, q2⟩ := dxKv_reads I t r q
    refine ⟨_, .cons (as := as) (bs := bs) ?_ q2⟩
    dsimp only
    rw [hv]
    exact q1
end
/-! ### as repr shows them -/
/-- what a shown part leaves behind: deeper places than it are not among its own -/
def RK (X : Cx) (s : Shared) (n : Nat) (u : Value) (t : Str) : Prop := ∃ bs, ReadAtMost s.heap n bs ∧ ReprK X.prog X.w bs s.heap n u t
def RKs (X : Cx) (s : Shared) (n : Nat) (us : List Value) (ts : List Str) : Prop := ∃ bs, ReadAtMost s.heap n bs ∧ ReprAllK X.prog X.w bs s.heap n us ts
theorem RKs.cons {n m : Nat} {u : Value} {us : List Value} {t : Str} {ts : List Str} (a : RK X s n u t) (b : RKs X s m us ts) : RKs X s (max n m) (u :: us) (t :: ts) := by
  obtain ⟨p, hp, kp⟩ := a
  obtain ⟨q, hq, kq⟩ := b
  have l1 : n ≤ max n m := Nat.le_max_left n m
  have l2 : m ≤ max n m := Nat.le_max_right n m
  refine ⟨p ++ q, (hp.mono l1).append (hq.mono l2), .cons ((kp.more fun b hb => List.mem_append_left q hb).level_le l1) (kq.more_le (fun b hb => List.mem_append_right p hb) l2)⟩
theorem RKs.nil : RKs X s 0 [] [] := ⟨[], fun _ h => (nomatch h), .nil⟩
theorem key_repr {k : Key} {u : Value} (e : keyIs k u = true) (hs : (kD k).showable = true) (hz : (kD k).shown.length ≤ sizeLine) : RK X s (kD k).depth u (kD k).shown := by
  rcases keyIs_shape e with ⟨i, t, rfl, rfl⟩ | ⟨x, t, rfl, rfl⟩
  · have hs' : i.natAbs.log2 < 1920 := by simpa only [kD, PyData.showable, decide_eq_true_eq] using hs
    simp only [kD, PyData.shown]
    exact ⟨[], fun _ h => (nomatch h), .of_is (ReprIs.int t hs') _ _ _⟩
  · simp only [kD, PyData.shown] at hz ⊢
    exact ⟨[], fun _ h => (nomatch h), .of_is (ReprIs.str x t hz) _ _ _⟩
theorem ents_more {P : Program} {w : World} {h₀ : Heap} {as as' : List Addr} {d d' : Nat} (hsub : ∀ b ∈ as, b ∈ as') (hd : d ≤ d') : ∀ {es : List DictEntry} {ps : List Str}, ReprEntriesK P w as h₀ d es ps → ReprEntriesK P w as' h₀ d' es ps
  | _, _, .nil => .nil
  | _, _, .cons a b r => .cons ((a.more hsub).level_le hd) ((b.more hsub).level_le hd) (ents_more hsub hd r)
mutual
theorem dx_repr (I : Inv X pins σ H s) : ∀ {v : V} {d : PyData} {u : Value}, Dx X.K Z H v d → RelV v u → d.showable = true → d.shown.length ≤ sizeLine → RK X s d.depth u d.shown
  | _, _, _, .non, r, _, _ => by
    cases r
    simp only [PyData.shown]
    exact ⟨[], fun _ h => (nomatch h), .of_is ReprIs.none _ _ _⟩
  | _, _, _, .bl b, r, _, _ => by
    cases r
    simp only [PyData.shown]
    exact ⟨[], fun _ h => (nomatch h), .of_is (ReprIs.bool b) _ _ _⟩
  | _, _, _, .int i, r, hs, _ => by
    obtain ⟨t, rfl⟩ := r
    have hs' : i.natAbs.log2 < 1920 := by simpa only [PyData.showable, decide_eq_true_eq] using hs
    simp only [PyData.shown]
    exact ⟨[], fun _ h => (nomatch h), .of_is (ReprIs.int t hs') _ _ _⟩
  | _, _, _, .str x, r, _, hz => by
    obtain ⟨t, rfl⟩ := r
    simp only [PyData.shown] at hz ⊢
    exact ⟨[], fun _ h => (nomatch h), .of_is (ReprIs.str x t hz) _ _ _⟩
  | _, _, _, .lst (a := a) (ds := ds) e z h, r, hs, hz => by
    cases r
    have rd := dx_reads I (.lst e z h) (u := .ref a) rfl
    obtain ⟨its, rv, ⟨o, n, ho, hc, _, hd⟩, _⟩ := I.list (SqL.of e)
    simp only [PyData.shown] at hz
    obtain ⟨bs, hb, hk⟩ := dxAll_repr I h rv (by simpa only [PyData.showable] using hs) fun t ht => Nat.le_trans (listText_mem_le ht) hz
    obtain ⟨as, rd⟩ := rd
    simp only [PyData.shown, PyData.depth]
    have own : a ∉ bs := not_mem_of_deeper rd (by simp only [PyData.depth]; omega) hb
    refine ⟨a :: bs, ?_, ?_⟩
    · have := ReadAtMost.cons rd (by simp only [PyData.depth]; omega) hb
      simpa only [PyData.depth] using this
    · cases its with
      | nil =>
        cases rv
        cases h
        simp only [PyData.shownAll, listText_nil]
        exact ReprK.listEmpty ho hc hd
      | cons x l => exact ReprK.list ho hc hd own (by simpa using hk.length_eq) fun i y hy => hk.item i y (by simpa using hy)
  | _, _, _, .tup (a := a) e h, r, hs, hz => by
    cases r
    have rd := dx_reads I (.tup e h) (u := .ref a) rfl
    obtain ⟨its, rv, ⟨o, ho, hc, n, hd⟩, _⟩ := I.tuple e
    simp only [PyData.shown] at hz
    obtain ⟨bs, hb, hk⟩ := dxAll_repr I h rv (by simpa only [PyData.showable] using hs) fun t ht => Nat.le_trans (tupleText_mem_le ht) hz
    obtain ⟨as, rd⟩ := rd
    simp only [PyData.shown, PyData.depth]
    have own : a ∉ bs := not_mem_of_deeper rd (by simp only [PyData.depth]; omega) hb
    refine ⟨a :: bs, ?_, ReprK.tuple ho hc hd own hk⟩
    have := ReadAtMost.cons rd (by simp only [PyData.depth]; omega) hb
    simpa only [PyData.depth] using this
  | _, _, _, .dct (a := a) (ds := ds) e z h, r, hs, hz => by
    cases r
    have rd := dx_reads I (.dct e z h) (u := .ref a) rfl
    obtain ⟨_, sys, ws, rk, o, es, ep, ho, hx, hd, _, hp, _⟩ := dk_of I.hok e
    simp only [PyData.shown] at hz
    obtain ⟨bs, hb, hk⟩ := dxKv_repr I h rk hp (by simpa only [PyData.showable] using hs) fun t ht => Nat.le_trans (dictText_mem_le ht) hz
    obtain ⟨as, rd⟩ := rd
    simp only [PyData.shown, PyData.depth]
    have own : a ∉ bs := not_mem_of_deeper rd (by simp only [PyData.depth]; omega) hb
    refine ⟨a :: bs, ?_, ReprK.dict ho hx.1 hd sys own hk⟩
    have := ReadAtMost.cons rd (by simp only [PyData.depth]; omega) hb
    simpa only [PyData.depth] using this
theorem dxAll_repr (I : Inv X pins σ H s) : ∀ {vs : List V} {ds : List PyData} {us : List Value}, DxAll X.K Z H vs ds → Vals vs us → PyData.showableAll ds = true → (∀ t ∈ PyData.shownAll ds, t.length ≤ sizeLine) → RKs X s (PyData.depthAll ds) us (PyData.shownAll ds)
  | _, _, _, .nil, r, _, _ => by
    cases r
    simp only [PyData.shownAll, PyData.depthAll]
    exact RKs.nil
  | _, _, _, .cons h t, .cons r1 r2, hs, hz => by
    simp only [PyData.showableAll, Bool.and_eq_true] at hs
    simp only [PyData.shownAll, PyData.depthAll] at hz ⊢
    exact RKs.cons (dx_repr I h r1 hs.1 (hz _ (List.mem_cons_self ..))) (dxAll_repr I t r2 hs.2 fun t ht => hz t (List.mem_cons_of_mem _ ht))
theorem dxKv_repr (I : Inv X pins σ H s) {P : Program} {w : World} : ∀ {kvs : List (Key × V)} {ds : List (PyData × PyData)} {ws : List (Key × Value)} {es : List DictEntry}, DxKv X.K Z H kvs ds → KV kvs ws → Pairs (mixKind P w) es ws →
    PyData.showableKv ds = true → (∀ t ∈ PyData.shownKv ds, t.length ≤ sizeLine) → ∃ bs, ReadAtMost s.heap (PyData.depthKv ds) bs ∧ ReprEntriesK X.prog X.w bs s.heap (PyData.depthKv ds) es (PyData.shownKv ds)
  | _, _, _, _, .nil, .nil, .nil, _, _ => by
    simp only [PyData.shownKv]
    exact ⟨[], fun _ h => (nomatch h), .nil⟩
  | _, _, _, _, .cons (k := k) (d := d) (ds := ds) h t, .cons hk r, .cons (e := e) he hv q, hs, hz => by
    simp only [PyData.showableKv, Bool.and_eq_true] at hs
    simp only [PyData.shownKv, PyData.depthKv] at hz ⊢
    have lz := hz _ (List.mem_cons_self ..)
    rw [strLen_append, strLen_append] at lz
    have e1 := hk.1
    have e2 := hk.2
    dsimp only at e1 e2
    rw [mixKind_is, ← e1] at he
    obtain ⟨p, hp, kp⟩ := key_repr (X := X) (s := s) he hs.1.1 (by omega)
    obtain ⟨q1, hq, kq⟩ := dx_repr I h e2 hs.1.2 (by omega)
    obtain ⟨q2, hr, kr⟩ := dxKv_repr I t r q hs.2 fun t ht => hz t (List.mem_cons_of_mem _ ht)
    refine ⟨p ++ (q1 ++ q2), ?_, ?_⟩
    · exact (hp.mono (by omega)).append ((hq.mono (by omega)).append (hr.mono (by omega)))
    · rw [← hv] at kq
      refine .cons ((kp.more fun b hb => List.mem_append_left _ hb).level_le (by omega)) ((kq.more fun b hb => List.mem_append_right _ (List.mem_append_left _ hb)).level_le (by omega)) ?_
      exact ents_more (fun b hb => List.mem_append_right _ (List.mem_append_right _ hb)) (by omega) kr
end
end
section
variable {X : Cx}
/-- repr(x), x data of any kind -/
def rReprX (K : PySem.W.Frag) : List V → Hp → VK → Prop := fun vs H Q =>
  ∃ (v : V) (d : PyData) (Z : Addr → Prop), vs = [v] ∧ Dx K Z H v d ∧ d.showable = true ∧ d.shown.length ≤ sizeLine ∧ d.depth ≤ 60 ∧ Q (.str d.shown) H
theorem call_reprX (hG : X.A.guards = some []) (hu : X.A.units + 64 < cLine) : CallR X (.builtin "repr") (rReprX X.K) := by
  intro pins s σ H vs us Q I r h
  obtain ⟨v, d, Z, rfl, hx, hs, hz, hdep, q⟩ := h
  have keep : ∀ (h' : Heap) (u : Tok) (tk : Nat), (∀ b o, s.heap.get? b = some o → h'.get? b = some o) → EP X pins σ Q (.str d.shown u) { s with heap := h', toks := tk } :=
    fun h' u tk hk => ⟨.str d.shown, H, I.kept hk, ⟨_, rfl⟩, q⟩
  cases hx with
  | non =>
    obtain ⟨u, rfl, ru⟩ := vals1 r
    cases ru
    exact PySem.P.repr_of_none ⟨.str _, H, I.tok _, ⟨_, rfl⟩, q⟩
  | bl b =>
    obtain ⟨u, rfl, ru⟩ := vals1 r
    cases ru
    refine PySem.P.repr_of_bool ⟨.str (PyData.shown (.bool b)), H, I.tok _, ⟨_, rfl⟩, q⟩
  | int i =>
    obtain ⟨u, rfl, t, rfl⟩ := vals1 r
    have hs' : i.natAbs.log2 < 1920 := by simpa only [PyData.showable, decide_eq_true_eq] using hs
    exact PySem.P.repr_of_int hs' ⟨.str _, H, I.tok _, ⟨_, rfl⟩, q⟩
  | str x =>
    obtain ⟨u, rfl, t, rfl⟩ := vals1 r
    exact PySem.P.repr_of_str ⟨.str _, H, I.tok _, ⟨_, rfl⟩, q⟩ hz
  | lst e z h =>
    obtain ⟨u, rfl, ru⟩ := vals1 r
    cases ru
    rename_i a xs ds
    obtain ⟨as, rd⟩ := dx_reads I (.lst e z h) (u := .ref a) rfl
    obtain ⟨its, rv, ⟨o, n, ho, hc, _, hd⟩, _⟩ := I.list (SqL.of e)
    simp only [PyData.shown, PyData.depth] at hz hdep keep
    obtain ⟨bs, hb, hk⟩ := dxAll_repr I h rv (by simpa only [PyData.showable] using hs) fun t ht => Nat.le_trans (listText_mem_le ht) hz
    have own : a ∉ bs := not_mem_of_deeper rd (by simp only [PyData.depth]; omega) hb
    refine call_repr_slot (by omega) ⟨o, ho, hc⟩ F.slot_list_repr.toG ?_
    cases its with
    | nil =>
      cases rv
      cases h
      simp only [PyData.shownAll, listText_nil] at keep
      exact call_list_repr_empty ⟨o, ho, hc⟩ ho hd ⟨_, _, rfl, keep s.heap _ _ fun _ _ e => e⟩
    | cons x l =>
      exact call_list_reprK ho hc hd own (by simpa using hk.length_eq) (fun i y hy => hk.item i y (by simpa using hy)) hG (fun b _ => Clear.nil b) (by show X.A.units + 1 + (_ + 1) < cLine; omega) (fun _ _ e => e) (fun h' u tk hk' => ⟨_, _, rfl, keep h' u tk hk'⟩) hz
  | tup e h =>
    obtain ⟨u, rfl, ru⟩ := vals1 r
    cases ru
    rename_i a xs ds
    obtain ⟨as, rd⟩ := dx_reads I (Dx.tup (Z := Z) e h) (u := .ref a) rfl
    obtain ⟨its, rv, ⟨o, ho, hc, n, hd⟩, _⟩ := I.tuple e
    simp only [PyData.shown, PyData.depth] at hz hdep keep
    obtain ⟨bs, hb, hk⟩ := dxAll_repr I h rv (by simpa only [PyData.showable] using hs) fun t ht => Nat.le_trans (tupleText_mem_le ht) hz
    have own : a ∉ bs := not_mem_of_deeper rd (by simp only [PyData.depth]; omega) hb
    refine call_repr_slot (by omega) ⟨o, ho, hc⟩ F.slot_tuple_repr ?_
    exact call_tuple_reprK ho hc hd own hk hG (fun b _ => Clear.nil b) (by show X.A.units + 1 + (_ + 1) < cLine; omega) (fun _ _ e => e) (fun h' u tk hk' => ⟨_, _, rfl, keep h' u tk hk'⟩) hz
  | dct e z h =>
    obtain ⟨u, rfl, ru⟩ := vals1 r
    cases ru
    rename_i a kvs ds
    obtain ⟨as, rd⟩ := dx_reads I (.dct e z h) (u := .ref a) rfl
    obtain ⟨_, sys, ws, rk, o, es, ep, ho, hx, hd, _, hp, _⟩ := dk_of I.hok e
    simp only [PyData.shown, PyData.depth] at hz hdep keep
    obtain ⟨bs, hb, hk⟩ := dxKv_repr I h rk hp (by simpa only [PyData.showable] using hs) fun t ht => Nat.le_trans (dictText_mem_le ht) hz
    have own : a ∉ bs := not_mem_of_deeper rd (by simp only [PyData.depth]; omega) hb
    refine call_repr_slot (by omega) ⟨o, ho, hx.1⟩ F.slot_dict_repr ?_
    exact call_dict_reprK ho hx.1 hd sys own hk hG (fun b _ => Clear.nil b) (by show X.A.units + 1 + (_ + 1) < cLine; omega) (fun _ _ e => e) (fun h' u tk hk' => ⟨_, _, rfl, keep h' u tk hk'⟩) hz
end
end Ev

set_option exponentiation.threshold 256
/-! data of any kind: kinds, parts, how long they are shown -/
namespace Ev
open PySem PySem.Spec PyProof.Rows L2
/-! ### kinds -/
def tyN : PyData → String
  | .none => "NoneType"
  | .bool _ => "bool"
  | .int _ => "int"
  | .str _ => "str"
  | .list _ => "list"
  | .tuple _ => "tuple"
  | .dict _ => "dict"
def isInt : PyData → Bool
  | .int _ => true
  | .bool _ => true
  | _ => false
def isBool : PyData → Bool
  | .bool _ => true
  | _ => false
def isStr : PyData → Bool
  | .str _ => true
  | _ => false
def isTup : PyData → Bool
  | .tuple _ => true
  | _ => false
def isLst : PyData → Bool
  | .list _ => true
  | _ => false
def isDct : PyData → Bool
  | .dict _ => true
  | _ => false
section
variable {K : PySem.W.Frag} {Z : Addr → Prop} {H : Hp}
theorem kit_int : ∀ d : PyData, PySem.W.kitOne K (.type (tyN d)) (.type "int") = some (isInt d)
  | .none => kit_ty (show kitB "NoneType" "int" = some false by decide +kernel)
  | .bool _ => kit_ty (show kitB "bool" "int" = some true by decide +kernel)
  | .int _ => kit_ty (show kitB "int" "int" = some true by decide +kernel)
  | .str _ => kit_ty (show kitB "str" "int" = some false by decide +kernel)
  | .list _ => kit_ty (show kitB "list" "int" = some false by decide +kernel)
  | .tuple _ => kit_ty (show kitB "tuple" "int" = some false by decide +kernel)
  | .dict _ => kit_ty (show kitB "dict" "int" = some false by decide +kernel)
theorem kit_bool : ∀ d : PyData, PySem.W.kitOne K (.type (tyN d)) (.type "bool") = some (isBool d)
  | .none => kit_ty (show kitB "NoneType" "bool" = some false by decide +kernel)
  | .bool _ => kit_ty (show kitB "bool" "bool" = some true by decide +kernel)
  | .int _ => kit_ty (show kitB "int" "bool" = some false by decide +kernel)
  | .str _ => kit_ty (show kitB "str" "bool" = some false by decide +kernel)
  | .list _ => kit_ty (show kitB "list" "bool" = some false by decide +kernel)
  | .tuple _ => kit_ty (show kitB "tuple" "bool" = some false by decide +kernel)
  | .dict _ => kit_ty (show kitB "dict" "bool" = some false by decide +kernel)
theorem kit_str : ∀ d : PyData, PySem.W.kitOne K (.type (tyN d)) (.type "str") = some (isStr d)
  | .none => kit_ty (show kitB "NoneType" "str" = some false by decide +kernel)
  | .bool _ => kit_ty (show kitB "bool" "str" = some false by decide +kernel)
  | .int _ => kit_ty (show kitB "int" "str" = some false by decide +kernel)
  | .str _ => kit_ty (show kitB "str" "str" = some true by decide +kernel)
  | .list _ => kit_ty (show kitB "list" "str" = some false by decide +kernel)
  | .tuple _ => kit_ty (show kitB "tuple" "str" = some false by decide +kernel)
  | .dict _ => kit_ty (show kitB "dict" "str" = some false by decide +kernel)
theorem kit_tup : ∀ d : PyData, PySem.W.kitOne K (.type (tyN d)) (.type "tuple") = some (isTup d)
  | .none => kit_ty (show kitB "NoneType" "tuple" = some false by decide +kernel)
  | .bool _ => kit_ty (show kitB "bool" "tuple" = some false by decide +kernel)
  | .int _ => kit_ty (show kitB "int" "tuple" = some false by decide +kernel)
  | .str _ => kit_ty (show kitB "str" "tuple" = some false by decide +kernel)
  | .list _ => kit_ty (show kitB "list" "tuple" = some false by decide +kernel)
  | .tuple _ => kit_ty (show kitB "tuple" "tuple" = some true by decide +kernel)
  | .dict _ => kit_ty (show kitB "dict" "tuple" = some false by decide +kernel)
theorem kit_lst : ∀ d : PyData, PySem.W.kitOne K (.type (tyN d)) (.type "list") = some (isLst d)
  | .none => kit_ty (show kitB "NoneType" "list" = some false by decide +kernel)
  | .bool _ => kit_ty (show kitB "bool" "list" = some false by decide +kernel)
  | .int _ => kit_ty (show kitB "int" "list" = some false by decide +kernel)
  | .str _ => kit_ty (show kitB "str" "list" = some false by decide +kernel)
  | .list _ => kit_ty (show kitB "list" "list" = some true by decide +kernel)
  | .tuple _ => kit_ty (show kitB "tuple" "list" = some false by decide +kernel)
  | .dict _ => kit_ty (show kitB "dict" "list" = some false by decide +kernel)
theorem kit_dct : ∀ d : PyData, PySem.W.kitOne K (.type (tyN d)) (.type "dict") = some (isDct d)
  | .none => kit_ty (show kitB "NoneType" "dict" = some false by decide +kernel)
  | .bool _ => kit_ty (show kitB "bool" "dict" = some false by decide +kernel)
  | .int _ => kit_ty (show kitB "int" "dict" = some false by decide +kernel)
  | .str _ => kit_ty (show kitB "str" "dict" = some false by decide +kernel)
  | .list _ => kit_ty (show kitB "list" "dict" = some false by decide +kernel)
  | .tuple _ => kit_ty (show kitB "tuple" "dict" = some false by decide +kernel)
  | .dict _ => kit_ty (show kitB "dict" "dict" = some true by decide +kernel)
theorem dx_ty {v : V} {d : PyData} (h : Dx K Z H v d) : TyX K H v (.type (tyN d)) := by
  cases h with
  | non => exact .base .non
  | bl b => exact .base (.bl b)
  | int i => exact .base (.int i)
  | str x => exact .base (.str x)
  | lst e z h => exact .base (.lst e)
  | tup e h =>
    rcases e with (e | ⟨o, e⟩) | ⟨o, its, n, e, c, _⟩
    · exact .base (.tup e)
    · exact .fTuple e
    · exact .kTuple e c
  | dct e z h => exact .base (.dK e)
/-! ### parts -/
theorem dx_tup {v : V} {ds : List PyData} (h : Dx K Z H v (.tuple ds)) : ∃ a xs, v = .ref a ∧ SqT K H a xs ∧ DxAll K Z H xs ds := by
  cases h with
  | tup e h => exact ⟨_, _, rfl, e, h⟩
theorem dx_lst {v : V} {ds : List PyData} (h : Dx K Z H v (.list ds)) : ∃ a xs, v = .ref a ∧ H a = some (.lst xs) ∧ Z a ∧ DxAll K Z H xs ds := by
  cases h with
  | lst e z h => exact ⟨_, _, rfl, e, z, h⟩
theorem dx_int {v : V} {i : Int} (h : Dx K Z H v (.int i)) : v = .int i := by cases h; rfl
theorem dx_str {v : V} {x : Str} (h : Dx K Z H v (.str x)) : v = .str x := by cases h; rfl
theorem dx_bool {v : V} {b : Bool} (h : Dx K Z H v (.bool b)) : v = .bl b := by cases h; rfl
theorem dx_none {v : V} (h : Dx K Z H v .none) : v = .non := by cases h; rfl
theorem dxAll_len : ∀ {vs : List V} {ds : List PyData}, DxAll K Z H vs ds → vs.length = ds.length
  | _, _, .nil => rfl
  | _, _, .cons _ r => congrArg (· + 1) (dxAll_len r)
theorem dxAll_get : ∀ {vs : List V} {ds : List PyData} {i : Nat} {v : V}, DxAll K Z H vs ds → vs[i]? = some v → ∃ d, ds[i]? = some d ∧ Dx K Z H v d
  | _, _, _, _, .nil, e => by simp at e
  | _, _, 0, _, .cons h _, e => by
    simp at e
    subst e
    exact ⟨_, rfl, h⟩
  | _, _, i + 1, _, .cons _ r, e => dxAll_get (i := i) r (by simpa using e)
theorem dxAll_at : ∀ {vs : List V} {ds : List PyData} {i : Nat} {d : PyData}, DxAll K Z H vs ds → ds[i]? = some d → ∃ v, vs[i]? = some v ∧ Dx K Z H v d
  | _, _, _, _, .nil, e => by simp at e
  | _, _, 0, _, .cons h _, e => by
    simp at e
    subst e
    exact ⟨_, rfl, h⟩
  | _, _, i + 1, _, .cons _ r, e => dxAll_at (i := i) r (by simpa using e)
theorem dxAll_app : ∀ {vs ws : List V} {ds es : List PyData}, DxAll K Z H vs ds → DxAll K Z H ws es → DxAll K Z H (vs ++ ws) (ds ++ es)
  | _, _, _, _, .nil, q => q
  | _, _, _, _, .cons h r, q => .cons h (dxAll_app r q)
theorem dxAll_drop : ∀ (n : Nat) {vs : List V} {ds : List PyData}, DxAll K Z H vs ds → DxAll K Z H (vs.drop n) (ds.drop n)
  | 0, _, _, r => r
  | n + 1, _, _, .nil => .nil
  | n + 1, _, _, .cons _ r => dxAll_drop n r
theorem dxAll_take : ∀ (n : Nat) {vs : List V} {ds : List PyData}, DxAll K Z H vs ds → DxAll K Z H (vs.take n) (ds.take n)
  | 0, _, _, _ => .nil
  | n + 1, _, _, .nil => .nil
  | n + 1, _, _, .cons h r => .cons h (dxAll_take n r)
def cutD (ds : List PyData) (lo hi : Option Int) : List PyData :=
  (ds.drop (HT.sIx ds.length 0 lo)).take (HT.sIx ds.length ds.length hi - HT.sIx ds.length 0 lo)
theorem dxAll_cut {vs : List V} {ds : List PyData} (h : DxAll K Z H vs ds) (lo hi : Option Int) : DxAll K Z H (cutV vs lo hi) (cutD ds lo hi) := by
  unfold cutV cutD
  rw [dxAll_len h]
  exact dxAll_take _ (dxAll_drop _ h)
theorem dxAll_rev : ∀ {vs : List V} {ds : List PyData}, DxAll K Z H vs ds → DxAll K Z H vs.reverse ds.reverse
  | _, _, .nil => .nil
  | _, _, .cons h r => by
    rw [List.reverse_cons, List.reverse_cons]
    exact dxAll_app (dxAll_rev r) (.cons h .nil)
theorem dxAll_mem {vs : List V} {ds : List PyData} {v : V} (h : DxAll K Z H vs ds) (m : v ∈ vs) : ∃ d ∈ ds, Dx K Z H v d := by
  obtain ⟨i, e⟩ := List.getElem?_of_mem m
  obtain ⟨d, ed, hd⟩ := dxAll_get h e
  exact ⟨d, List.mem_of_getElem? ed, hd⟩
/-- one and the same place holds one datum: what is shown twice is shown alike -/
theorem dx_tuple_of {a : Addr} {xs : List V} {ds : List PyData} (e : H a = some (.tup xs)) (h : DxAll K Z H xs ds) : Dx K Z H (.ref a) (.tuple ds) := .tup (SqT.of e) h
end
/-! ### how they are shown -/
structure Ft (n k : Nat) (d : PyData) : Prop where
  sh : d.showable = true
  len : d.shown.length ≤ n
  dp : d.depth ≤ k
theorem Ft.le {n k n' k' : Nat} {d : PyData} (h : Ft n k d) (a : n ≤ n') (b : k ≤ k') : Ft n' k' d := ⟨h.sh, Nat.le_trans h.len a, Nat.le_trans h.dp b⟩
theorem ft_none : Ft 4 0 .none := ⟨rfl, by simp only [PyData.shown]; decide, by simp only [PyData.depth]; decide⟩
theorem ft_bool (b : Bool) : Ft 5 0 (.bool b) := ⟨rfl, by simp only [PyData.shown]; cases b <;> decide, by simp only [PyData.depth]; decide⟩
theorem ft_int {i : Int} (h : i.natAbs.log2 < 1920) : Ft 1921 0 (.int i) := by
  refine ⟨by simpa only [PyData.showable, decide_eq_true_eq] using h, ?_, by simp only [PyData.depth]; decide⟩
  have e := int_text_length_le (k := 1920) (by decide) h
  simp only [PyData.shown]
  show (Str.ofString (toString i)).length ≤ 1921
  rw [PySem.ofString_length]
  exact e
theorem ft_str {x : Str} (h : ∀ c ∈ x.cps.toList, c < 16 ^ 8) : Ft (10 * x.length + 2) 0 (.str x) := by
  refine ⟨rfl, ?_, by simp only [PyData.depth]; decide⟩
  simp only [PyData.shown]
  exact StrLaws.reprText_len x h
theorem all_sh {n k : Nat} : ∀ {ds : List PyData}, (∀ d ∈ ds, Ft n k d) → PyData.showableAll ds = true ∧ ((PyData.shownAll ds).map (·.length)).sum ≤ ds.length * n ∧ (PyData.shownAll ds).length = ds.length ∧ PyData.depthAll ds ≤ k
  | [], _ => by simp only [PyData.showableAll, PyData.shownAll, PyData.depthAll]; exact ⟨trivial, Nat.zero_le _, rfl, Nat.zero_le _⟩
  | d :: ds, h => by
    have a := h d (List.mem_cons_self ..)
    obtain ⟨b1, b2, b3, b4⟩ := all_sh (ds := ds) fun e he => h e (List.mem_cons_of_mem _ he)
    simp only [PyData.showableAll, PyData.shownAll, PyData.depthAll, List.map_cons, List.sum_cons, List.length_cons]
    refine ⟨by rw [a.sh, b1]; rfl, ?_, by omega, Nat.max_le.mpr ⟨a.dp, b4⟩⟩
    rw [Nat.succ_mul]
    have := a.len
    omega
theorem ft_tuple {n k m : Nat} {ds : List PyData} (h : ∀ d ∈ ds, Ft n k d) (l : ds.length ≤ m) : Ft (m * (n + 2) + 3) (k + 1) (.tuple ds) := by
  obtain ⟨b1, b2, b3, b4⟩ := all_sh h
  refine ⟨by simpa only [PyData.showable] using b1, ?_, by simp only [PyData.depth]; omega⟩
  simp only [PyData.shown]
  have e := tupleText_len_le (PyData.shownAll ds)
  have : ds.length * (n + 2) ≤ m * (n + 2) := Nat.mul_le_mul_right _ l
  rw [Nat.mul_add] at this
  rw [b3] at e
  omega
theorem ft_list {n k m : Nat} {ds : List PyData} (h : ∀ d ∈ ds, Ft n k d) (l : ds.length ≤ m) : Ft (m * (n + 2) + 3) (k + 1) (.list ds) := by
  obtain ⟨b1, b2, b3, b4⟩ := all_sh h
  refine ⟨by simpa only [PyData.showable] using b1, ?_, by simp only [PyData.depth]; omega⟩
  simp only [PyData.shown]
  have e := listText_len_le (PyData.shownAll ds)
  have : ds.length * (n + 2) ≤ m * (n + 2) := Nat.mul_le_mul_right _ l
  rw [Nat.mul_add] at this
  rw [b3] at e
  omega
end Ev

set_option exponentiation.threshold 256
/-! data of any kind: how great they are -/
namespace Ev
open PySem PySem.Spec PyProof.Rows L2
mutual
/-- ints below 2 ^ 1400 in size, signs as they are -/
def fitx : PyData → Bool
  | .none => true
  | .bool _ => true
  | .int i => decide (i.natAbs < 2 ^ 1400)
  | .str x => x.cps.toList.all fun c => decide (c < 1114112)
  | .list xs => fitxs xs
  | .tuple xs => fitxs xs
  | .dict xs => fitxk xs
def fitxs : List PyData → Bool
  | [] => true
  | x :: xs => fitx x && fitxs xs
def fitxk : List (PyData × PyData) → Bool
  | [] => true
  | (k, v) :: xs => fitx k && fitx v && fitxk xs
end
mutual
/-- how many leaves and displays, a text by its signs -/
def szx : PyData → Nat
  | .none => 1
  | .bool _ => 1
  | .int _ => 1
  | .str x => x.length + 1
  | .list xs => szxs xs + 1
  | .tuple xs => szxs xs + 1
  | .dict xs => szxk xs + 1
def szxs : List PyData → Nat
  | [] => 0
  | x :: xs => szx x + szxs xs
def szxk : List (PyData × PyData) → Nat
  | [] => 0
  | (k, v) :: xs => szx k + szx v + szxk xs
end
theorem fitx_log {i : Int} (h : i.natAbs < 2 ^ 1400) : i.natAbs.log2 < 1920 := Nat.lt_trans (PySem.Flt.log2_lt_of (by decide) h) (by decide)
mutual
theorem fitx_show : ∀ d : PyData, fitx d = true → d.showable = true ∧ d.shown.length + 2 ≤ 1930 * szx d
  | .none, _ => by
    simp only [PyData.showable, PyData.shown, szx]
    exact ⟨trivial, by decide⟩
  | .bool b, _ => by
    have e : (PyData.shown (.bool b)).length ≤ 5 := by cases b <;> decide
    simp only [PyData.showable, szx]
    exact ⟨trivial, by omega⟩
  | .int i, h => by
    simp only [fitx, decide_eq_true_eq] at h
    have f := ft_int (fitx_log h)
    refine ⟨f.sh, ?_⟩
    have := f.len
    simp only [szx]
    omega
  | .str x, h => by
    simp only [fitx, List.all_eq_true, decide_eq_true_eq] at h
    have f := ft_str (x := x) fun c hc => Nat.lt_trans (h c hc) (by decide)
    refine ⟨f.sh, ?_⟩
    have := f.len
    simp only [szx]
    omega
  | .list xs, h => by
    simp only [fitx] at h
    obtain ⟨a, b⟩ := fitxs_show xs h
    have e := listText_len_le (PyData.shownAll xs)
    have l := PyData.shownAll_length xs
    simp only [PyData.showable, PyData.shown, szx]
    exact ⟨a, by omega⟩
  | .tuple xs, h => by
    simp only [fitx] at h
    obtain ⟨a, b⟩ := fitxs_show xs h
    have e := tupleText_len_le (PyData.shownAll xs)
    have l := PyData.shownAll_length xs
    simp only [PyData.showable, PyData.shown, szx]
    exact ⟨a, by omega⟩
  | .dict xs, h => by
    simp only [fitx] at h
    obtain ⟨a, b⟩ := fitxk_show xs h
    have e := dictText_len_le (PyData.shownKv xs)
    simp only [PyData.showable, PyData.shown, szx]
    exact ⟨a, by omega⟩
theorem fitxs_show : ∀ xs : List PyData, fitxs xs = true → PyData.showableAll xs = true ∧ ((PyData.shownAll xs).map (·.length)).sum + 2 * xs.length ≤ 1930 * szxs xs
  | [], _ => by
    simp only [PyData.showableAll, PyData.shownAll, szxs]
    exact ⟨trivial, by decide⟩
  | x :: xs, h => by
    simp only [fitxs, Bool.and_eq_true] at h
    obtain ⟨a, b⟩ := fitx_show x h.1
    obtain ⟨c, d⟩ := fitxs_show xs h.2
    simp only [PyData.showableAll, PyData.shownAll, szxs, List.map_cons, List.sum_cons, List.length_cons]
    exact ⟨by rw [a, c]; rfl, by omega⟩
theorem fitxk_show : ∀ xs : List (PyData × PyData), fitxk xs = true → PyData.showableKv xs = true ∧ ((PyData.shownKv xs).map (·.length)).sum + 2 * (PyData.shownKv xs).length ≤ 1930 * szxk xs
  | [], _ => by
    simp only [PyData.showableKv, PyData.shownKv, szxk]
    exact ⟨trivial, by decide⟩
  | (k, v) :: xs, h => by
    simp only [fitxk, Bool.and_eq_true] at h
    obtain ⟨a, b⟩ := fitx_show k h.1.1
    obtain ⟨a2, b2⟩ := fitx_show v h.1.2
    obtain ⟨c, d⟩ := fitxk_show xs h.2
    simp only [PyData.showableKv, PyData.shownKv, szxk, List.map_cons, List.sum_cons, List.length_cons]
    refine ⟨by rw [a, a2, c]; rfl, ?_⟩
    rw [strLen_append, strLen_append]
    have : (": " : Str).length = 2 := rfl
    omega
end
/-- data so great and so deep at most -/
structure Dt (n k : Nat) (d : PyData) : Prop where
  fx : fitx d = true
  sz : szx d ≤ n
  dp : d.depth ≤ k
theorem Dt.le {n k n' k' : Nat} {d : PyData} (h : Dt n k d) (a : n ≤ n') (b : k ≤ k') : Dt n' k' d := ⟨h.fx, Nat.le_trans h.sz a, Nat.le_trans h.dp b⟩
theorem Dt.show {n k : Nat} {d : PyData} (h : Dt n k d) (hn : n ≤ 8000) (hk : k ≤ 60) : d.showable = true ∧ d.shown.length ≤ sizeLine ∧ d.depth ≤ 60 := by
  obtain ⟨a, b⟩ := fitx_show d h.fx
  refine ⟨a, ?_, Nat.le_trans h.dp hk⟩
  have := h.sz
  rw [sizeLine_eq]
  omega
theorem dt_none : Dt 1 0 .none := ⟨rfl, by simp only [szx]; decide, by simp only [PyData.depth]; decide⟩
theorem dt_bool (b : Bool) : Dt 1 0 (.bool b) := ⟨rfl, by simp only [szx]; exact Nat.le_refl _, by simp only [PyData.depth]; exact Nat.le_refl _⟩
theorem dt_int {i : Int} (h : i.natAbs < 2 ^ 1400) : Dt 1 0 (.int i) := ⟨by simp only [fitx]; exact decide_eq_true h, by simp only [szx]; exact Nat.le_refl _, by simp only [PyData.depth]; exact Nat.le_refl _⟩
theorem dt_small {i : Int} (h : i.natAbs < 1000000) : Dt 1 0 (.int i) := dt_int (Nat.lt_trans h (by decide +kernel))
theorem dt_str {x : Str} (h : ∀ c ∈ x.cps.toList, c < 1114112) : Dt (x.length + 1) 0 (.str x) :=
  ⟨by simp only [fitx, List.all_eq_true, decide_eq_true_eq]; exact h, by simp only [szx]; exact Nat.le_refl _, by simp only [PyData.depth]; exact Nat.le_refl _⟩
/-- of a row: all so deep, all together so great -/
structure Dts (n k : Nat) (ds : List PyData) : Prop where
  fx : fitxs ds = true
  sz : szxs ds ≤ n
  dp : PyData.depthAll ds ≤ k
theorem Dts.nil : Dts 0 0 [] := ⟨rfl, by simp only [szxs]; exact Nat.le_refl _, by simp only [PyData.depthAll]; exact Nat.le_refl _⟩
theorem Dts.cons {n m k l : Nat} {d : PyData} {ds : List PyData} (a : Dt n k d) (b : Dts m l ds) : Dts (n + m) (max k l) (d :: ds) := by
  have h1 := a.sz
  have h2 := b.sz
  have h3 := a.dp
  have h4 := b.dp
  refine ⟨by simp only [fitxs, a.fx, b.fx, Bool.and_self], by simp only [szxs]; omega, by simp only [PyData.depthAll]; omega⟩
theorem Dts.le {n k n' k' : Nat} {d : List PyData} (h : Dts n k d) (a : n ≤ n') (b : k ≤ k') : Dts n' k' d := ⟨h.fx, Nat.le_trans h.sz a, Nat.le_trans h.dp b⟩
theorem Dts.tuple {n k : Nat} {ds : List PyData} (h : Dts n k ds) : Dt (n + 1) (k + 1) (.tuple ds) := by
  have h1 := h.sz
  have h2 := h.dp
  exact ⟨by simp only [fitx]; exact h.fx, by simp only [szx]; omega, by simp only [PyData.depth]; omega⟩
theorem Dts.list {n k : Nat} {ds : List PyData} (h : Dts n k ds) : Dt (n + 1) (k + 1) (.list ds) := by
  have h1 := h.sz
  have h2 := h.dp
  exact ⟨by simp only [fitx]; exact h.fx, by simp only [szx]; omega, by simp only [PyData.depth]; omega⟩
theorem dts_all {n k : Nat} : ∀ {ds : List PyData}, (∀ d ∈ ds, Dt n k d) → Dts (ds.length * n) k ds
  | [], _ => ⟨rfl, by simp only [szxs]; exact Nat.zero_le _, by simp only [PyData.depthAll]; exact Nat.zero_le _⟩
  | d :: ds, h => by
    have a := h d (List.mem_cons_self ..)
    have b := dts_all (ds := ds) fun e he => h e (List.mem_cons_of_mem _ he)
    have c := Dts.cons a b
    rw [List.length_cons, Nat.succ_mul]
    exact c.le (by omega) (by omega)
theorem Dt.of_tuple {n k : Nat} {ds : List PyData} (h : Dt n k (.tuple ds)) : ∀ d ∈ ds, Dt n k d := by
  have go : ∀ (ds : List PyData), fitxs ds = true → ∀ d ∈ ds, fitx d = true ∧ szx d ≤ szxs ds ∧ d.depth ≤ PyData.depthAll ds := by
    intro ds
    induction ds with
    | nil => intro _ d hd; cases hd
    | cons x xs ih =>
      intro hf d hd
      simp only [fitxs, Bool.and_eq_true] at hf
      simp only [szxs, PyData.depthAll]
      rcases List.mem_cons.mp hd with rfl | hd
      · exact ⟨hf.1, by omega, by omega⟩
      · obtain ⟨a, b, c⟩ := ih hf.2 d hd
        exact ⟨a, by omega, by omega⟩
  intro d hd
  have h1 := h.fx
  have h2 := h.sz
  have h3 := h.dp
  simp only [fitx] at h1
  simp only [szx] at h2
  simp only [PyData.depth] at h3
  obtain ⟨a, b, c⟩ := go ds h1 d hd
  exact ⟨a, by omega, by omega⟩
end Ev

set_option exponentiation.threshold 256
/-! for i, x in enumerate(a tuple) -/
namespace Ev
open PySem PySem.Spec PyProof.Rows L2
open PySem.Sem (wp)
theorem draws_tup {prog : Program} {w : World} {A : Around} (hh : A.handled = none) (it l : Addr) (hne : l ≠ it) (xs : Array Value) :
    Draws prog w A it [it, l] xs.size (fun i v => xs[i]? = some v) (fun i h => h.IsTupleIter it l i ∧ h.IsTuple l xs) where
  live := fun _ _ p => let ⟨o, q, _⟩ := p.1; ⟨o, q⟩
  frame := fun _ _ _ p k => ⟨p.1.at fun o e => k it (List.mem_cons_self ..) o e, p.2.at fun o e => k l (List.mem_cons_of_mem _ (List.mem_cons_self ..)) o e⟩
  item := fun i s Q E hi p hQ => by
    have hx : xs[i]? = some xs[i] := Array.getElem?_eq_getElem hi
    exact RZ.nextOf_tuple_item p.1 p.2 hx fun h' a b => hQ _ h' s.toks hx ⟨a, p.2.at fun o e => b.extBut l o hne e⟩ b
  done := fun s Q E p hE => RZ.nextOf_tuple_end hh p.1 p.2 (Array.getElem?_eq_none (Nat.le_refl _)) hE
theorem en_new {v : Value} {o : Obj} {G : Heap → Prop} (B : Begins v o G) :
    Meets (Builtin.«enumerate.__new__» ⟨[.type "enumerate", v], []⟩) (fun _ R s => G s.heap ∧
      R (.ok (.ret (.ref (s.heap.push o).objs.size))) { s with heap := (s.heap.push o).push { cls := .type "enumerate", data := .fields #[.none, .bool false, .ref s.heap.objs.size, rawInt 0, .none, .none] } }) :=
  .of_wp fun prog w A R s z => by
    obtain ⟨h0, gg, dd, tt, oo⟩ := s
    obtain ⟨z1, z2⟩ := z
    have sb := sub_enumerate
    have go : ∀ {A' : Around} {E : Value → Shared → Prop} {Q : Value → Shared → Prop}, Q (.ref h0.objs.size) ⟨h0.push o, gg, dd, tt, oo⟩ → wpAny (model prog w) A' (pyIter v) Q E ⟨h0, gg, dd, tt, oo⟩ :=
      fun q => B.iter prog w _ _ ⟨h0, gg, dd, tt, oo⟩ _ z1 q
    wp_walk using go
    refine wpAny_stack_any fun stk => wpAny_pure ?_
    split
    · rename_i c _ _ _ _ _
      cases (c == Value.type "enumerate")
      · wp_walk using go
        exact ⟨_, rfl, z2⟩
      · wp_walk using go
        exact ⟨_, rfl, z2⟩
    · wp_walk using go
      exact ⟨_, rfl, z2⟩
section
variable {prog : Program} {w : World} {A : Around} {E : Value → Shared → Prop} {s : Shared}
theorem call_en {v : Value} {o : Obj} {G : Heap → Prop} {Q : Value → Shared → Prop} (B : Begins v o G) (g : G s.heap)
    (q : ∀ h', IsEnum h' (s.heap.objs.size + 1) s.heap.objs.size 0 .none → h'.get? s.heap.objs.size = some o → (∀ b u, s.heap.get? b = some u → h'.get? b = some u) → Q (.ref (s.heap.objs.size + 1)) { s with heap := h' }) :
    wpAny (model prog w) A (call (.type "enumerate") [v]) Q E s := by
  refine callType_new F.called_enumerate (by decide) (F.typeCall_enumerate_1 _) (F.newCall_enumerate_1 _) (fun obj => F.args_object_init_2 obj _) F.entry_enumerate_new (en_new B) ⟨g, ?_⟩
  have n1 : (s.heap.push o).objs.size = s.heap.objs.size + 1 := Heap.size_push ..
  show _ ∧ _
  have made : IsEnum ((s.heap.push o).push { cls := .type "enumerate", data := .fields #[.none, .bool false, .ref s.heap.objs.size, rawInt 0, .none, .none] }) (s.heap.push o).objs.size s.heap.objs.size 0 .none :=
    Heap.get?_push_size _ rfl
  rw [n1] at made ⊢
  have up : ∀ b u, s.heap.get? b = some u → ((s.heap.push o).push { cls := .type "enumerate", data := .fields #[.none, .bool false, .ref s.heap.objs.size, rawInt 0, .none, .none] }).get? b = some u :=
    fun b u e => Heap.get?_push_of_some _ (Heap.get?_push_of_some _ e)
  exact ⟨⟨_, made, rfl⟩, q _ made (Heap.get?_push_of_some _ (Heap.get?_push_size _ B.free)) up⟩
theorem en_stop {e it l : Addr} {i k : Nat} {old : Value} {xs : Array Value} {Q : Option Value → Shared → Prop} (hh : A.handled = none) (he : IsEnum s.heap e it k old) (hi : s.heap.IsTupleIter it l i) (hl : s.heap.IsTuple l xs) (n : xs[i]? = none)
    (q : ∀ h', Heap.ExtBut it s.heap h' → Q none { s with heap := h' }) : wpAny (model prog w) A (pyNext (.ref e)) Q E s := by
  have ty : s.TypeIs (.ref e) "enumerate" := ⟨_, he, rfl⟩
  unfold pyNext
  have slot := F.slot_enumerate_next
  refine wpAny_bind (wpAny_attempt (wpAny_callSpecial?_slot (name := Str.ofString "__next__") ty slot (wpAny_call_entry slot ty F.entry_enumerate_next ?_ (F.args_enumerate_next_1 _))))
  show wpAny _ _ (field (.ref e) 2 >>= _) _ _ s
  refine wpAny_bind (wpAny_field he rfl (x := .ref it) rfl (wpAny_bind (RZ.nextOf_tuple_end hh hi hl n fun h' a ext ho => ?_)))
  obtain ⟨o, ho, hc⟩ := ho
  exact wpAny_bind (wpAny_isInstance (T := "StopIteration") (b := true) ⟨o, ho, hc⟩ isSubtype_stop (wpAny_pure (q _ ext)))
end
/-- the tuple at a as it stands at each turn, each item in a new pair -/
def IteT (K : PySem.W.Frag) (a : Addr) : It :=
  ⟨fun i H => ∃ (xs : List V) (x : V), SqT K H a xs ∧ xs[i]? = some x,
   fun i H v H' => ∃ t x, v = .ref t ∧ H t = none ∧ H' = upd H t (.tup [.int (i : Nat), x]) ∧ ∀ xs, SqT K H a xs → xs[i]? = some x,
   fun i H => ∃ xs : List V, SqT K H a xs ∧ xs.length ≤ i⟩
theorem turn_enT {P : Program} {w : World} {K : PySem.W.Frag} {elts : List Expr} {kk : Nat} {tpos : Pos} (a e it : Addr) (nae : a ≠ e) (nai : a ≠ it) :
    Turn P w K (.Tuple elts kk tpos) (IteT K a) [e, it] e (fun i h => (∃ old, IsEnum h e it ((i : Nat) : Int) old) ∧ h.IsTupleIter it a i ∧ e ≠ it) where
  mem := List.mem_cons_self ..
  obj := fun i h p b hb => by
    obtain ⟨⟨old, p1⟩, ⟨o, p2, p3, p4⟩, _⟩ := p
    rcases List.mem_cons.mp hb with rfl | hb
    · exact ⟨_, p1, fun v q => nomatch q⟩
    · have z := List.mem_singleton.mp hb
      subst z
      exact ⟨o, p2, fun v q => by rw [p4] at q; cases q⟩
  keep := fun i h h' p k => by
    obtain ⟨⟨old, p1⟩, p2, p3⟩ := p
    exact ⟨⟨old, k e (List.mem_cons_self ..) _ p1⟩, p2.at fun o q => k it (List.mem_cons_of_mem _ (List.mem_cons_self ..)) o q, p3⟩
  item := by
    intro X hP hw hK hc i pins s σ H E I hf p hg
    subst hP hw hK
    obtain ⟨⟨old, p1⟩, p2, p3⟩ := p
    obtain ⟨xs, x, hq, hx⟩ := hg
    obtain ⟨its, rv, pt, hz⟩ := I.tuple hq
    obtain ⟨u, hu, ru⟩ := rv.get hx
    have lt1 : e < s.heap.objs.size := Heap.lt_size p1
    have lt2 : it < s.heap.objs.size := by
      obtain ⟨o, q, _⟩ := id p2
      exact Heap.lt_size q
    have hi : i < its.toArray.size := by
      rw [List.size_toArray]
      exact (List.getElem?_eq_some_iff.mp hu).1
    have D := draws_tup (prog := X.prog) (w := X.w) (A := X.A.in1) (I.ok.hd hc) it a nai its.toArray
    have off : e ∉ [it, a] := fun hm => by
      rcases List.mem_cons.mp hm with z | hm
      · exact p3 z
      · exact nae (List.mem_singleton.mp hm).symm
    refine wpAny_pyNext_enum_itemD D p1 ⟨p2, pt⟩ hi p3 off fun y h' tk hy out st2 hT hs hk => ?_
    have ey : y = u := by
      have : its.toArray[i]? = some u := by simpa using hu
      rw [this] at hy
      exact (Option.some.inj hy).symm
    subst ey
    refine ⟨_, rfl, wpAny_letOwnedTupleGo_enum (s := { s with heap := h', toks := tk + 1 }) out fun h2 p1' sb => ?_⟩
    have hT2 : h2.get? s.heap.objs.size = some { cls := .type "tuple", data := .seq #[.int i tk, y] } := (sb.2 _ (Nat.ne_of_gt lt1)).trans hT
    have ok : ObjOk X.prog X.w (upd H s.heap.objs.size (.tup [.int (i : Nat), x])) h2 s.heap.objs.size (.tup [.int (i : Nat), x]) :=
      ⟨by show 2 ≤ sizeLine; decide, [.int i tk, y], .cons ⟨_, rfl⟩ (.cons ru .nil), ⟨_, hT2, rfl, _, rfl⟩⟩
    have far : ∀ b ob, b ∉ [e, it] → s.heap.get? b = some ob → h2.get? b = some ob := fun b ob hb q => by
      have n1 : b ≠ e := fun z => hb (by rw [z]; exact List.mem_cons_self ..)
      have n2 : b ≠ it := fun z => hb (by rw [z]; exact List.mem_cons_of_mem _ (List.mem_cons_self ..))
      exact (sb.2 b n1).trans (hk b ob n1 n2 q)
    have I1 := I.turnedNew (ch := [e, it]) (t' := tk + 1) far hf (Nat.le_refl _) ok
    refine ⟨.ref s.heap.objs.size, _, I1, rfl, ⟨_, x, rfl, I.hok.fresh (Nat.le_refl _), rfl, fun ys hy => by rw [I.tuple_inj hy hq]; exact hx⟩, ⟨⟨y, ?_⟩, st2.1.at fun o q => (sb.2 it (Ne.symm p3)).trans q, p3⟩, fun b hb => ?_⟩
    · have e1 : ((i + 1 : Nat) : Int) = (i : Int) + 1 := by omega
      rw [e1]
      exact p1'
    · have hb' : b < s.heap.objs.size := by
        rcases List.mem_cons.mp hb with z | z
        · rw [z]; exact lt1
        · rw [List.mem_singleton.mp z]; exact lt2
      rw [upd_ne (Nat.ne_of_lt hb')]
      exact (hf b hb).1
  done := by
    intro X hP hw hK hc i pins s σ H E I hf p hg
    subst hP hw hK
    obtain ⟨⟨old, p1⟩, p2, p3⟩ := p
    obtain ⟨xs, hq, hx⟩ := hg
    obtain ⟨its, rv, pt, hz⟩ := I.tuple hq
    obtain ⟨f0, f1, f2, f3, f4, f5⟩ := hf it (List.mem_cons_of_mem _ (List.mem_cons_self ..))
    have lv := rv.length
    have over : its.toArray[i]? = none := Array.getElem?_eq_none (by rw [List.size_toArray]; omega)
    exact en_stop (I.ok.hd hc) p1 p2 pt over fun h' ext => ⟨rfl, I.turned (t' := s.toks) (fun b o nb q => ext b o nb q) f0 f1 f3 f4 f5⟩
  self := fun A i s Q E p h => let ⟨⟨_, p1⟩, _⟩ := p; wpAny_pyIter_enum p1 h
def iEnT (K : PySem.W.Frag) (ta : TA) : TI := fun σ H R => ta σ H fun vs H1 => ∃ a xs, vs = [.ref a] ∧ SqT K H1 a xs ∧ R (IteT K a) H1
theorem pi_enumT {X : Cx} {e : Expr} {ta : TA} {p pos tpos : Pos} {elts : List Expr} {kk : Nat} (hg : Gl X "enumerate") (hm : X.mg "enumerate" = none) (ha : PA X [e] ta) (hs : starEach [e] X.env = [(false, eval e X.env)] := by rfl) :
    PI X (.Tuple elts kk tpos) (.Call (.Name "enumerate" p) [e] [] pos) (iEnT X.K ta) := by
  refine ⟨fun pins s σ H R I h => ?_⟩
  refine Call_ (ld_blt I hg hm boot_enumerate (PyProof.Rows.callWith_type1 (thn (ha.run pos pins s σ H _ I h) fun us s1 q1 => ?_) hs rfl))
  obtain ⟨vs, H1, I1, r1, a, xs, ev, hq, q⟩ := q1
  subst ev
  obtain ⟨u, rfl, ru⟩ := vals1 r1
  cases ru
  obtain ⟨its, rv, pt, hz⟩ := I1.tuple hq
  obtain ⟨oa, ga, _⟩ := id pt
  have la : a < s1.heap.objs.size := Heap.lt_size ga
  refine call_en (begins_tuple a its.toArray) pt fun h' he ho up => wpAny_pyIter_enum he ?_
  have I2 : Inv X pins σ H1 { s1 with heap := h' } := I1.kept (t' := s1.toks) up
  have n0 : s1.heap.objs.size + 1 ≠ s1.heap.objs.size := Nat.succ_ne_self _
  have st : h'.IsTupleIter s1.heap.objs.size a 0 := ⟨_, ho, rfl, rfl⟩
  refine ⟨s1.heap.objs.size + 1, [s1.heap.objs.size + 1, s1.heap.objs.size], _, _, H1, rfl, I2, turn_enT a (s1.heap.objs.size + 1) s1.heap.objs.size (Nat.ne_of_lt (Nat.lt_succ_of_lt la)) (Nat.ne_of_lt la), ⟨⟨.none, he⟩, st, n0⟩, fun b hb => ?_, q⟩
  have hle : s1.heap.objs.size ≤ b := by
    rcases List.mem_cons.mp hb with z | z
    · rw [z]; exact Nat.le_add_right _ _
    · rw [List.mem_singleton.mp z]; exact Nat.le_refl _
  exact I1.fpOk hle (I1.hok.fresh hle)
theorem walk_enT {K : PySem.W.Frag} {a : Addr} {xs : List V} : Walk (IteT K a) xs.length (fun H => SqT K H a xs) (YPair (fun i => some (.int (i : Nat))) (fun i => xs[i]?)) := by
  refine ⟨fun i _ hi q => ⟨xs, xs[i], q, List.getElem?_eq_getElem hi⟩, fun _ q => ⟨xs, q, Nat.le_refl _⟩, fun i H v H' _ q y => ?_⟩
  obtain ⟨t, x, y1, y2, y3, y4⟩ := y
  exact ⟨t, .int (i : Nat), x, y1, y2, y3, rfl, y4 xs q⟩
end Ev

set_option exponentiation.threshold 256
/-! sums of throws: powers of a polynomial, by its parts -/
namespace Ev
def opL : List (Nat × Int) → (Nat → Int) → Nat → Int
  | [], _, _ => 0
  | (a, c) :: l, q, n => (if a ≤ n then c * q (n - a) else 0) + opL l q n
def delta (n : Nat) : Int := if n = 0 then 1 else 0
def pw (l : List (Nat × Int)) : Nat → Nat → Int
  | 0 => delta
  | m + 1 => opL l (pw l m)
theorem opL_cong {q r : Nat → Int} : ∀ (l : List (Nat × Int)) (n : Nat), (∀ k, k ≤ n → q k = r k) → opL l q n = opL l r n
  | [], _, _ => rfl
  | (a, c) :: l, n, h => by
    unfold opL
    rw [opL_cong l n h, h (n - a) (Nat.sub_le _ _)]
theorem opL_add (x y : Nat → Int) : ∀ (l : List (Nat × Int)) (n : Nat), opL l (fun k => x k + y k) n = opL l x n + opL l y n
  | [], _ => rfl
  | (a, c) :: l, n => by
    unfold opL
    rw [opL_add x y l n]
    split <;> grind
theorem opL_mul (m : Int) (x : Nat → Int) : ∀ (l : List (Nat × Int)) (n : Nat), opL l (fun k => m * x k) n = m * opL l x n
  | [], _ => by simp [opL]
  | (a, c) :: l, n => by
    unfold opL
    rw [opL_mul m x l n]
    split <;> grind
theorem opL_zero : ∀ (l : List (Nat × Int)) (n : Nat), opL l (fun _ => 0) n = 0
  | [], _ => rfl
  | (a, c) :: l, n => by
    unfold opL
    rw [opL_zero l n]
    split <;> simp
theorem opL_sh (a : Nat) (c : Int) (q : Nat → Int) : ∀ (l : List (Nat × Int)) (n : Nat), opL l (fun k => if a ≤ k then c * q (k - a) else 0) n = if a ≤ n then c * opL l q (n - a) else 0
  | [], n => by
    unfold opL
    split <;> simp
  | (b, d) :: l, n => by
    unfold opL
    rw [opL_sh a c q l n]
    have e : n - b - a = n - a - b := by omega
    show (if b ≤ n then d * (if a ≤ n - b then c * q (n - b - a) else 0) else 0) + (if a ≤ n then c * opL l q (n - a) else 0) = if a ≤ n then c * ((if b ≤ n - a then d * q (n - a - b) else 0) + opL l q (n - a)) else 0
    by_cases h1 : b ≤ n
    · by_cases h2 : a ≤ n
      · by_cases h3 : a ≤ n - b
        · rw [if_pos h1, if_pos h3, if_pos h2, if_pos h2, if_pos (show b ≤ n - a by omega), e]
          grind
        · rw [if_pos h1, if_neg h3, if_pos h2, if_pos h2, if_neg (show ¬ b ≤ n - a by omega)]
          grind
      · rw [if_pos h1, if_neg (show ¬ a ≤ n - b by omega), if_neg h2, if_neg h2]
        grind
    · by_cases h2 : a ≤ n
      · rw [if_neg h1, if_pos h2, if_pos h2, if_neg (show ¬ b ≤ n - a by omega)]
        grind
      · rw [if_neg h1, if_neg h2, if_neg h2]
        grind
theorem opL_comm (k : List (Nat × Int)) (q : Nat → Int) : ∀ (l : List (Nat × Int)) (n : Nat), opL l (opL k q) n = opL k (opL l q) n
  | [], n => by
    have e : opL ([] : List (Nat × Int)) q = fun _ => 0 := rfl
    rw [e, opL_zero]
    rfl
  | (a, c) :: l, n => by
    have e : opL ((a, c) :: l) q = fun n => (if a ≤ n then c * q (n - a) else 0) + opL l q n := by
      funext n
      rfl
    rw [e, opL_add, opL_sh, ← opL_comm k q l n]
    rfl
def dl (l : List (Nat × Int)) : List (Nat × Int) := l.map fun p => (p.1, (p.1 : Int) * p.2)
def th (q : Nat → Int) (n : Nat) : Int := (n : Int) * q n
theorem th_op (q : Nat → Int) : ∀ (l : List (Nat × Int)) (n : Nat), th (opL l q) n = opL l (th q) n + opL (dl l) q n
  | [], n => by simp [th, opL, dl]
  | (a, c) :: l, n => by
    have ih := th_op q l n
    show (n : Int) * ((if a ≤ n then c * q (n - a) else 0) + opL l q n) = ((if a ≤ n then c * th q (n - a) else 0) + opL l (th q) n) + ((if a ≤ n then ((a : Int) * c) * q (n - a) else 0) + opL (dl l) q n)
    have ih' : (n : Int) * opL l q n = opL l (th q) n + opL (dl l) q n := ih
    by_cases h : a ≤ n
    · rw [if_pos h, if_pos h, if_pos h]
      have e : ((n - a : Nat) : Int) = (n : Int) - a := by omega
      unfold th at *
      rw [e]
      grind
    · rw [if_neg h, if_neg h, if_neg h]
      grind
theorem pw_rec (l : List (Nat × Int)) : ∀ (m n : Nat), opL l (th (pw l m)) n = (m : Int) * opL (dl l) (pw l m) n
  | 0, n => by
    have e : th (pw l 0) = fun _ => 0 := by
      funext k
      unfold th pw delta
      by_cases h : k = 0
      · subst h; simp
      · rw [if_neg h]; simp
    rw [e, opL_zero]
    simp
  | m + 1, n => by
    have e : th (pw l (m + 1)) = fun k => (m : Int) * opL (dl l) (pw l m) k + opL (dl l) (pw l m) k := by
      funext k
      show th (opL l (pw l m)) k = _
      rw [th_op, pw_rec l m k]
    rw [e, opL_add, opL_mul]
    have c := opL_comm (dl l) (pw l m) l n
    have c2 : opL (dl l) (pw l (m + 1)) n = opL (dl l) (opL l (pw l m)) n := rfl
    rw [c2, c]
    grind
/-- what the weights ahead tell of the next one -/
def recT (m : Nat) (q : Nat → Int) : List (Nat × Int) → Nat → Int
  | [], _ => 0
  | (a, c) :: l, n => (if a ≤ n then ((m : Int) * a - n + a) * c * q (n - a) else 0) + recT m q l n
theorem recT_eq (m : Nat) (q : Nat → Int) : ∀ (l : List (Nat × Int)) (n : Nat), recT m q l n = (m : Int) * opL (dl l) q n - opL l (th q) n
  | [], n => by simp [recT, opL, dl]
  | (a, c) :: l, n => by
    have ih := recT_eq m q l n
    show (if a ≤ n then ((m : Int) * a - n + a) * c * q (n - a) else 0) + recT m q l n = (m : Int) * ((if a ≤ n then ((a : Int) * c) * q (n - a) else 0) + opL (dl l) q n) - ((if a ≤ n then c * th q (n - a) else 0) + opL l (th q) n)
    by_cases h : a ≤ n
    · rw [if_pos h, if_pos h, if_pos h, ih]
      have e : ((n - a : Nat) : Int) = (n : Int) - a := by omega
      unfold th
      rw [e]
      grind
    · rw [if_neg h, if_neg h, if_neg h, ih]
      grind
theorem pw_next (f : Int) (r : List (Nat × Int)) (m n : Nat) : f * n * pw ((0, f) :: r) m n = recT m (pw ((0, f) :: r) m) r n := by
  have h := pw_rec ((0, f) :: r) m n
  have e1 : opL ((0, f) :: r) (th (pw ((0, f) :: r) m)) n = f * th (pw ((0, f) :: r) m) n + opL r (th (pw ((0, f) :: r) m)) n := by
    show (if 0 ≤ n then f * th _ (n - 0) else 0) + _ = _
    rw [if_pos (Nat.zero_le _), Nat.sub_zero]
  have e2 : opL (dl ((0, f) :: r)) (pw ((0, f) :: r) m) n = opL (dl r) (pw ((0, f) :: r) m) n := by
    show (if 0 ≤ n then ((0 : Nat) : Int) * f * pw _ _ (n - 0) else 0) + _ = _
    rw [if_pos (Nat.zero_le _)]
    simp
    rfl
  rw [e1, e2] at h
  rw [recT_eq]
  have e3 : th (pw ((0, f) :: r) m) n = (n : Int) * pw ((0, f) :: r) m n := rfl
  rw [e3] at h
  grind
theorem pw_zero (f : Int) {r : List (Nat × Int)} (h : ∀ p ∈ r, 1 ≤ p.1) : ∀ m, pw ((0, f) :: r) m 0 = f ^ m
  | 0 => by
    rw [Int.pow_zero]
    rfl
  | m + 1 => by
    have z : ∀ (l : List (Nat × Int)), (∀ p ∈ l, 1 ≤ p.1) → ∀ q : Nat → Int, opL l q 0 = 0 := by
      intro l
      induction l with
      | nil => intros; rfl
      | cons p l ih =>
        intro hl q
        have h1 := hl p (List.mem_cons_self ..)
        show (if p.1 ≤ 0 then p.2 * q (0 - p.1) else 0) + opL l q 0 = 0
        rw [if_neg (by omega), ih (fun x hx => hl x (List.mem_cons_of_mem _ hx)), Int.zero_add]
    show (if 0 ≤ 0 then f * pw ((0, f) :: r) m (0 - 0) else 0) + opL r (pw ((0, f) :: r) m) 0 = _
    rw [if_pos (Nat.le_refl _), z r h, pw_zero f h m, Int.pow_succ]
    grind
theorem opL_nn {q : Nat → Int} (hq : ∀ n, 0 ≤ q n) : ∀ (l : List (Nat × Int)) (n : Nat), (∀ p ∈ l, 0 ≤ p.2) → 0 ≤ opL l q n
  | [], _, _ => Int.le_refl _
  | (a, c) :: l, n, h => by
    have h1 := opL_nn hq l n fun p hp => h p (List.mem_cons_of_mem _ hp)
    have h2 : 0 ≤ c := h (a, c) (List.mem_cons_self ..)
    show 0 ≤ (if a ≤ n then c * q (n - a) else 0) + opL l q n
    by_cases h3 : a ≤ n
    · rw [if_pos h3]
      have := Int.mul_nonneg h2 (hq (n - a))
      omega
    · rw [if_neg h3]
      omega
theorem pw_nn {l : List (Nat × Int)} (h : ∀ p ∈ l, 0 ≤ p.2) : ∀ m n, 0 ≤ pw l m n
  | 0, n => by
    show 0 ≤ (if n = 0 then (1 : Int) else 0)
    split <;> decide
  | m + 1, n => opL_nn (pw_nn h m) l n h
def wsum (l : List (Nat × Int)) : Int := (l.map (·.2)).sum
theorem opL_le {q : Nat → Int} {B : Int} (hq : ∀ n, 0 ≤ q n ∧ q n ≤ B) (hB : 0 ≤ B) : ∀ (l : List (Nat × Int)) (n : Nat), (∀ p ∈ l, 0 ≤ p.2) → opL l q n ≤ wsum l * B
  | [], _, _ => by simp [opL, wsum]
  | (a, c) :: l, n, h => by
    have h1 := opL_le hq hB l n fun p hp => h p (List.mem_cons_of_mem _ hp)
    have h2 : 0 ≤ c := h (a, c) (List.mem_cons_self ..)
    have e : wsum ((a, c) :: l) * B = c * B + wsum l * B := by
      unfold wsum
      rw [List.map_cons, List.sum_cons, Int.add_mul]
    rw [e]
    show (if a ≤ n then c * q (n - a) else 0) + opL l q n ≤ _
    by_cases h3 : a ≤ n
    · rw [if_pos h3]
      have := Int.mul_le_mul_of_nonneg_left (hq (n - a)).2 h2
      omega
    · rw [if_neg h3]
      have := Int.mul_nonneg h2 hB
      omega
theorem wsum_nn {l : List (Nat × Int)} (h : ∀ p ∈ l, 0 ≤ p.2) : 0 ≤ wsum l := by
  induction l with
  | nil => exact Int.le_refl _
  | cons p l ih =>
    unfold wsum at *
    rw [List.map_cons, List.sum_cons]
    have := h p (List.mem_cons_self ..)
    have := ih fun x hx => h x (List.mem_cons_of_mem _ hx)
    omega
theorem pw_le {l : List (Nat × Int)} (h : ∀ p ∈ l, 0 ≤ p.2) : ∀ m n, pw l m n ≤ wsum l ^ m
  | 0, n => by
    show (if n = 0 then (1 : Int) else 0) ≤ _
    rw [Int.pow_zero]
    split <;> decide
  | m + 1, n => by
    have z := opL_le (q := pw l m) (B := wsum l ^ m) (fun k => ⟨pw_nn h m k, pw_le h m k⟩) (Int.pow_nonneg (wsum_nn h)) l n h
    rw [Int.pow_succ, Int.mul_comm]
    exact z
/-- beyond the greatest of all nothing comes -/
theorem pw_top {l : List (Nat × Int)} {t : Nat} (h : ∀ p ∈ l, p.1 ≤ t) : ∀ m n, t * m < n → pw l m n = 0
  | 0, n, hn => by
    show (if n = 0 then (1 : Int) else 0) = 0
    rw [if_neg (by omega)]
  | m + 1, n, hn => by
    have hn' : t * m + t < n := by rw [Nat.mul_succ] at hn; exact hn
    have z : ∀ (k : List (Nat × Int)), (∀ p ∈ k, p.1 ≤ t) → opL k (pw l m) n = 0 := by
      intro k
      induction k with
      | nil => intros; rfl
      | cons p k ih =>
        intro hk
        have h1 := hk p (List.mem_cons_self ..)
        show (if p.1 ≤ n then p.2 * pw l m (n - p.1) else 0) + opL k (pw l m) n = 0
        rw [if_pos (by omega), pw_top h m (n - p.1) (by omega), ih (fun x hx => hk x (List.mem_cons_of_mem _ hx))]
        simp
    exact z l h
/-- numbers counted in steps from the least one -/
def spread (lo st : Nat) (l : List (Nat × Int)) : List (Nat × Int) := l.map fun p => (lo + st * p.1, p.2)
def spreadF (lo st : Nat) (q : Nat → Int) (n : Nat) : Int := if lo ≤ n ∧ st ∣ (n - lo) then q ((n - lo) / st) else 0
theorem op_spread {lo st b : Nat} (hs : 0 < st) (q : Nat → Int) : ∀ (l : List (Nat × Int)) (n : Nat),
    opL (spread lo st l) (spreadF b st q) n = spreadF (b + lo) st (opL l q) n
  | [], n => by
    show 0 = if b + lo ≤ n ∧ st ∣ (n - (b + lo)) then (0 : Int) else 0
    split <;> rfl
  | (a, c) :: l, n => by
    have ih := op_spread (lo := lo) (b := b) hs q l n
    show (if lo + st * a ≤ n then c * spreadF b st q (n - (lo + st * a)) else 0) + opL (spread lo st l) (spreadF b st q) n = _
    rw [ih]
    unfold spreadF
    by_cases h : b + lo ≤ n ∧ st ∣ (n - (b + lo))
    · obtain ⟨h1, k, hk⟩ := h
      have hn : n = b + lo + st * k := by omega
      subst hn
      have ek : (b + lo + st * k - (b + lo)) / st = k := by
        rw [Nat.add_sub_cancel_left, Nat.mul_div_cancel_left _ hs]
      have hd : b + lo ≤ b + lo + st * k ∧ st ∣ b + lo + st * k - (b + lo) := ⟨by omega, ⟨k, by omega⟩⟩
      rw [if_pos hd, if_pos hd, ek]
      show _ = (if a ≤ k then c * q (k - a) else 0) + opL l q k
      congr 1
      by_cases hak : a ≤ k
      · obtain ⟨j, rfl⟩ : ∃ j, k = a + j := ⟨k - a, by omega⟩
        have e : st * (a + j) = st * a + st * j := Nat.mul_add _ _ _
        have e2 : b + lo + st * (a + j) - (lo + st * a) = b + st * j := by omega
        rw [if_pos (by omega), e2, if_pos ⟨by omega, ⟨j, by omega⟩⟩, if_pos hak, show b + st * j - b = st * j by omega, Nat.mul_div_cancel_left _ hs, Nat.add_sub_cancel_left]
      · obtain ⟨j, rfl⟩ : ∃ j, a = k + 1 + j := ⟨a - k - 1, by omega⟩
        have e : st * (k + 1 + j) = st * k + st + st * j := by rw [Nat.mul_add, Nat.mul_add, Nat.mul_one]
        rw [if_neg hak]
        split
        · rename_i h3
          rw [if_neg (by intro z; omega)]
          simp
        · rfl
    · rw [if_neg h, if_neg h, Int.add_zero]
      split
      · rename_i h3
        rw [if_neg]
        · simp
        · rintro ⟨h4, k, hk⟩
          refine h ⟨by omega, a + k, ?_⟩
          rw [Nat.mul_add]
          omega
      · rfl
theorem pw_spread {lo st : Nat} (hs : 0 < st) (l : List (Nat × Int)) : ∀ m, pw (spread lo st l) m = spreadF (lo * m) st (pw l m)
  | 0 => by
    funext n
    show (if n = 0 then (1 : Int) else 0) = if lo * 0 ≤ n ∧ st ∣ (n - lo * 0) then (if (n - lo * 0) / st = 0 then (1 : Int) else 0) else 0
    rw [Nat.mul_zero, Nat.sub_zero]
    by_cases h : n = 0
    · subst h
      rw [if_pos rfl, if_pos ⟨Nat.le_refl _, ⟨0, rfl⟩⟩, if_pos (Nat.zero_div _)]
    · rw [if_neg h]
      split
      · rename_i h2
        obtain ⟨_, k, rfl⟩ := h2
        rw [Nat.mul_div_cancel_left _ hs, if_neg]
        intro z
        subst z
        exact h rfl
      · rfl
  | m + 1 => by
    funext n
    show opL (spread lo st l) (pw (spread lo st l) m) n = _
    rw [pw_spread hs l m, op_spread hs]
    rw [Nat.mul_succ]
    rfl
theorem pw_single (lo : Nat) (f : Int) (m n : Nat) : pw [(lo, f)] m n = if n = lo * m then f ^ m else 0 := by
  have e : [(lo, f)] = spread lo 1 [(0, f)] := rfl
  rw [e, pw_spread (by decide)]
  have z : ∀ m k, pw [(0, f)] m k = if k = 0 then f ^ m else 0 := by
    intro m
    induction m with
    | zero =>
      intro k
      rw [Int.pow_zero]
      rfl
    | succ m ih =>
      intro k
      show (if 0 ≤ k then f * pw [(0, f)] m (k - 0) else 0) + 0 = _
      rw [if_pos (Nat.zero_le _), Nat.sub_zero, ih, Int.pow_succ]
      split <;> grind
  unfold spreadF
  rw [Nat.div_one, z]
  by_cases h : n = lo * m
  · subst h
    rw [if_pos ⟨Nat.le_refl _, ⟨_, (Nat.one_mul _).symm⟩⟩, Nat.sub_self, if_pos rfl, if_pos rfl]
  · rw [if_neg h]
    split
    · rename_i h2
      rw [if_neg (by omega)]
    · rfl
end Ev

set_option exponentiation.threshold 256
/-! sums over all parts of a number: products of series, many tills -/
namespace Ev
def tab (f : Nat → Int) (n : Nat) : List (Nat × Int) := (List.range (n + 1)).map fun k => (k, f k)
theorem opL_app (q : Nat → Int) (n : Nat) : ∀ (l k : List (Nat × Int)), opL (l ++ k) q n = opL l q n + opL k q n
  | [], k => by simp [opL]
  | (a, c) :: l, k => by
    have ih := opL_app q n l k
    show (if a ≤ n then c * q (n - a) else 0) + opL (l ++ k) q n = (if a ≤ n then c * q (n - a) else 0) + opL l q n + opL k q n
    rw [ih]
    omega
theorem tab_succ (f : Nat → Int) (n : Nat) : tab f (n + 1) = tab f n ++ [(n + 1, f (n + 1))] := by
  unfold tab
  rw [List.range_succ, List.map_append]
  rfl
theorem op_tab_succ (f q : Nat → Int) (m n : Nat) : opL (tab f (m + 1)) q n = opL (tab f m) q n + (if m + 1 ≤ n then f (m + 1) * q (n - (m + 1)) else 0) := by
  rw [tab_succ, opL_app]
  simp [opL]
theorem op_tab_zero (f q : Nat → Int) (n : Nat) : opL (tab f 0) q n = f 0 * q n := by
  show (if 0 ≤ n then f 0 * q (n - 0) else 0) + 0 = _
  rw [if_pos (Nat.zero_le _), Nat.sub_zero, Int.add_zero]
/-- parts beyond the number tell nothing -/
theorem op_tab_more (f q : Nat → Int) (n : Nat) : ∀ d, opL (tab f (n + d)) q n = opL (tab f n) q n
  | 0 => rfl
  | d + 1 => by
    rw [← Nat.add_assoc, op_tab_succ, op_tab_more f q n d, if_neg (by omega), Int.add_zero]
theorem op_tab_cut (f q : Nat → Int) {n m : Nat} (h : n ≤ m) : opL (tab f m) q n = opL (tab f n) q n := by
  obtain ⟨d, rfl⟩ := Nat.exists_eq_add_of_le h
  exact op_tab_more f q n d
theorem op_tab_congr {f g q r : Nat → Int} {n : Nat} : ∀ m, (∀ k, k ≤ m → k ≤ n → f k * q (n - k) = g k * r (n - k)) → opL (tab f m) q n = opL (tab g m) r n
  | 0, h => by
    rw [op_tab_zero, op_tab_zero]
    have := h 0 (Nat.le_refl _) (Nat.zero_le _)
    simpa using this
  | m + 1, h => by
    rw [op_tab_succ, op_tab_succ, op_tab_congr m fun k h1 h2 => h k (by omega) h2]
    congr 1
    by_cases e : m + 1 ≤ n
    · rw [if_pos e, if_pos e]
      exact h (m + 1) (Nat.le_refl _) e
    · rw [if_neg e, if_neg e]
theorem op_tab_add (f g q : Nat → Int) (n : Nat) : ∀ m, opL (tab (fun k => f k + g k) m) q n = opL (tab f m) q n + opL (tab g m) q n
  | 0 => by rw [op_tab_zero, op_tab_zero, op_tab_zero, Int.add_mul]
  | m + 1 => by
    rw [op_tab_succ, op_tab_succ, op_tab_succ, op_tab_add f g q n m]
    split <;> grind
theorem op_tab_one (a : Nat) (c : Int) (q : Nat → Int) (n : Nat) : ∀ m, opL (tab (fun k => if k = a then c else 0) m) q n = if a ≤ m ∧ a ≤ n then c * q (n - a) else 0
  | 0 => by
    rw [op_tab_zero]
    by_cases h : a = 0
    · subst h
      rw [if_pos rfl, if_pos ⟨Nat.le_refl _, Nat.zero_le _⟩, Nat.sub_zero]
    · rw [if_neg (fun z => h z.symm), if_neg (by omega), Int.zero_mul]
  | m + 1 => by
    rw [op_tab_succ, op_tab_one a c q n m]
    grind
/-- the number's own part -/
def coef : List (Nat × Int) → Nat → Int
  | [], _ => 0
  | (a, c) :: l, k => (if k = a then c else 0) + coef l k
theorem op_coef (q : Nat → Int) {n m : Nat} (h : n ≤ m) : ∀ l : List (Nat × Int), opL (tab (coef l) m) q n = opL l q n
  | [] => by
    show opL (tab (fun _ => 0) m) q n = 0
    have : ∀ m, opL (tab (fun _ => 0) m) q n = 0 := by
      intro m
      induction m with
      | zero => rw [op_tab_zero, Int.zero_mul]
      | succ m ih => rw [op_tab_succ, ih]; split <;> simp
    exact this m
  | (a, c) :: l => by
    have e : coef ((a, c) :: l) = fun k => (if k = a then c else 0) + coef l k := rfl
    rw [e, op_tab_add, op_tab_one, op_coef q h l]
    show _ = (if a ≤ n then c * q (n - a) else 0) + opL l q n
    by_cases h2 : a ≤ n
    · rw [if_pos ⟨by omega, h2⟩, if_pos h2]
    · rw [if_neg (by omega), if_neg h2]
/-- throws by parts are throws by sides -/
theorem pw_coef (l : List (Nat × Int)) (M : Nat) : ∀ m n, n ≤ M → pw (tab (coef l) M) m n = pw l m n
  | 0, n, _ => rfl
  | m + 1, n, h => by
    show opL (tab (coef l) M) (pw (tab (coef l) M) m) n = opL l (pw l m) n
    rw [op_coef _ h]
    exact opL_cong l n fun k hk => pw_coef l M m k (by omega)
theorem op_delta (f : Nat → Int) (n : Nat) : opL (tab f n) delta n = f n := by
  have key : ∀ m, m < n → opL (tab f m) delta n = 0 := by
    intro m
    induction m with
    | zero =>
      intro h
      rw [op_tab_zero]
      unfold delta
      rw [if_neg (by omega), Int.mul_zero]
    | succ m ih =>
      intro h
      rw [op_tab_succ, ih (by omega), if_pos (by omega)]
      unfold delta
      rw [if_neg (by omega), Int.mul_zero]
      rfl
  cases n with
  | zero =>
    rw [op_tab_zero]
    unfold delta
    rw [if_pos rfl, Int.mul_one]
  | succ n =>
    rw [op_tab_succ, key n (Nat.lt_succ_self n), if_pos (Nat.le_refl _), Nat.sub_self]
    unfold delta
    rw [if_pos rfl, Int.mul_one, Int.zero_add]
/-- so many and some more are the products of both together -/
theorem pw_split (l : List (Nat × Int)) (a : Nat) : ∀ b n, opL (tab (pw l a) n) (pw l b) n = pw l (a + b) n
  | 0, n => op_delta _ n
  | b + 1, n => by
    show opL (tab (pw l a) n) (opL l (pw l b)) n = opL l (pw l (a + b)) n
    rw [← opL_comm]
    refine opL_cong l n fun k hk => ?_
    rw [op_tab_cut _ _ hk]
    exact pw_split l a b k
/-! ### many tills -/
def one1 : Nat → Int := fun _ => 1
def Cc : Nat → Nat → Int
  | 0 => delta
  | m + 1 => fun n => opL (tab one1 n) (Cc m) n
theorem cum_succ (q : Nat → Int) (n : Nat) : ∀ k, k ≤ n → opL (tab one1 (k + 1)) q (n + 1) = q (n + 1) + opL (tab one1 k) q n
  | 0, h => by
    rw [op_tab_succ, op_tab_zero, op_tab_zero, if_pos (by omega)]
    show 1 * q (n + 1) + 1 * q (n + 1 - 1) = q (n + 1) + 1 * q n
    rw [Nat.add_sub_cancel]
    omega
  | k + 1, h => by
    rw [op_tab_succ, cum_succ q n k (by omega), op_tab_succ one1 q k n, if_pos (by omega), if_pos h]
    show q (n + 1) + opL (tab one1 k) q n + 1 * q (n + 1 - (k + 1 + 1)) = q (n + 1) + (opL (tab one1 k) q n + 1 * q (n - (k + 1)))
    have : n + 1 - (k + 1 + 1) = n - (k + 1) := by omega
    rw [this]
    omega
theorem Cc_pascal (m n : Nat) : Cc (m + 1) (n + 1) = Cc m (n + 1) + Cc (m + 1) n := cum_succ (Cc m) n n (Nat.le_refl _)
theorem Cc_zero : ∀ m, Cc m 0 = 1
  | 0 => rfl
  | m + 1 => by
    show opL (tab one1 0) (Cc m) 0 = 1
    rw [op_tab_zero, Cc_zero m]
    rfl
theorem Cc_one : ∀ n, Cc 1 n = 1
  | 0 => Cc_zero 1
  | n + 1 => by
    rw [Cc_pascal, Cc_one n]
    rfl
theorem Cc_sym : ∀ s i n, i + n = s → Cc (i + 1) n = Cc (n + 1) i
  | 0, i, n, h => by
    have h1 : i = 0 := by omega
    have h2 : n = 0 := by omega
    subst h1 h2
    rfl
  | s + 1, 0, n, h => by rw [Cc_one, Cc_zero]
  | s + 1, i + 1, 0, h => by rw [Cc_zero, Cc_one]
  | s + 1, i + 1, n + 1, h => by
    rw [Cc_pascal (i + 1) n, Cc_pascal (n + 1) i, Cc_sym s i (n + 1) (by omega), Cc_sym s (i + 1) n (by omega)]
    omega
theorem Cc_nn : ∀ m n, 0 ≤ Cc m n
  | 0, n => by
    show 0 ≤ (if n = 0 then (1 : Int) else 0)
    split <;> decide
  | m + 1, 0 => by rw [Cc_zero]; decide
  | m + 1, n + 1 => by
    rw [Cc_pascal]
    have := Cc_nn m (n + 1)
    have := Cc_nn (m + 1) n
    omega
theorem delta_succ (n : Nat) : delta (n + 1) = 0 := rfl
/-- parts of tills over one whole -/
def tillP (x z y : Int) (M n : Nat) : Int := x * z ^ n * y ^ (M - n)
theorem pw_till (x z y : Int) (M : Nat) : ∀ m n, n ≤ M → pw (tab (tillP x z y M) M) m n = Cc m n * (x ^ m * z ^ n * y ^ (m * M - n))
  | 0, n, _ => by
    show delta n = delta n * (x ^ 0 * z ^ n * y ^ (0 * M - n))
    cases n with
    | zero => simp [delta]
    | succ n => rw [delta_succ, Int.zero_mul]
  | m + 1, n, h => by
    show opL (tab (tillP x z y M) M) (pw (tab (tillP x z y M) M) m) n = opL (tab one1 n) (Cc m) n * _
    rw [op_tab_cut _ _ h, Int.mul_comm, ← opL_mul]
    refine op_tab_congr n fun k hk _ => ?_
    rw [pw_till x z y M m (n - k) (by omega)]
    show x * z ^ k * y ^ (M - k) * (Cc m (n - k) * (x ^ m * z ^ (n - k) * y ^ (m * M - (n - k)))) = 1 * (x ^ (m + 1) * z ^ n * y ^ ((m + 1) * M - n) * Cc m (n - k))
    by_cases hz : Cc m (n - k) = 0
    · rw [hz]
      simp
    · have e1 : z ^ k * z ^ (n - k) = z ^ n := by rw [← Int.pow_add, Nat.add_sub_cancel' hk]
      have e2 : y ^ (M - k) * y ^ (m * M - (n - k)) = y ^ ((m + 1) * M - n) := by
        rw [← Int.pow_add]
        congr 1
        cases m with
        | zero =>
          have : n - k = 0 := by
            cases e : n - k with
            | zero => rfl
            | succ j =>
              rw [e] at hz
              exact absurd (delta_succ j) hz
          have : n = k := by omega
          subst this
          omega
        | succ m =>
          have h1 : (m + 1 + 1) * M = (m + 1) * M + M := Nat.succ_mul _ _
          have h2 : (m + 1) * M = m * M + M := Nat.succ_mul _ _
          omega
      have e3 : x ^ (m + 1) = x ^ m * x := Int.pow_succ x m
      rw [← e1, ← e2, e3]
      grind
end Ev

set_option exponentiation.threshold 256
/-! rows of a choice; fractions that are alike -/
namespace Ev
open PySem
theorem fp_pascal (n : Int) : ∀ k : Nat, Builtin.Math.fallingProduct (n + 1) (k + 1) = Builtin.Math.fallingProduct n (k + 1) + ((k : Int) + 1) * Builtin.Math.fallingProduct n k
  | 0 => by
    rw [PySem.W.mc_fp_one, PySem.W.mc_fp_one, PySem.W.mc_fp_zero]
    show n + 1 = n + (0 + 1) * 1
    omega
  | k + 1 => by
    rw [PySem.W.mc_fp_succ (n + 1) (k + 1), fp_pascal n k, PySem.W.mc_fp_succ n (k + 1), PySem.W.mc_fp_succ n k]
    have : ((k + 1 : Nat) : Int) = (k : Int) + 1 := by omega
    rw [this]
    grind
theorem fp_self (k : Nat) : Builtin.Math.fallingProduct ((k + 1 : Nat) : Int) (k + 1) = ((k : Int) + 1) * Builtin.Math.fallingProduct (k : Int) k := by
  have e : ((k + 1 : Nat) : Int) = (k : Int) + 1 := by omega
  rw [e, fp_pascal, PySem.W.mc_fp_succ (k : Int) k, Int.sub_self, Int.mul_zero, Int.zero_add]
theorem fp_Cc : ∀ s i n : Nat, i + n = s → Builtin.Math.fallingProduct ((i + n : Nat) : Int) n = Builtin.Math.fallingProduct (n : Int) n * Cc (i + 1) n
  | _, i, 0, _ => by
    rw [PySem.W.mc_fp_zero, PySem.W.mc_fp_zero, Cc_zero]
    rfl
  | _, 0, n + 1, _ => by
    rw [Cc_one, Int.mul_one, Nat.zero_add]
  | 0, i + 1, n + 1, h => by omega
  | s + 1, i + 1, n + 1, h => by
    have e : ((i + 1 + (n + 1) : Nat) : Int) = ((i + (n + 1) : Nat) : Int) + 1 := by omega
    have e2 : i + (n + 1) = i + 1 + n := by omega
    have h1 := fp_Cc s i (n + 1) (by omega)
    have h2 := fp_Cc s (i + 1) n (by omega)
    rw [e, fp_pascal, h1, Cc_pascal (i + 1) n]
    rw [e2, h2, fp_self]
    grind
theorem comb_Cc {m : Nat} (hm : 1 ≤ m) (n : Nat) : PySem.W.mcComb ((m : Int) - 1 + n) n = Cc m n := by
  obtain ⟨i, rfl⟩ : ∃ i, m = i + 1 := ⟨m - 1, by omega⟩
  have ea : ((i + 1 : Nat) : Int) - 1 + (n : Int) = ((i + n : Nat) : Int) := by omega
  rw [ea]
  by_cases h : n ≤ i
  · rw [PySem.W.mcComb_at (m := (n : Int)) (by omega) (by omega) (by omega), Int.toNat_natCast, fp_Cc (i + n) i n rfl]
    have := PySem.W.mc_fp_pos (n := (n : Int)) n (by omega)
    exact Int.mul_ediv_cancel_left _ (by omega)
  · rw [PySem.W.mcComb_at (m := (i : Int)) (by omega) (by omega) (by omega), Int.toNat_natCast, Nat.add_comm i n, fp_Cc (n + i) n i rfl, Cc_sym (i + n) i n rfl]
    have := PySem.W.mc_fp_pos (n := (i : Int)) i (by omega)
    exact Int.mul_ediv_cancel_left _ (by omega)
/-! ### fractions -/
theorem frac_eq {c b x y : Int} (hb : 0 < b) (lo : Low x y) (e : c * y = x * b) : fA c b = x ∧ fB c b = y := by
  have b0 : b ≠ 0 := by omega
  have e1 := fA_mul (a := c) b0
  have e2 := fB_mul (a := c) b0
  refine low_inj (low_f b0) lo ?_
  refine Int.eq_of_mul_eq_mul_left (dv_ne (a := c) b0) ?_
  rw [← Int.mul_assoc, ← e1, e, Int.mul_left_comm, ← e2]
theorem frac_same {c b c' b' : Int} (hb : 0 < b) (hb' : 0 < b') (e : c * b' = c' * b) : fA c b = fA c' b' ∧ fB c b = fB c' b' := by
  have b0 : b' ≠ 0 := by omega
  have e1 := fA_mul (a := c') b0
  have e2 := fB_mul (a := c') b0
  refine frac_eq hb (low_f b0) ?_
  refine Int.eq_of_mul_eq_mul_left (dv_ne (a := c') b0) ?_
  rw [Int.mul_left_comm, ← e2, ← Int.mul_assoc, ← e1]
  exact e
/-- one part of a whole and another one -/
theorem plus_part {A B x y W s t : Int} (hB : 0 < B) (hy : 0 < y) (e1 : A * W = B * s) (e2 : x * W = y * t) :
    Low (fA (A * y + x * B) (B * y)) (fB (A * y + x * B) (B * y)) ∧ fA (A * y + x * B) (B * y) * W = fB (A * y + x * B) (B * y) * (s + t) := by
  have m0 : B * y ≠ 0 := Int.mul_ne_zero (by omega) (by omega)
  refine ⟨low_f m0, ?_⟩
  have f1 := fA_mul (a := A * y + x * B) m0
  have f2 := fB_mul (a := A * y + x * B) m0
  refine Int.eq_of_mul_eq_mul_left (dv_ne (a := A * y + x * B) m0) ?_
  rw [← Int.mul_assoc, ← f1, ← Int.mul_assoc, ← f2]
  grind
theorem times_part {A B x y W V s t : Int} (hB : 0 < B) (hy : 0 < y) (e1 : A * W = B * s) (e2 : x * V = y * t) :
    Low (fA (A * x) (B * y)) (fB (A * x) (B * y)) ∧ fA (A * x) (B * y) * (W * V) = fB (A * x) (B * y) * (s * t) := by
  have m0 : B * y ≠ 0 := Int.mul_ne_zero (by omega) (by omega)
  refine ⟨low_f m0, ?_⟩
  have f1 := fA_mul (a := A * x) m0
  have f2 := fB_mul (a := A * x) m0
  refine Int.eq_of_mul_eq_mul_left (dv_ne (a := A * x) m0) ?_
  have h1 : dv (A * x) (B * y) * (fA (A * x) (B * y) * (W * V)) = (A * x) * (W * V) := by rw [← Int.mul_assoc, ← f1]
  have h2 : dv (A * x) (B * y) * (fB (A * x) (B * y) * (s * t)) = (B * y) * (s * t) := by rw [← Int.mul_assoc, ← f2]
  rw [h1, h2]
  have h3 : A * x * (W * V) = (A * W) * (x * V) := by grind
  rw [h3, e1, e2]
  grind
/-- a part of a whole in lowest terms -/
theorem low_part {c b : Int} (hb : 0 < b) : fA c b * b = fB c b * c := by
  have b0 : b ≠ 0 := by omega
  have e1 := fA_mul (a := c) b0
  have e2 := fB_mul (a := c) b0
  refine Int.eq_of_mul_eq_mul_left (dv_ne (a := c) b0) ?_
  rw [← Int.mul_assoc, ← e1, ← Int.mul_assoc, ← e2, Int.mul_comm]
theorem low_same {A B c b : Int} (hb : 0 < b) (lo : Low A B) (e : A * b = B * c) : A = fA c b ∧ B = fB c b := by
  have h := frac_eq hb lo (show c * B = A * b by rw [e, Int.mul_comm])
  exact ⟨h.1.symm, h.2.symm⟩
end Ev

set_option exponentiation.threshold 20000
/-! math.lcm and math.comb, by the hand layer; sizes of powers -/
namespace Ev
open PySem PySem.Spec PyProof.Rows L2
def rLcm : List V → Hp → VK → Prop := fun vs H Q => ∃ a b : Int, vs = [.int a, .int b] ∧ a.natAbs < 2 ^ 13000 ∧ b.natAbs < 2 ^ 13000 ∧ Q (.int ((Nat.lcm a.natAbs b.natAbs : Nat) : Int)) H
theorem lcm_small {m n : Nat} (hm : m < 2 ^ 13000) (hn : n < 2 ^ 13000) : (Nat.lcm m n).log2 < 26001 := by
  refine PySem.Flt.log2_lt_of (n := Nat.lcm m n) (by decide) ?_
  have h1 := PySem.W.mc_lcm_le m n
  have h2 : m * n < 2 ^ 13000 * 2 ^ 13000 := Nat.mul_lt_mul'' hm hn
  rw [← Nat.pow_add] at h2
  exact Nat.lt_of_le_of_lt h1 (Nat.lt_trans h2 (Nat.pow_lt_pow_right (by decide) (by decide)))
theorem cr_lcm {X : Cx} : CallR X (.builtin "math.lcm") rLcm := by
  intro pins s σ H vs us Q I r h
  obtain ⟨a, b, rfl, ha, hb, q⟩ := h
  obtain ⟨t, u, rfl⟩ := Vals.int2 r
  have l1 : (max 1 a.natAbs).log2 < 13000 := PySem.Flt.log2_lt_of (by decide) (Nat.max_lt.mpr ⟨Nat.one_lt_pow (by decide) (by decide), ha⟩)
  have l2 : (max a.natAbs b.natAbs).log2 < 13000 := PySem.Flt.log2_lt_of (by decide) (Nat.max_lt.mpr ⟨ha, hb⟩)
  have l3 := lcm_small ha hb
  have e := PySem.W.mc_lcm_one a.natAbs
  have big : 26001 ≤ bitsLine := by decide
  refine call_function_meets PySem.W.MGF.kind_lcm PySem.W.MGF.plain_lcm PySem.W.MGF.entry_lcm (PySem.W.MGF.args_lcm _ _) (PySem.W.mg_run_lcm a t b u (by omega) (by omega) ?_).meets ?_
  · rw [e]
    show (Nat.lcm a.natAbs b.natAbs).log2 < bitsLine
    omega
  · rw [e]
    exact ⟨.int _, H, I.tok _, ⟨_, rfl⟩, q⟩
def rComb : List V → Hp → VK → Prop := fun vs H Q => ∃ a b : Int, vs = [.int a, .int b] ∧ 0 ≤ a ∧ 0 ≤ b ∧ a < 2 ^ 64 ∧ b ≤ 9000 ∧ Q (.int (PySem.W.mcComb a b)) H
theorem cr_comb {X : Cx} : CallR X (.builtin "math.comb") rComb := by
  intro pins s σ H vs us Q I r h
  obtain ⟨a, b, rfl, ha, hb, h1, h2, q⟩ := h
  obtain ⟨t, u, rfl⟩ := Vals.int2 r
  exact PySem.W.mc_comb ha hb h1 (.inl h2) fun _ => ⟨.int _, H, I.tok _, ⟨_, rfl⟩, q⟩
theorem pow_lt {b : Int} {s : Nat} (h : b.natAbs < 2 ^ s) (n : Nat) : (b ^ n).natAbs < 2 ^ (s * n + 1) := by
  rw [Int.natAbs_pow]
  have h1 : b.natAbs ^ n ≤ (2 ^ s) ^ n := Nat.pow_le_pow_left (Nat.le_of_lt h) n
  rw [← Nat.pow_mul] at h1
  exact Nat.lt_of_le_of_lt h1 (Nat.pow_lt_pow_right (by decide) (Nat.lt_succ_self _))
theorem and_one (e : Nat) : Builtin.bitAnd (e : Int) 1 = ((e % 2 : Nat) : Int) := by
  have z : Builtin.bitAnd (e : Int) (2 ^ 1 - 1) = (e : Int) % 2 ^ 1 := Bits.bitAnd_mask 1 (by omega)
  rw [show ((2 : Int) ^ 1 - 1) = 1 by decide, show ((2 : Int) ^ 1) = 2 by decide] at z
  omega
/-! ### rows of pairs -/
abbrev prD (x y : Int) : PyData := .tuple [.int x, .int y]
section
variable {K : PySem.W.Frag} {Z : Addr → Prop} {H : Hp}
theorem dx_prD {v : V} {x y : Int} (h : Dx K Z H v (prD x y)) : ∃ a, v = .ref a ∧ SqT K H a [.int x, .int y] := by
  obtain ⟨a, xs, rfl, hs, hd⟩ := dx_tup h
  cases hd with
  | cons h1 r1 =>
    cases r1 with
    | cons h2 r2 =>
      cases r2
      rw [dx_int h1, dx_int h2] at hs
      exact ⟨a, rfl, hs⟩
theorem dx_word {v : V} {x : Str} {d : PyData} (h : Dx K Z H v (.tuple [.str x, d])) : ∃ a u, v = .ref a ∧ SqT K H a [.str x, u] ∧ Dx K Z H u d := by
  obtain ⟨a, xs, rfl, hs, hd⟩ := dx_tup h
  cases hd with
  | cons h1 r1 =>
    cases r1 with
    | cons h2 r2 =>
      cases r2
      rw [dx_str h1] at hs
      exact ⟨a, _, rfl, hs, h2⟩
theorem prD_dx {a : Addr} {x y : Int} (h : SqT K H a [.int x, .int y]) : Dx K Z H (.ref a) (prD x y) := .tup h (.cons (.int _) (.cons (.int _) .nil))
theorem prs_at {vs : List V} {l : List (Int × Int)} {i : Nat} {v : V} (h : DxAll K Z H vs (l.map fun q => prD q.1 q.2)) (e : vs[i]? = some v) :
    ∃ x y a, l[i]? = some (x, y) ∧ v = .ref a ∧ SqT K H a [.int x, .int y] := by
  obtain ⟨d, h1, h2⟩ := dxAll_get h e
  rw [List.getElem?_map] at h1
  cases q : l[i]? with
  | none => rw [q] at h1; cases h1
  | some p =>
    rw [q] at h1
    cases h1
    obtain ⟨a, ea, hs⟩ := dx_prD h2
    exact ⟨p.1, p.2, a, rfl, ea, hs⟩
theorem prs_to {vs : List V} {l : List (Int × Int)} {i : Nat} {p : Int × Int} (h : DxAll K Z H vs (l.map fun q => prD q.1 q.2)) (e : l[i]? = some p) :
    ∃ a, vs[i]? = some (.ref a) ∧ SqT K H a [.int p.1, .int p.2] := by
  obtain ⟨v, h1, h2⟩ := dxAll_at h (i := i) (d := prD p.1 p.2) (by rw [List.getElem?_map, e]; rfl)
  obtain ⟨a, rfl, hs⟩ := dx_prD h2
  exact ⟨a, h1, hs⟩
theorem ix0 {x : V} {xs : List V} : atI (x :: xs) 0 = some x := atI_nat (j := 0) rfl
theorem ix1 {x y : V} {xs : List V} : atI (x :: y :: xs) 1 = some y := atI_nat (j := 1) rfl
theorem dxAll_new {p : Addr} {o : HO} {vs : List V} {ds : List PyData} (hp : H p = none) (h : DxAll K Z H vs ds) : DxAll K Z (upd H p o) vs ds := dxAll_same (same_new hp) h
end
/-! ### the whole of which weights are parts -/
def wholeN (l : List (Int × Int × Int)) : Nat := l.foldl (fun w q => Nat.lcm w q.2.2.natAbs) 1
def sdD (q : Int × Int × Int) : PyData := .tuple [.int q.1, .tuple [.int q.2.1, .int q.2.2]]
def wts (l : List (Int × Int × Int)) : List (Int × Int) := l.map fun q => (q.1, q.2.1 * ((wholeN l : Int) / q.2.2))
theorem fold_lcm_dvd : ∀ (l : List (Int × Int × Int)) (w : Nat), w ∣ l.foldl (fun w q => Nat.lcm w q.2.2.natAbs) w
  | [], w => Nat.dvd_refl _
  | q :: l, w => Nat.dvd_trans (Nat.dvd_lcm_left _ _) (fold_lcm_dvd l _)
theorem fold_lcm_pos : ∀ (l : List (Int × Int × Int)) (w : Nat), 0 < w → (∀ q ∈ l, 1 ≤ q.2.2) → 0 < l.foldl (fun w q => Nat.lcm w q.2.2.natAbs) w
  | [], w, h, _ => h
  | q :: l, w, h, hl => fold_lcm_pos l _ (Nat.lcm_pos h (by have := hl q (List.mem_cons_self ..); omega)) fun x hx => hl x (List.mem_cons_of_mem _ hx)
theorem fold_lcm_mem : ∀ (l : List (Int × Int × Int)) (w : Nat), ∀ q ∈ l, q.2.2.natAbs ∣ l.foldl (fun w q => Nat.lcm w q.2.2.natAbs) w
  | [], w, q, h => nomatch h
  | p :: l, w, q, h => by
    rcases List.mem_cons.mp h with rfl | h
    · exact Nat.dvd_trans (Nat.dvd_lcm_right _ _) (fold_lcm_dvd l _)
    · exact fold_lcm_mem l _ q h
theorem whole_take {l : List (Int × Int × Int)} {i : Nat} {q : Int × Int × Int} (h : l[i]? = some q) : wholeN (l.take (i + 1)) = Nat.lcm (wholeN (l.take i)) q.2.2.natAbs := by
  unfold wholeN
  rw [List.take_add_one, h, List.foldl_append]
  rfl
theorem whole_part (l : List (Int × Int × Int)) (i : Nat) : wholeN (l.take i) ∣ wholeN l := by
  have e : wholeN l = (l.drop i).foldl (fun w q => Nat.lcm w q.2.2.natAbs) (wholeN (l.take i)) := by
    unfold wholeN
    rw [← List.foldl_append, List.take_append_drop]
  rw [e]
  exact fold_lcm_dvd _ _
theorem whole_pos {l : List (Int × Int × Int)} (h : ∀ q ∈ l, 1 ≤ q.2.2) : 0 < wholeN l := fold_lcm_pos l 1 (by decide) h
theorem whole_mem {l : List (Int × Int × Int)} {q : Int × Int × Int} (h : q ∈ l) : q.2.2.natAbs ∣ wholeN l := fold_lcm_mem l 1 q h
/-! ### lists and dicts that are new since a heap -/
/-- beside the loom's two, and new -/
def ZN (L F : Addr) (H : Hp) : Addr → Prop := fun a => a ≠ L ∧ a ≠ F ∧ H a = none
theorem none_back {L F p : Addr} {H G : Hp} (k : Kp L F H G) (h : G p = none) (l : p ≠ L) (f : p ≠ F) : H p = none := by
  cases e : H p with
  | none => rfl
  | some u =>
    rw [k p u l f e] at h
    cases h
theorem dx_kpn {K : PySem.W.Frag} {L F : Addr} {B H H' : Hp} (k : Kp L F H H') (hM : Lm H L F) {v : V} {d : PyData} (h : Dx K (ZN L F B) H v d) : Dx K (ZN L F B) H' v d :=
  dx_keep (fun _ _ e => k.sqT hM e) (fun _ _ z e => k _ _ z.1 z.2.1 e) h
theorem dxAll_kpn {K : PySem.W.Frag} {L F : Addr} {B H H' : Hp} (k : Kp L F H H') (hM : Lm H L F) {v : List V} {d : List PyData} (h : DxAll K (ZN L F B) H v d) : DxAll K (ZN L F B) H' v d :=
  dxAll_keep (fun _ _ e => k.sqT hM e) (fun _ _ z e => k _ _ z.1 z.2.1 e) h
mutual
theorem dx_monoL {K : PySem.W.Frag} {Z Z' : Addr → Prop} {H : Hp} (hz : ∀ a, Z a → Z' a) : ∀ {v : V} {d : PyData}, Dx K Z H v d → Dx K Z' H v d
  | _, _, .non => .non
  | _, _, .bl b => .bl b
  | _, _, .int i => .int i
  | _, _, .str x => .str x
  | _, _, .lst e z h => .lst e (hz _ z) (dxAll_monoL hz h)
  | _, _, .tup e h => .tup e (dxAll_monoL hz h)
  | _, _, .dct e z h => .dct e (hz _ z) (dxKv_monoL hz h)
theorem dxAll_monoL {K : PySem.W.Frag} {Z Z' : Addr → Prop} {H : Hp} (hz : ∀ a, Z a → Z' a) : ∀ {vs : List V} {ds : List PyData}, DxAll K Z H vs ds → DxAll K Z' H vs ds
  | _, _, .nil => .nil
  | _, _, .cons h r => .cons (dx_monoL hz h) (dxAll_monoL hz r)
theorem dxKv_monoL {K : PySem.W.Frag} {Z Z' : Addr → Prop} {H : Hp} (hz : ∀ a, Z a → Z' a) : ∀ {vs : List (Key × V)} {ds : List (PyData × PyData)}, DxKv K Z H vs ds → DxKv K Z' H vs ds
  | _, _, .nil => .nil
  | _, _, .cons h r => .cons (dx_monoL hz h) (dxKv_monoL hz r)
end
/-- new since a later heap is new since an earlier one -/
theorem dx_back {K : PySem.W.Frag} {L F : Addr} {B B' H : Hp} (k : Kp L F B B') {v : V} {d : PyData} (h : Dx K (ZN L F B') H v d) : Dx K (ZN L F B) H v d :=
  dx_monoL (fun _ z => ⟨z.1, z.2.1, none_back k z.2.2 z.1 z.2.1⟩) h
theorem dxAll_back {K : PySem.W.Frag} {L F : Addr} {B B' H : Hp} (k : Kp L F B B') {v : List V} {d : List PyData} (h : DxAll K (ZN L F B') H v d) : DxAll K (ZN L F B) H v d :=
  dxAll_monoL (fun _ z => ⟨z.1, z.2.1, none_back k z.2.2 z.1 z.2.1⟩) h
theorem dx_zl {K : PySem.W.Frag} {L F : Addr} {B H : Hp} {v : V} {d : PyData} (h : Dx K (ZN L F B) H v d) : Dx K (ZL L F) H v d := dx_monoL (fun _ z => ⟨z.1, z.2.1⟩) h
mutual
/-- no list, no dict -/
def noL : PyData → Bool
  | .list _ => false
  | .dict _ => false
  | .tuple xs => noLs xs
  | _ => true
def noLs : List PyData → Bool
  | [] => true
  | x :: xs => noL x && noLs xs
end
mutual
theorem dx_any {K : PySem.W.Frag} {Z Z' : Addr → Prop} {H : Hp} : ∀ {v : V} {d : PyData}, Dx K Z H v d → noL d = true → Dx K Z' H v d
  | _, _, .non, _ => .non
  | _, _, .bl b, _ => .bl b
  | _, _, .int i, _ => .int i
  | _, _, .str x, _ => .str x
  | _, _, .lst e z h, n => by simp [noL] at n
  | _, _, .tup e h, n => .tup e (dxAll_any h (by simpa only [noL] using n))
  | _, _, .dct e z h, n => by simp [noL] at n
theorem dxAll_any {K : PySem.W.Frag} {Z Z' : Addr → Prop} {H : Hp} : ∀ {vs : List V} {ds : List PyData}, DxAll K Z H vs ds → noLs ds = true → DxAll K Z' H vs ds
  | _, _, .nil, _ => .nil
  | _, d :: ds, .cons h r, n => by
    have n' : (noL d && noLs ds) = true := by simpa only [noLs] using n
    rw [Bool.and_eq_true] at n'
    exact .cons (dx_any h n'.1) (dxAll_any r n'.2)
end
end Ev

set_option exponentiation.threshold 256
/-! t[::-1], t a tuple that is not empty -/
namespace Ev
open PySem PySem.Spec PyProof.Rows L2
section
variable {prog : Program} {w : World} {A : Around} {E : Value → Shared → Prop} {s : Shared}
theorem applied_rev {sl : Addr} {vl vu vs : Value} {n : Nat} {Q : Int × Int × Nat → Shared → Prop} (hs : s.heap.IsSliceOf sl vl vu vs) (pl : IsPart vl none) (pu : IsPart vu none) (ps : IsPart vs (some (-1)))
    (h : Q ((n : Int) - 1, -1, n) s) : wpAny (model prog w) A (Builtin.Slice.sliceApplied (.ref sl) (pure (n : Int))) Q E s := by
  obtain ⟨os, hos, hcs, hds⟩ := id hs
  unfold Builtin.Slice.sliceApplied Builtin.Slice.sliceFields
  refine wpAny_bind (wpAny_bind (wpAny_field hos hds (x := vl) rfl (wpAny_bind (wpAny_field hos hds (x := vu) rfl (wpAny_bind (wpAny_field hos hds (x := vs) rfl (wpAny_pure ?_)))))))
  refine wpAny_bind (HT.slicePart_ ps ?_)
  show wpAny _ _ (if ((-1 : Int) == 0) = true then _ else _) _ _ s
  rw [if_neg (by decide)]
  refine wpAny_bind (HT.slicePart_ pl (wpAny_bind (HT.slicePart_ pu (wpAny_bind (wpAny_pure ?_)))))
  show wpAny _ _ (match Builtin.Slice.sliceAdjust none none (-1) (n : Int) with | (lo, hi) => pure (lo, (-1 : Int), Builtin.Slice.slicePlaces lo hi (-1))) _ _ s
  have e : Builtin.Slice.sliceAdjust none none (-1) (n : Int) = ((n : Int) - 1, -1) := rfl
  rw [e]
  show wpAny _ _ (pure ((n : Int) - 1, (-1 : Int), Builtin.Slice.slicePlaces ((n : Int) - 1) (-1) (-1))) _ _ s
  have e2 : Builtin.Slice.slicePlaces ((n : Int) - 1) (-1) (-1) = n := by
    unfold Builtin.Slice.slicePlaces
    rw [if_neg (by decide)]
    by_cases h0 : (n : Int) - 1 > -1
    · rw [if_pos h0, show (- -1 : Int) = 1 by decide, Int.ediv_one]
      omega
    · rw [if_neg h0]
      omega
  rw [e2]
  exact wpAny_pure h
theorem pick_rev (xs : Array Value) : ((List.range xs.size).filterMap fun (m : Nat) => xs[((xs.size : Int) - 1 + (m : Int) * (-1)).toNat]?).toArray = xs.toList.reverse.toArray := by
  have e : (List.range xs.size).filterMap (fun (m : Nat) => xs[((xs.size : Int) - 1 + (m : Int) * (-1)).toNat]?) = ((List.range xs.size).map fun k => xs.size - 1 - k).filterMap (xs[·]?) := by
    have e1 : (List.range xs.size).map (fun (m : Nat) => ((xs.size : Int) - 1 + (m : Int) * (-1)).toNat) = (List.range xs.size).map fun k => xs.size - 1 - k := by
      refine List.map_congr_left fun m hm => ?_
      have h := List.mem_range.mp hm
      omega
    rw [← e1, List.filterMap_map]
    rfl
  rw [e, PySem.W.krv_range, List.filterMap_reverse, PySem.W.krv_all]
theorem getItem_rev {t sl : Addr} {items : Array Value} {vl vu vs : Value} {Q : Value → Shared → Prop} (ht : IsTup s.heap t items) (hs : s.heap.IsSliceOf sl vl vu vs) (pl : IsPart vl none) (pu : IsPart vu none) (ps : IsPart vs (some (-1)))
    (h : Q (.ref s.heap.objs.size) { s with heap := s.heap.push { cls := .type "tuple", data := .seq items.toList.reverse.toArray } })
    (hsz : items.size ≤ sizeLine) : wpAny (model prog w) A (getItem (.ref t) (.ref sl)) Q E s := by
  have htake : sizeOk (.seq items.toList.reverse.toArray) := by
    show items.toList.reverse.toArray.size ≤ sizeLine
    rw [List.size_toArray, List.length_reverse, Array.length_toList]
    exact hsz
  obtain ⟨os, hos, hcs, hds⟩ := id hs
  have hTs : s.TypeIs (.ref sl) "slice" := ⟨os, hos, hcs⟩
  unfold getItem
  try with_reducible refine wpAny_holding ?_
  first | refine wpAny_bind (wpAny_pure ?_) | skip
  refine wpAny_bind (wpAny_sequenceKey ht.typeIs (by decide) ?_)
  refine wpAny_bind (wpAny_callSpecial?_slot (name := Str.ofString "__getitem__") ht.typeIs PyProof.Rows.slot_tuple_getitem
    (wpAny_call_entry PyProof.Rows.slot_tuple_getitem ht.typeIs entry_tuple_getitem ?_ (args_tuple_getitem _ _)))
  show wpAny _ _ (Builtin.Tuple.tupleItemsOf (.ref t) >>= _) _ _ s
  refine wpAny_bind (tupleItemsOf_ ht ?_)
  refine wpAny_bind (wpAny_typeOf hTs ?_)
  rw [if_pos (by decide)]
  refine wpAny_bind (applied_rev hs pl pu ps ?_)
  have hno : ¬ ((((items.size : Int) - 1) == 0 && (-1 : Int) == 1 && items.size == items.size) = true) := by
    intro q
    rw [Bool.and_eq_true, Bool.and_eq_true] at q
    exact absurd q.1.2 (by decide)
  show wpAny _ _ (if ((((items.size : Int) - 1) == 0 && (-1 : Int) == 1 && items.size == items.size) = true) then _ else _) _ _ s
  rw [if_neg hno, pick_rev]
  first
    | exact wpAny_bind (m := Builtin.Tuple.tupleExact _) (wpAny_newObj_type (wpAny_pure ⟨_, rfl, wpAny_pure h⟩) htake)
    | exact wpAny_bind (m := Builtin.Tuple.tupleExact _) (wpAny_newObj_type (wpAny_bind (wpAny_pure (wpAny_pure ⟨_, rfl, wpAny_pure h⟩))) htake)
    | exact wpAny_bind (wpAny_bind (m := Builtin.Tuple.tupleExact _) (wpAny_newObj_type (wpAny_pure (wpAny_pure ⟨_, rfl, wpAny_pure h⟩)) htake))
    | exact wpAny_bind (wpAny_bind (m := Builtin.Tuple.tupleExact _) (wpAny_newObj_type (wpAny_pure ⟨_, rfl, wpAny_pure h⟩) htake))
end
section
variable {X : Cx}
def tRevT (K : PySem.W.Frag) (te : TE) : TE := fun σ H Q => te σ H fun x H1 => ∃ a xs, x = .ref a ∧ SqT K H1 a xs ∧ ∀ p, H1 p = none → Q (.ref p) (upd H1 p (.tup xs.reverse))
theorem pe_revT {e : Expr} {te : TE} {k : Nat} {p1 p2 p3 pos : Pos} (he : PE X e te) : PE X (.Subscript e (.Slice none none (some (.UnaryOp .USub (.Constant (.int 1) k p1) p2)) p3) pos) (tRevT X.K te) := by
  refine ⟨fun pins s σ H Q I h => ?_⟩
  refine Subscript_ (thn (he.run pins s σ H _ I h) fun v s1 ⟨x, H1, I1, r1, q1⟩ => ?_)
  obtain ⟨a, xs, ex, hx, q⟩ := q1
  subst ex
  cases r1
  have hst : PO X (some (.UnaryOp .USub (.Constant (.int 1) k p1) p2)) (tPart (tUn (rU fun i => .int (-i)) (tC (.int 1)))) := po_some (pe_un un_neg pe_int)
  refine wpAny_Slice (thn (po_none.run pins s1 σ H1 (fun o H2 => o = none ∧ H2 = H1) I1 ⟨rfl, rfl⟩) fun vl s2 ⟨l, H2, I2, pl, el, e2⟩ => ?_)
  subst el e2
  refine thn (po_none.run pins s2 σ H2 (fun o H3 => o = none ∧ H3 = H2) I2 ⟨rfl, rfl⟩) fun vu s3 ⟨u, H3, I3, pu, eu, e3⟩ => ?_
  subst eu e3
  refine thn (hst.run pins s3 σ H3 (fun o H4 => o = some (-1) ∧ H4 = H3) I3 ⟨1, rfl, -1, rfl, rfl, rfl⟩) fun vs s4 ⟨o, H4, I4, ps, eo, e4⟩ => ?_
  subst eo e4
  have I5 : Inv X pins σ H4 { s4 with heap := s4.heap.push { cls := .type "slice", data := .fields #[vl, vu, vs] } } := I4.kept (t' := s4.toks) fun b ob q => Heap.get?_push_of_some _ q
  obtain ⟨its, r, ht, hz⟩ := I5.tuple hx
  have hlen := r.length
  show wpAny (model X.prog X.w) X.A (subscriptTail e (.Slice none none (some (.UnaryOp .USub (.Constant (.int 1) k p1) p2)) p3) (.ref a) (.ref s4.heap.objs.size)) (EP X pins σ Q) X.xe { s4 with heap := s4.heap.push { cls := .type "slice", data := .fields #[vl, vu, vs] } }
  refine tail_any (ops := [.ref a, .ref s4.heap.objs.size]) ht.typeIs (PyProof.Rows.slot_tuple_getitem.lookup) ?_ (by with_unfolding_all rfl)
  refine getItem_rev ht (Heap.IsSliceOf.new _ vl vu vs) pl pu ps ?_ (by rw [List.size_toArray]; omega)
  refine ⟨.ref _, _, I5.laid (t' := s4.toks) (o := .tup xs.reverse) (fun b ob q => Heap.get?_push_of_some _ q) (Nat.le_refl _) ?_, rfl, q _ (I5.hok.fresh (Nat.le_refl _))⟩
  exact ⟨by rw [List.length_reverse]; exact hz, _, r.reverse, IsTup.new _ _⟩
/-- t + u: somewhere stand the items of both -/
def rCatS (K : PySem.W.Frag) : R2 := fun x y H Q => ∃ a b xs ys, x = .ref a ∧ y = .ref b ∧ SqT K H a xs ∧ SqT K H b ys ∧ xs.length + ys.length ≤ sizeLine ∧
  ∀ (H' : Hp) (p : Addr), Same H H' → SqT K H' p (xs ++ ys) → Q (.ref p) H'
theorem op_catS : OpR X (binaryOp .Add) (rCatS X.K) := by
  intro pins s σ H x y v u Q I rx ry h
  obtain ⟨a, b, xs, ys, rfl, rfl, ha, hb, hz, q⟩ := h
  refine op_catA pins s σ H _ _ v u Q I rx ry ⟨a, b, xs, ys, rfl, rfl, ha, hb, hz, fun e => ?_, fun _ e => ?_, fun _ _ p hp => ?_⟩
  · subst e
    exact q H b (Same.refl H) hb
  · subst e
    refine q H a (Same.refl H) ?_
    rw [List.append_nil]
    exact ha
  · exact q _ p (same_new hp) (SqT.of upd_same)
/-- t[lo:hi]: somewhere stand its items -/
def rSlS (K : PySem.W.Frag) : V → Option Int → Option Int → Hp → VK → Prop := fun x lo hi H Q => ∃ a xs, x = .ref a ∧ SqT K H a xs ∧ ∀ (H' : Hp) (p : Addr), Same H H' → SqT K H' p (cutV xs lo hi) → Q (.ref p) H'
theorem sl_tupS : SlR X (rSlS X.K) := by
  intro pins s σ H x v vl vu lo hi sl Q I rx hs pl pu h
  obtain ⟨a, xs, rfl, hx, q⟩ := h
  refine sl_tupA pins s σ H _ v vl vu lo hi sl Q I rx hs pl pu ⟨a, xs, rfl, hx, fun e => ?_, fun _ p hp => q _ p (same_new hp) (SqT.of upd_same)⟩
  refine q H a (Same.refl H) ?_
  have z : cutV xs lo hi = xs := by
    unfold cutV
    rw [e.1, e.2, List.drop_zero, Nat.sub_zero, List.take_of_length_le (Nat.le_refl _)]
  rw [z]
  exact hx
end
end Ev

set_option exponentiation.threshold 256
namespace Ev
open PySem PySem.Spec PyProof.Rows L2
def topS (i : Nat) : Stmt := PySem.Challenge.pw_everystart_k05_whole_sums_of_throws.main.body.getD i (.Pass ⟨0, 0, 0, 0⟩)
abbrev s_power : Stmt := topS 5
theorem sc_power : FnScope ["base", "exponent", "result"] ["base", "exponent"] (defScope s_power) := ⟨rfl, rfl, rfl, by decide +kernel, rfl, by decide +kernel, by decide +kernel⟩
abbrev s_lowest : Stmt := topS 7
theorem sc_lowest : FnScope ["a", "b", "divisor"] ["a", "b"] (defScope s_lowest) := ⟨rfl, rfl, rfl, by decide +kernel, rfl, by decide +kernel, by decide +kernel⟩
abbrev s_side_weights : Stmt := topS 9
theorem sc_side_weights : FnScope ["sides", "whole", "_", "share", "number"] ["sides"] (defScope s_side_weights) := ⟨rfl, rfl, rfl, by decide +kernel, rfl, by decide +kernel, by decide +kernel⟩
abbrev s_side_share : Stmt := topS 10
theorem sc_side_share : FnScope ["die", "number"] ["die", "number"] (defScope s_side_share) := ⟨rfl, rfl, rfl, by decide +kernel, rfl, by decide +kernel, by decide +kernel⟩
abbrev s_sum_share : Stmt := topS 11
theorem sc_sum_share : FnScope ["die", "many", "number", "word", "held", "weights", "whole", "total", "weight"] ["die", "many", "number"] (defScope s_sum_share) := ⟨rfl, rfl, rfl, by decide +kernel, rfl, by decide +kernel, by decide +kernel⟩
abbrev s_misses_share : Stmt := topS 12
theorem sc_misses_share : FnScope ["share", "many", "number", "hit", "whole", "rows"] ["share", "many", "number"] (defScope s_misses_share) := ⟨rfl, rfl, rfl, by decide +kernel, rfl, by decide +kernel, by decide +kernel⟩
abbrev s_throw_weights : Stmt := topS 13
theorem sc_throw_weights : FnScope ["weights", "many", "most", "least", "first", "step", "number", "_", "rest", "steps", "rows", "weight", "at"] ["weights", "many", "most"] (defScope s_throw_weights) := ⟨rfl, rfl, rfl, by decide +kernel, rfl, by decide +kernel, by decide +kernel⟩
abbrev s_power_weights : Stmt := topS 14
theorem sc_power_weights : FnScope ["first", "rest", "many", "steps", "rows", "place", "total", "at", "weight"] ["first", "rest", "many", "steps"] (defScope s_power_weights) := ⟨rfl, rfl, rfl, by decide +kernel, rfl, by decide +kernel, by decide +kernel⟩
abbrev s_loom : Stmt := topS 16
theorem sc_loom : FnScope ["script", "cell", "cells", "stirred"] ["script"] (defScope s_loom) := ⟨rfl, rfl, rfl, by decide +kernel, rfl, by decide +kernel, by decide +kernel⟩
abbrev s_draw : Stmt := topS 17
theorem sc_draw : FnScope ["loom", "many", "cell", "one"] ["loom", "many"] (defScope s_draw) := ⟨rfl, rfl, rfl, by decide +kernel, rfl, by decide +kernel, by decide +kernel⟩
abbrev s_pick : Stmt := topS 18
theorem sc_pick : FnScope ["loom", "things"] ["loom", "things"] (defScope s_pick) := ⟨rfl, rfl, rfl, by decide +kernel, rfl, by decide +kernel, by decide +kernel⟩
abbrev s_mixed : Stmt := topS 19
theorem sc_mixed : FnScope ["loom", "things", "rest", "found"] ["loom", "things"] (defScope s_mixed) := ⟨rfl, rfl, rfl, by decide +kernel, rfl, by decide +kernel, by decide +kernel⟩
abbrev s_gcd : Stmt := topS 20
theorem sc_gcd : FnScope ["a", "b"] ["a", "b"] (defScope s_gcd) := ⟨rfl, rfl, rfl, by decide +kernel, rfl, by decide +kernel, by decide +kernel⟩
abbrev s_frac : Stmt := topS 21
theorem sc_frac : FnScope ["a", "b", "d"] ["a", "b"] (defScope s_frac) := ⟨rfl, rfl, rfl, by decide +kernel, rfl, by decide +kernel, by decide +kernel⟩
abbrev s_plus : Stmt := topS 22
theorem sc_plus : FnScope ["one", "other"] ["one", "other"] (defScope s_plus) := ⟨rfl, rfl, rfl, by decide +kernel, rfl, by decide +kernel, by decide +kernel⟩
abbrev s_times : Stmt := topS 23
theorem sc_times : FnScope ["one", "other"] ["one", "other"] (defScope s_times) := ⟨rfl, rfl, rfl, by decide +kernel, rfl, by decide +kernel, by decide +kernel⟩
abbrev s_share : Stmt := topS 24
theorem sc_share : FnScope ["loom", "most", "b"] ["loom", "most"] (defScope s_share) := ⟨rfl, rfl, rfl, by decide +kernel, rfl, by decide +kernel, by decide +kernel⟩
abbrev s_die : Stmt := topS 25
theorem sc_die : FnScope ["loom", "shown", "parts", "own", "number", "part"] ["loom"] (defScope s_die) := ⟨rfl, rfl, rfl, by decide +kernel, rfl, by decide +kernel, by decide +kernel⟩
abbrev s_parts : Stmt := topS 26
theorem sc_parts : FnScope ["die", "most", "a", "b", "whole", "found", "turn", "left", "number", "share"] ["die", "most"] (defScope s_parts) := ⟨rfl, rfl, rfl, by decide +kernel, rfl, by decide +kernel, by decide +kernel⟩
abbrev s_summed : Stmt := topS 27
theorem sc_summed : FnScope ["die", "many", "most", "parts", "whole", "number", "used", "stand", "under", "turn", "fresh", "own"] ["die", "many", "most"] (defScope s_summed) := ⟨rfl, rfl, rfl, by decide +kernel, rfl, by decide +kernel, by decide +kernel⟩
abbrev s_till_sum : Stmt := topS 28
theorem sc_till_sum : FnScope ["die", "many", "number", "a", "b", "ways", "under", "turn"] ["die", "many", "number"] (defScope s_till_sum) := ⟨rfl, rfl, rfl, by decide +kernel, rfl, by decide +kernel, by decide +kernel⟩
abbrev s_are_many_told : Stmt := topS 29
theorem sc_are_many_told : FnScope ["loom", "till", "many", "number", "shown", "parts", "die", "own", "part"] ["loom"] (defScope s_are_many_told) := ⟨rfl, rfl, rfl, by decide +kernel, rfl, by decide +kernel, by decide +kernel⟩
abbrev s_is_told : Stmt := topS 30
theorem sc_is_told : FnScope ["die", "many", "number", "due", "is_named", "told"] ["die", "many", "number", "due", "is_named"] (defScope s_is_told) := ⟨rfl, rfl, rfl, by decide +kernel, rfl, by decide +kernel, by decide +kernel⟩
abbrev s_law : Stmt := topS 31
theorem sc_law : FnScope ["script", "loom", "turn", "die", "many", "most", "stood", "due", "number", "split", "one", "other", "found", "i", "told", "sides", "menu", "far"] ["script"] (defScope s_law) := ⟨rfl, rfl, rfl, by decide +kernel, rfl, by decide +kernel, by decide +kernel⟩
structure Txt (K : PySem.W.Frag) (mg : Str → Option Value) (A : Nat → Addr) (D : Nat → FuncData) : Prop where
  z_int : mg "int" = none
  z_len : mg "len" = none
  z_abs : mg "abs" = none
  z_repr : mg "repr" = none
  range : mg "range" = none
  z_list : mg "list" = none
  z_tuple : mg "tuple" = none
  z_sorted : mg "sorted" = none
  z_sum : mg "sum" = none
  zip : mg "zip" = none
  enumerate : mg "enumerate" = none
  z_min : mg "min" = none
  z_gcd : mg "gcd" = some (.builtin "math.gcd")
  z_lcm : mg "lcm" = some (.builtin "math.lcm")
  z_comb : mg "comb" = some (.builtin "math.comb")
  F_lowest : Fun K "lowest" "lowest" s_lowest (A 0) (D 0)
  g_lowest : mg "lowest" = some (.ref (A 0))
  F_power : Fun K "power" "power" s_power (A 1) (D 1)
  g_power : mg "power" = some (.ref (A 1))
  F_side_weights : Fun K "side_weights" "side_weights" s_side_weights (A 2) (D 2)
  g_side_weights : mg "side_weights" = some (.ref (A 2))
  F_throw_weights : Fun K "throw_weights" "throw_weights" s_throw_weights (A 3) (D 3)
  g_throw_weights : mg "throw_weights" = some (.ref (A 3))
  F_power_weights : Fun K "_power_weights" "_power_weights" s_power_weights (A 4) (D 4)
  g_power_weights : mg "_power_weights" = some (.ref (A 4))
  F_misses_share : Fun K "_misses_share" "_misses_share" s_misses_share (A 5) (D 5)
  g_misses_share : mg "_misses_share" = some (.ref (A 5))
  F_sum_share : Fun K "sum_share" "sum_share" s_sum_share (A 6) (D 6)
  g_sum_share : mg "sum_share" = some (.ref (A 6))
  F_side_share : Fun K "side_share" "side_share" s_side_share (A 7) (D 7)
  g_side_share : mg "side_share" = some (.ref (A 7))
  F_loom : Fun K "_law_loom" "_law_loom" s_loom (A 8) (D 8)
  g_loom : mg "_law_loom" = some (.ref (A 8))
  F_draw : Fun K "_law_draw" "_law_draw" s_draw (A 9) (D 9)
  g_draw : mg "_law_draw" = some (.ref (A 9))
  F_pick : Fun K "_law_pick" "_law_pick" s_pick (A 10) (D 10)
  g_pick : mg "_law_pick" = some (.ref (A 10))
  F_mixed : Fun K "_law_mixed" "_law_mixed" s_mixed (A 11) (D 11)
  g_mixed : mg "_law_mixed" = some (.ref (A 11))
  F_gcd : Fun K "_law_gcd" "_law_gcd" s_gcd (A 12) (D 12)
  g_gcd : mg "_law_gcd" = some (.ref (A 12))
  F_frac : Fun K "_law_frac" "_law_frac" s_frac (A 13) (D 13)
  g_frac : mg "_law_frac" = some (.ref (A 13))
  F_plus : Fun K "_law_plus" "_law_plus" s_plus (A 14) (D 14)
  g_plus : mg "_law_plus" = some (.ref (A 14))
  F_times : Fun K "_law_times" "_law_times" s_times (A 15) (D 15)
  g_times : mg "_law_times" = some (.ref (A 15))
  F_share : Fun K "_law_share" "_law_share" s_share (A 16) (D 16)
  g_share : mg "_law_share" = some (.ref (A 16))
  F_die : Fun K "_law_die" "_law_die" s_die (A 17) (D 17)
  g_die : mg "_law_die" = some (.ref (A 17))
  F_parts : Fun K "_law_parts" "_law_parts" s_parts (A 18) (D 18)
  g_parts : mg "_law_parts" = some (.ref (A 18))
  F_summed : Fun K "_law_summed" "_law_summed" s_summed (A 19) (D 19)
  g_summed : mg "_law_summed" = some (.ref (A 19))
  F_till_sum : Fun K "_law_till_sum" "_law_till_sum" s_till_sum (A 20) (D 20)
  g_till_sum : mg "_law_till_sum" = some (.ref (A 20))
  F_are_many_told : Fun K "_law_are_many_told" "_law_are_many_told" s_are_many_told (A 21) (D 21)
  g_are_many_told : mg "_law_are_many_told" = some (.ref (A 21))
  F_is_told : Fun K "_law_is_told" "_law_is_told" s_is_told (A 22) (D 22)
  g_is_told : mg "_law_is_told" = some (.ref (A 22))
  F_law : Fun K "law" "law" s_law (A 23) (D 23)
  g_law : mg "law" = some (.ref (A 23))
section
variable {P : Program} {w : World} {K : PySem.W.Frag} {mg : Str → Option Value} {base : Heap} {A : Nat → Addr} {D : Nat → FuncData}
theorem Txt.k_lowest (T : Txt K mg A D) : PySem.W.keepIn K (.ref (A 0)) = true := T.F_lowest.kp
theorem Txt.b_lowest (T : Txt K mg A D) : Binds K (D 0) ["a", "b"] [] := T.F_lowest.binds fun _ _ _ _ _ _ us hl => match us, hl with | [_, _], _ => rfl
theorem Txt.k_power (T : Txt K mg A D) : PySem.W.keepIn K (.ref (A 1)) = true := T.F_power.kp
theorem Txt.b_power (T : Txt K mg A D) : Binds K (D 1) ["base", "exponent"] [] := T.F_power.binds fun _ _ _ _ _ _ us hl => match us, hl with | [_, _], _ => rfl
theorem Txt.k_side_weights (T : Txt K mg A D) : PySem.W.keepIn K (.ref (A 2)) = true := T.F_side_weights.kp
theorem Txt.b_side_weights (T : Txt K mg A D) : Binds K (D 2) ["sides"] [] := T.F_side_weights.binds fun _ _ _ _ _ _ us hl => match us, hl with | [_], _ => rfl
theorem Txt.k_throw_weights (T : Txt K mg A D) : PySem.W.keepIn K (.ref (A 3)) = true := T.F_throw_weights.kp
theorem Txt.b_throw_weights (T : Txt K mg A D) : Binds K (D 3) ["weights", "many", "most"] [] := T.F_throw_weights.binds fun _ _ _ _ _ _ us hl => match us, hl with | [_, _, _], _ => rfl
theorem Txt.k_power_weights (T : Txt K mg A D) : PySem.W.keepIn K (.ref (A 4)) = true := T.F_power_weights.kp
theorem Txt.b_power_weights (T : Txt K mg A D) : Binds K (D 4) ["first", "rest", "many", "steps"] [] := T.F_power_weights.binds fun _ _ _ _ _ _ us hl => match us, hl with | [_, _, _, _], _ => rfl
theorem Txt.k_misses_share (T : Txt K mg A D) : PySem.W.keepIn K (.ref (A 5)) = true := T.F_misses_share.kp
theorem Txt.b_misses_share (T : Txt K mg A D) : Binds K (D 5) ["share", "many", "number"] [] := T.F_misses_share.binds fun _ _ _ _ _ _ us hl => match us, hl with | [_, _, _], _ => rfl
theorem Txt.k_sum_share (T : Txt K mg A D) : PySem.W.keepIn K (.ref (A 6)) = true := T.F_sum_share.kp
theorem Txt.b_sum_share (T : Txt K mg A D) : Binds K (D 6) ["die", "many", "number"] [] := T.F_sum_share.binds fun _ _ _ _ _ _ us hl => match us, hl with | [_, _, _], _ => rfl
theorem Txt.k_side_share (T : Txt K mg A D) : PySem.W.keepIn K (.ref (A 7)) = true := T.F_side_share.kp
theorem Txt.b_side_share (T : Txt K mg A D) : Binds K (D 7) ["die", "number"] [] := T.F_side_share.binds fun _ _ _ _ _ _ us hl => match us, hl with | [_, _], _ => rfl
theorem Txt.k_loom (T : Txt K mg A D) : PySem.W.keepIn K (.ref (A 8)) = true := T.F_loom.kp
theorem Txt.b_loom (T : Txt K mg A D) : Binds K (D 8) ["script"] [] := T.F_loom.binds fun _ _ _ _ _ _ us hl => match us, hl with | [_], _ => rfl
theorem Txt.k_draw (T : Txt K mg A D) : PySem.W.keepIn K (.ref (A 9)) = true := T.F_draw.kp
theorem Txt.b_draw (T : Txt K mg A D) : Binds K (D 9) ["loom", "many"] [] := T.F_draw.binds fun _ _ _ _ _ _ us hl => match us, hl with | [_, _], _ => rfl
theorem Txt.k_pick (T : Txt K mg A D) : PySem.W.keepIn K (.ref (A 10)) = true := T.F_pick.kp
theorem Txt.b_pick (T : Txt K mg A D) : Binds K (D 10) ["loom", "things"] [] := T.F_pick.binds fun _ _ _ _ _ _ us hl => match us, hl with | [_, _], _ => rfl
theorem Txt.k_mixed (T : Txt K mg A D) : PySem.W.keepIn K (.ref (A 11)) = true := T.F_mixed.kp
theorem Txt.b_mixed (T : Txt K mg A D) : Binds K (D 11) ["loom", "things"] [] := T.F_mixed.binds fun _ _ _ _ _ _ us hl => match us, hl with | [_, _], _ => rfl
theorem Txt.k_gcd (T : Txt K mg A D) : PySem.W.keepIn K (.ref (A 12)) = true := T.F_gcd.kp
theorem Txt.b_gcd (T : Txt K mg A D) : Binds K (D 12) ["a", "b"] [] := T.F_gcd.binds fun _ _ _ _ _ _ us hl => match us, hl with | [_, _], _ => rfl
theorem Txt.k_frac (T : Txt K mg A D) : PySem.W.keepIn K (.ref (A 13)) = true := T.F_frac.kp
theorem Txt.b_frac (T : Txt K mg A D) : Binds K (D 13) ["a", "b"] [] := T.F_frac.binds fun _ _ _ _ _ _ us hl => match us, hl with | [_, _], _ => rfl
theorem Txt.k_plus (T : Txt K mg A D) : PySem.W.keepIn K (.ref (A 14)) = true := T.F_plus.kp
theorem Txt.b_plus (T : Txt K mg A D) : Binds K (D 14) ["one", "other"] [] := T.F_plus.binds fun _ _ _ _ _ _ us hl => match us, hl with | [_, _], _ => rfl
theorem Txt.k_times (T : Txt K mg A D) : PySem.W.keepIn K (.ref (A 15)) = true := T.F_times.kp
theorem Txt.b_times (T : Txt K mg A D) : Binds K (D 15) ["one", "other"] [] := T.F_times.binds fun _ _ _ _ _ _ us hl => match us, hl with | [_, _], _ => rfl
theorem Txt.k_share (T : Txt K mg A D) : PySem.W.keepIn K (.ref (A 16)) = true := T.F_share.kp
theorem Txt.b_share (T : Txt K mg A D) : Binds K (D 16) ["loom", "most"] [] := T.F_share.binds fun _ _ _ _ _ _ us hl => match us, hl with | [_, _], _ => rfl
theorem Txt.k_die (T : Txt K mg A D) : PySem.W.keepIn K (.ref (A 17)) = true := T.F_die.kp
theorem Txt.b_die (T : Txt K mg A D) : Binds K (D 17) ["loom"] [] := T.F_die.binds fun _ _ _ _ _ _ us hl => match us, hl with | [_], _ => rfl
theorem Txt.k_parts (T : Txt K mg A D) : PySem.W.keepIn K (.ref (A 18)) = true := T.F_parts.kp
theorem Txt.b_parts (T : Txt K mg A D) : Binds K (D 18) ["die", "most"] [] := T.F_parts.binds fun _ _ _ _ _ _ us hl => match us, hl with | [_, _], _ => rfl
theorem Txt.k_summed (T : Txt K mg A D) : PySem.W.keepIn K (.ref (A 19)) = true := T.F_summed.kp
theorem Txt.b_summed (T : Txt K mg A D) : Binds K (D 19) ["die", "many", "most"] [] := T.F_summed.binds fun _ _ _ _ _ _ us hl => match us, hl with | [_, _, _], _ => rfl
theorem Txt.k_till_sum (T : Txt K mg A D) : PySem.W.keepIn K (.ref (A 20)) = true := T.F_till_sum.kp
theorem Txt.b_till_sum (T : Txt K mg A D) : Binds K (D 20) ["die", "many", "number"] [] := T.F_till_sum.binds fun _ _ _ _ _ _ us hl => match us, hl with | [_, _, _], _ => rfl
theorem Txt.k_are_many_told (T : Txt K mg A D) : PySem.W.keepIn K (.ref (A 21)) = true := T.F_are_many_told.kp
theorem Txt.b_are_many_told (T : Txt K mg A D) : Binds K (D 21) ["loom"] [] := T.F_are_many_told.binds fun _ _ _ _ _ _ us hl => match us, hl with | [_], _ => rfl
theorem Txt.k_is_told (T : Txt K mg A D) : PySem.W.keepIn K (.ref (A 22)) = true := T.F_is_told.kp
theorem Txt.b_is_told (T : Txt K mg A D) : Binds K (D 22) ["die", "many", "number", "due", "is_named"] [] := T.F_is_told.binds fun _ _ _ _ _ _ us hl => match us, hl with | [_, _, _, _, _], _ => rfl
theorem Txt.k_law (T : Txt K mg A D) : PySem.W.keepIn K (.ref (A 23)) = true := T.F_law.kp
theorem Txt.b_law (T : Txt K mg A D) : Binds K (D 23) ["script"] [] := T.F_law.binds fun _ _ _ _ _ _ us hl => match us, hl with | [_], _ => rfl

end
section
variable {X : Cx} {x : Str} {v : V} {pos : Pos}
theorem pe_const (hg : Gl X x) (h : ∃ u, X.mg x = some u ∧ RelV v u) (hd : (x == ("__debug__" : Str)) = false := by decide) : PE X (.Name x pos) (tC v) := by
  obtain ⟨u, e, r⟩ := h
  exact pe_glob hg e r hd
/-- f(e, ..) in a def that may raise: what f raises leaves it, too -/
theorem pe_callX {k : Nat} {f : Addr} {fd : FuncData} {ps : List Str} {sp : Sp} {p : Pos} {e : Expr} {es : List Expr} {t : TA} {W : WX}
    (tk : Takes X W) (F : FnOk X.prog X.w X.K X.mg X.base (L2.CX X.prog X.w) k f fd ps sp) (hr : Room k X.A) (hg : Gl X x) (hm : X.mg x = some (.ref f))
    (hk : PySem.W.keepIn X.K (.ref f) = true) (hb : Binds X.K fd ps []) (ha : PA X (e :: es) t)
    (hdb : (x == ("__debug__" : Str)) = false := by decide) (he : starEach (e :: es) X.env = (false, eval e X.env) :: starEach es X.env := by rfl)
    (hpl : (backTo pos (starEach es X.env)).any (·.1) = false := by rfl) : PE X (.Call (.Name x p) (e :: es) [] pos) (tCallS sp (WE W) t) :=
  pe_callS F hr hg hm hk hb (fun σ => passAt tk σ) ha hdb he hpl
end
end Ev

set_option exponentiation.threshold 3000
namespace Ev
open PySem PySem.Spec PyProof.Rows L2
section
variable {P : Program} {w : World} {K : PySem.W.Frag} {mg : Str → Option Value} {base : Heap} {A : Nat → Addr} {D : Nat → FuncData}
/-! ### draw -/
def sp_draw : Sp := fun vs H Q _ => ∃ (L F : Addr) (many : Int), vs = [.ref L, .int many] ∧ Lm H L F ∧ many < 1073741824 ∧
  ∀ (H' : Hp) (k : Int), Kp L F H H' → Lm H' L F → 0 ≤ k → (k < many ∨ k = 0) → Q (.int k) H'
theorem Txt.ok_draw (T : Txt K mg A D) : FnOk P w K mg base CX0 1 (A 9) (D 9) ["loom", "many"] sp_draw := by
  refine T.F_draw.ok sc_draw (fun vs H Q E h => ?_) (fun cdv Ar outer s H vs Q E hr h => ?_)
  · obtain ⟨L, F, many, rfl, _⟩ := h
    rfl
  · obtain ⟨L, F, many, rfl, ⟨fs, s0, t0, hL, hF, hlen⟩, hmany, q⟩ := h
    have hu := hu_of hr
    refine ⟨_, (pss_cons (ps_if (pt_cmpR op_lt (pv 1) pe_int (nomark _)) (pss_one (ps_ret pe_int)) pss_nil)
    (pss_cons (ps_if (pt_cmpR (op_neD hr.units) (pe_dget hu (pv 0) pe_str (fun _ _ => rfl)) (pe_lst pa_nil) (nomark _)) (pss_cons (ps_set (i := 2) sc_draw.nd rfl (Or.inl rfl) (pe_bm0 PySem.F.plainAttrs_list PySem.F.slot_list_pop PySem.F.type_list_pop mt_pop (pe_dget hu (pv 0) pe_str (fun _ _ => rfl))))
    (pss_cons (ps_if (pt_cmpR op_ge (pv 2) (pv 1) (nomark _)) (pss_one (ps_expr (pe_bm PySem.F.plainAttrs_list PySem.F.slot_list_append PySem.F.type_list_append mt_append (pe_dget hu (pv 0) pe_str (fun _ _ => rfl)) (pa_cons (pe_op op_fdivN (pv 2) (pv 1)) pa_nil)))) pss_nil)
    (pss_one (ps_ret (pe_op op_mod (pe_callTy call_int1 (by rfl) T.z_int (by decide +kernel) (pa_cons (pv 2) pa_nil)) (pv 1)))))) pss_nil)
    (pss_cons (ps_dput hu (pv 0) pe_str (pe_op op_add (pe_dget hu (pv 0) pe_str (fun _ _ => rfl)) pe_int) rfl)
    (pss_cons (ps_set (i := 3) sc_draw.nd rfl (Or.inl rfl) (pe_op op_mod (pe_callTy call_int1 (by rfl) T.z_int (by decide +kernel) (pa_cons (pe_op op_add (pe_dget hu (pv 0) pe_str (fun _ _ => rfl)) (pe_op op_mul pe_int (pe_dget hu (pv 0) pe_str (fun _ _ => rfl)))) pa_nil)) pe_int))
    (pss_cons (ps_set (i := 3) sc_draw.nd rfl (Or.inl rfl) (pe_op op_mod (pe_callTy call_int1 (by rfl) T.z_int (by decide +kernel) (pa_cons (pe_op op_add (pe_op op_add (pe_op op_mul (pv 3) (pv 3)) (pe_op op_mul pe_int (pe_dget hu (pv 0) pe_str (fun _ _ => rfl)))) pe_int) pa_nil)) pe_int))
    (pss_cons (ps_set (i := 3) sc_draw.nd rfl (Or.inl rfl) (pe_op op_mod (pe_callTy call_int1 (by rfl) T.z_int (by decide +kernel) (pa_cons (pe_op op_add (pe_op op_mul (pv 3) (pv 3)) (pe_dget hu (pv 0) pe_str (fun _ _ => rfl))) pa_nil)) pe_int))
    (pss_one (ps_ret (pe_op op_mod (pe_callTy call_int1 (by rfl) T.z_int (by decide +kernel) (pa_cons (pe_op op_fdivN (pv 3) pe_int) pa_nil)) (pv 1)))))))))), ?_⟩
    -- if many < 2
    refine ⟨_, rfl, _, _, rfl, rfl, _, rfl, ite2 (fun e => ?_) (fun e => ?_)⟩
    · exact q H 0 (Kp.refl H) ⟨fs, s0, t0, hL, hF, hlen⟩ (Int.le_refl 0) (.inr rfl)
    · have h2 : 2 ≤ many := Int.not_lt.mp fun z => e (decide_eq_true z)
      refine ⟨_, rfl, L, _, rfl, DGet.k (k := Sum.inr "far") hL, ⟨Nat.zero_le _, fun p hp => ?_⟩⟩
      have hFp : (upd H p (.lst [])) F = some (.lst (fs.map V.int)) := by
        rw [upd_ne (ne_of_none hF hp)]
        exact hF
      refine ⟨_, _, .lst (.inl (.inl hFp)) (dpAll_ints fs), .lst (xs := []) (.inl (.inl upd_same)) .nil, shaped_ints fs, by decide, _, rfl, ite2 (fun e1 => ?_) (fun e1 => ?_)⟩
      · rw [eqv_ints_nil] at e1
        rcases snoc_cases fs with rfl | ⟨gs, c, rfl⟩
        · exact absurd e1 (by decide)
        · have hL1 : (upd H p (.lst [])) L = some (.dK (ld F s0 t0)) := by
            rw [upd_ne (ne_of_none hL hp)]
            exact hL
          have nLF : L ≠ F := ne_of hL hF (by intro z; cases z)
          have last : ((gs ++ [c]).map V.int)[((gs ++ [c]).map V.int).length - 1]? = some (.int c) := by simp
          have drop : ((gs ++ [c]).map V.int).dropLast = gs.map V.int := by simp
          have hg : gs.length ≤ 62 := by
            rw [List.length_append, List.length_singleton] at hlen
            omega
          have km : 0 ≤ c % many ∧ c % many < many := ⟨Int.emod_nonneg _ (by omega), Int.emod_lt_of_pos _ (by omega)⟩
          refine ⟨_, rfl, L, _, rfl, DGet.k (k := Sum.inr "far") hL1, .inl ⟨rfl, _, SqL.of hFp⟩, F, _, _, rfl, rfl, hFp, last, ?_⟩
          rw [drop]
          -- if cell >= many
          refine ⟨_, rfl, _, rfl, _, _, rfl, rfl, _, rfl, ite2 (fun e2 => ?_) (fun e2 => ?_)⟩
          · have hL2 : (upd (upd H p (.lst [])) F (.lst (gs.map V.int))) L = some (.dK (ld F s0 t0)) := by
              rw [upd_ne nLF]
              exact hL1
            refine ⟨_, rfl, L, _, rfl, DGet.k (k := Sum.inr "far") hL2, .inl ⟨rfl, _, SqL.of upd_same⟩, _, rfl, _, rfl, _, _, rfl, rfl, ⟨by omega, by omega⟩, F, _, _, rfl, rfl, upd_same, small1000 (by rw [List.length_map]; omega), ?_⟩
            refine ⟨_, rfl, .inl ⟨_, rfl, _, rfl, _, _, rfl, rfl, by show 0 < many; omega, ?_⟩⟩
            refine q _ _ ?_ ?_ km.1 (.inl km.2)
            · exact ((Kp.new hp).trans Kp.updF).trans Kp.updF
            · exact ⟨gs ++ [c.fdiv many], s0, t0, by rw [upd_ne nLF]; exact hL2, by rw [upd_same, List.map_append]; rfl, by rw [List.length_append, List.length_singleton]; omega⟩
          · refine ⟨_, rfl, .inl ⟨_, rfl, _, rfl, _, _, rfl, rfl, by show 0 < many; omega, ?_⟩⟩
            refine q _ _ ?_ ?_ km.1 (.inl km.2)
            · exact (Kp.new hp).trans Kp.updF
            · exact ⟨gs, s0, t0, by rw [upd_ne nLF]; exact hL1, upd_same, by omega⟩
      · have hL1 : (upd H p (.lst [])) L = some (.dK (ld F s0 t0)) := by
          rw [upd_ne (ne_of_none hL hp)]
          exact hL
        have nLF : L ≠ F := ne_of hL hF (by intro z; cases z)
        refine ⟨_, rfl, L, _, rfl, DGet.k (k := Sum.inr "times") hL1, _, _, rfl, rfl, _, rfl, L, _, rfl, DPut.k (k := Sum.inr "times") hL1 ld_len, ?_⟩
        rw [ld_put]
        have hL2 : (upd (upd H p (.lst [])) L (.dK (ld F s0 (t0 + 1)))) L = some (.dK (ld F s0 (t0 + 1))) := upd_same
        refine ⟨_, rfl, L, _, rfl, DGet.k (k := Sum.inr "stirred") hL2, _, rfl, L, _, rfl, DGet.k (k := Sum.inr "times") hL2, _, _, rfl, rfl, .inl (by decide), _, _, rfl, rfl, .inl ⟨_, rfl, _, _, rfl, rfl, by show (0 : Int) < 4294967279; decide, ?_⟩⟩
        have b1 : 0 ≤ (s0 + 2654435761 * (t0 + 1)) % 4294967279 ∧ (s0 + 2654435761 * (t0 + 1)) % 4294967279 < 4294967279 := ⟨Int.emod_nonneg _ (by decide), Int.emod_lt_of_pos _ (by decide)⟩
        revert b1
        generalize (s0 + 2654435761 * (t0 + 1)) % 4294967279 = u1
        intro b1
        refine ⟨_, rfl, _, rfl, _, _, rfl, rfl, .inl ⟨by omega, by omega⟩, _, rfl, L, _, rfl, DGet.k (k := Sum.inr "times") hL2, _, _, rfl, rfl, .inl (by decide), _, _, rfl, rfl, _, _, rfl, rfl, .inl ⟨_, rfl, _, _, rfl, rfl, by show (0 : Int) < 4294967231; decide, ?_⟩⟩
        have b2 : 0 ≤ (u1 * u1 + 40503 * (t0 + 1) + 17) % 4294967231 ∧ (u1 * u1 + 40503 * (t0 + 1) + 17) % 4294967231 < 4294967231 := ⟨Int.emod_nonneg _ (by decide), Int.emod_lt_of_pos _ (by decide)⟩
        revert b2
        generalize (u1 * u1 + 40503 * (t0 + 1) + 17) % 4294967231 = u2
        intro b2
        refine ⟨_, rfl, _, rfl, _, _, rfl, rfl, .inl ⟨by omega, by omega⟩, _, rfl, L, _, rfl, DGet.k (k := Sum.inr "stirred") hL2, _, _, rfl, rfl, .inl ⟨_, rfl, _, _, rfl, rfl, by show (0 : Int) < 4294967197; decide, ?_⟩⟩
        generalize (u2 * u2 + s0) % 4294967197 = u3
        refine ⟨_, rfl, _, _, rfl, rfl, ⟨by decide, by decide⟩, .inl ⟨_, rfl, _, rfl, _, _, rfl, rfl, by show 0 < many; omega, ?_⟩⟩
        refine q _ _ ((Kp.new hp).trans Kp.updL) ?_ (Int.emod_nonneg _ (by omega)) (.inl (Int.emod_lt_of_pos _ (by omega)))
        exact ⟨fs, s0, t0 + 1, hL2, by rw [upd_ne nLF.symm]; exact hFp, hlen⟩
/-! ### pick -/
def sp_pick (K : PySem.W.Frag) : Sp := fun vs H Q _ => ∃ (L F a : Addr) (xs : List V), vs = [.ref L, .ref a] ∧ Lm H L F ∧ SqL K H a xs ∧ a ≠ L ∧ a ≠ F ∧ 0 < xs.length ∧ xs.length < 1073741824 ∧
  ∀ (H' : Hp) (i : Nat) (x : V), Kp L F H H' → Lm H' L F → xs[i]? = some x → Q x H'
theorem Txt.ok_pick (T : Txt K mg A D) : FnOk P w K mg base CX0 2 (A 10) (D 10) ["loom", "things"] (sp_pick K) := by
  refine T.F_pick.ok sc_pick (fun vs H Q E h => ?_) (fun cdv Ar outer s H vs Q E hr h => ?_)
  · obtain ⟨L, F, a, xs, rfl, _⟩ := h
    rfl
  · obtain ⟨L, F, a, xs, rfl, hM, hS, n1, n2, hpos, hlen, q⟩ := h
    have hu := hu_of hr
    refine ⟨_, (pss_one (ps_ret (pe_ix ix_list (pv 1) (pe_call (T.ok_draw) hr (by rfl) T.g_draw T.k_draw T.b_draw .nil pass0 (pa_cons (pv 0) (pa_cons (pe_callB call_len_seq (by rfl) T.z_len (by decide +kernel) (pa_cons (pv 1) pa_nil)) pa_nil))) (fun _ _ => rfl)))), ?_⟩
    refine ⟨_, rfl, _, rfl, _, rfl, a, xs, rfl, .inl hS, L, F, _, rfl, hM, by omega, fun H' k kp hM' k0 kl => ?_⟩
    have kn : k.toNat < xs.length := by omega
    exact ⟨a, xs, k, xs[k.toNat], rfl, rfl, kp.seq n1 n2 hS, at_of (j := k.toNat) (by omega) (List.getElem?_eq_getElem kn), q H' k.toNat _ kp hM' (List.getElem?_eq_getElem kn)⟩
/-! ### the loom's making -/
def sp_loom (K : PySem.W.Frag) : Sp := fun vs H Q _ => ∃ (a : Addr) (ns : List Int), vs = [.ref a] ∧ SqL K H a (ns.map V.int) ∧ ns.length ≤ 63 ∧
  ∀ (H' : Hp) (L F : Addr), Same H H' → Lm H' L F → H L = none → H F = none → Q (.ref L) H'
theorem Txt.ok_loom (T : Txt K mg A D) : FnOk P w K mg base CX0 1 (A 8) (D 8) ["script"] (sp_loom K) := by
  refine T.F_loom.ok sc_loom (fun vs H Q E h => ?_) (fun cdv Ar outer s H vs Q E hr h => ?_)
  · obtain ⟨a, ns, rfl, _⟩ := h
    rfl
  · obtain ⟨a, ns, rfl, hS, hlen, q⟩ := h
    have hu := hu_of hr
    refine ⟨_, (pss_cons (ps_par (i := 2) (j := 3) rfl sc_loom.nd rfl rfl (by decide) rfl rfl (pa_cons (pe_lc (own := [("cell", 1)]) (g := gName 1) (tt := tYes) rfl sc_loom.nd (pi_list (pe_slice sl_list (pv 0) po_none (po_some pe_int))) (blkOk_by (N := ["script", "cell", "cells", "stirred"]) (sc := defScope s_loom) (by decide +kernel)) (fun _ _ _ _ _ => pg_name (i := 1) sc_loom.nd rfl (Or.inl rfl)) (fun _ _ _ _ _ => pts_nil) (fun _ _ _ _ _ => (pe_op op_add (pe_op op_mul pe_int (pe_callB call_abs (by rfl) T.z_abs (by decide +kernel) (pa_cons (pv 1) pa_nil))) (pe_callTy call_int1 (by rfl) T.z_int (by decide +kernel) (pa_cons (pe_cmpR op_lt (pv 1) pe_int (nomark _)) pa_nil))))) (pa_cons (pe_op op_add pe_int (pe_op op_mul pe_int (pe_callB call_len_seq (by rfl) T.z_len (by decide +kernel) (pa_cons (pv 0) pa_nil)))) pa_nil)) (by rfl))
    (pss_cons (ps_for PassesOwn.never rfl (pi_list (pv 2)) (pg_name (i := 1) sc_loom.nd rfl (Or.inl rfl)) (pss_one (ps_set (i := 3) sc_loom.nd rfl (Or.inl rfl) (pe_op op_mod (pe_callTy call_int1 (by rfl) T.z_int (by decide +kernel) (pa_cons (pe_op op_add (pe_op op_add (pe_op op_mul (pv 3) pe_int) (pv 1)) pe_int) pa_nil)) pe_int))))
    (pss_one (ps_ret (pe_disp (pps_cons pe_str (pe_lc (own := [("cell", 1)]) (g := gName 1) (tt := _) rfl sc_loom.nd (pi_list (pv 2)) (blkOk_by (N := ["script", "cell", "cells", "stirred"]) (sc := defScope s_loom) (by decide +kernel)) (fun _ _ _ _ _ => pg_name (i := 1) sc_loom.nd rfl (Or.inl rfl)) (fun _ _ _ _ _ => (pts_one (pt_cmpR op_ge (pv 1) (pe_op op_pow pe_int pe_int) (nomark _)))) (fun _ _ _ _ _ => (pv 1))) (pps_cons pe_str (pv 3) (pps_cons pe_str pe_int pps_nil))) (by rfl) (by rfl) (fun z => by cases z) (by decide)))))), ?_⟩
    refine ⟨_, rfl, _, rfl, a, _, rfl, hS, fun p hp => ?_⟩
    obtain ⟨ms, em, hm⟩ := cut_ints ns none (some 63)
    rw [em]
    have sp : Same H (upd H p (.lst (ms.map V.int))) := same_new hp
    refine ⟨p, rfl, ⟨_, SqL.of upd_same⟩, fun D1 hD1 => ?_⟩
    have hDp : H D1 = none := sp.free hD1
    refine lc_list (K := K) (a := p) (xs := ms.map V.int) (fun i H' => Same (upd H p (.lst (ms.map V.int))) H' ∧ ∃ acc : List Int, H' D1 = some (.lst (acc.map V.int)) ∧ acc.length = i)
      ⟨same_new hD1, [], upd_same, rfl⟩ (fun i H' _ z => z.1.seq (SqL.of upd_same)) ?_ ?_
    · intro i x H' hx hP
      obtain ⟨m, hm1, rfl⟩ := int_at hx
      obtain ⟨s1, acc, hA, la⟩ := hP
      have hi : i < ms.length := (List.getElem?_eq_some_iff.mp hm1).1
      refine ⟨rfl, yes_of ?_⟩
      refine ⟨_, rfl, _, rfl, _, _, rfl, rfl, .inl ⟨by decide, by decide⟩, _, rfl, _, _, rfl, rfl, .inr ⟨_, rfl, _, _, rfl, rfl, _, hA, small1000 (by rw [List.length_map]; omega), same_put s1 hD1, acc ++ [2 * (if m < 0 then -m else m) + (if decide (m < 0) = true then 1 else 0)], ?_, ?_⟩⟩
      · rw [upd_same, List.map_append]
        rfl
      · rw [List.length_append, List.length_singleton, la]
    · intro H1 hP
      obtain ⟨s1, acc, hA, la⟩ := hP
      have sH : Same H H1 := sp.trans s1
      have sS := sH.seq hS
      refine ⟨_, rfl, a, _, rfl, .inl sS, _, _, rfl, rfl, .inl ⟨by decide, by decide⟩, _, _, rfl, rfl, _, _, rfl, ?_⟩
      -- the loop
      refine ⟨.ref D1, rfl, D1, rfl, ⟨_, SqL.of hA⟩, for_list (K := K) (a := D1) (xs := acc.map V.int) (fun i σ H' => H' = H1 ∧ ∃ (y : Option V) (z : Int), σ = [some (.ref a), y, some (.ref D1), some (.int z)])
        ⟨rfl, none, _, rfl⟩ (fun i σ H' _ z => by rw [z.1]; exact SqL.of hA) ?_ ?_⟩
      · rintro i x σ H' hx ⟨rfl, y, z, rfl⟩
        obtain ⟨m, hm1, rfl⟩ := int_at hx
        exact ⟨_, rfl, _, _, rfl, rfl, .inr ⟨by decide, by decide⟩, _, rfl, _, _, rfl, rfl, _, _, rfl, rfl, .inl ⟨_, rfl, _, _, rfl, rfl, by show (0 : Int) < 4294967291; decide, rfl, _, _, rfl⟩⟩
      · rintro σ H' ⟨rfl, y, z, rfl⟩
        -- the dict
        intro L hL
        have sL : Same H' (upd H' L (.dK [])) := same_new hL
        have hLH : H L = none := sH.free hL
        refine ⟨_, rfl, D1, rfl, ⟨_, (sL.seq (SqL.of hA))⟩, fun F hF => ?_⟩
        have hF' : H' F = none := sL.free hF
        refine lc_list (K := K) (a := D1) (xs := acc.map V.int) (fun i H2 => Same (upd H' L (.dK [])) H2 ∧ ∃ gs : List Int, H2 F = some (.lst (gs.map V.int)) ∧ gs.length ≤ i)
          ⟨same_new hF, [], upd_same, Nat.le_refl _⟩ (fun i H2 _ z => z.1.seq (sL.seq (SqL.of hA))) ?_ ?_
        · intro i x H2 hx hP
          obtain ⟨m, hm1, rfl⟩ := int_at hx
          obtain ⟨s2, gs, hG, lg⟩ := hP
          have hi : i < acc.length := (List.getElem?_eq_some_iff.mp hm1).1
          rw [List.length_map] at la
          refine ⟨rfl, _, rfl, _, _, rfl, rfl, ⟨by decide, by decide, by decide⟩, _, _, rfl, rfl, _, rfl, ite2 (fun e => ?_) (fun e => ?_)⟩
          · exact ⟨_, rfl, _, hG, small1000 (by rw [List.length_map]; omega), same_put s2 hF, gs ++ [m], by rw [upd_same, List.map_append]; rfl, by rw [List.length_append, List.length_singleton]; omega⟩
          · exact ⟨s2, gs, hG, by omega⟩
        · intro H2 hP
          obtain ⟨s2, gs, hG, lg⟩ := hP
          rw [List.length_map] at la lg
          have hL2 : H2 L = some (.dK []) := s2 _ _ upd_same
          refine ⟨_, rfl, hL2, ld F z 0, rfl, (by show 3 ≤ 15; decide), ?_⟩
          have nFL : F ≠ L := fun e => by
            rw [e, hL2] at hG
            cases hG
          refine q _ L F ?_ ⟨gs, z, 0, upd_same, by rw [upd_ne nFL]; exact hG, by omega⟩ hLH (sH.free hF')
          intro b o e
          have e1 := sH _ _ e
          rw [upd_ne (ne_of_none e1 hL)]
          exact s2 _ _ (sL _ _ e1)
end
end Ev

set_option exponentiation.threshold 10000
namespace Ev
open PySem PySem.Spec PyProof.Rows L2
section
variable {P : Program} {w : World} {K : PySem.W.Frag} {mg : Str → Option Value} {base : Heap} {A : Nat → Addr} {D : Nat → FuncData}
def sp_gcd : Sp := fun vs H Q _ => ∃ a b : Int, vs = [.int a, .int b] ∧ Q (.int (gc a b)) H
theorem Txt.ok_gcd (T : Txt K mg A D) : FnOk P w K mg base CX0 1 (A 12) (D 12) ["a", "b"] sp_gcd := by
  refine T.F_gcd.ok sc_gcd (fun vs H Q E h => ?_) (fun cdv Ar outer s H vs Q E hr h => ?_)
  · obtain ⟨a, b, rfl, _⟩ := h
    rfl
  · obtain ⟨a, b, rfl, q⟩ := h
    refine ⟨_, (pss_cons (ps_par (i := 0) (j := 1) rfl sc_gcd.nd rfl rfl (by decide) rfl rfl (pa_cons (pe_callB call_abs (by rfl) T.z_abs (by decide +kernel) (pa_cons (pv 0) pa_nil)) (pa_cons (pe_callB call_abs (by rfl) T.z_abs (by decide +kernel) (pa_cons (pv 1) pa_nil)) pa_nil)) (by rfl))
    (pss_cons (ps_while PassesOwn.never (pt_cmpR op_ne (pv 1) pe_int (nomark _)) (pss_one (ps_par (i := 0) (j := 1) rfl sc_gcd.nd rfl rfl (by decide) rfl rfl (pa_cons (pv 1) (pa_cons (pe_op op_modN (pe_callTy call_int1 (by rfl) T.z_int (by decide +kernel) (pa_cons (pv 0) pa_nil)) (pv 1)) pa_nil)) (by rfl))))
    (pss_one (ps_ret (pv 0))))), ?_⟩
    refine ⟨_, rfl, _, rfl, _, rfl, _, rfl, _, _, rfl, ?_⟩
    rw [absI, absI]
    refine while_by (fun σ H' => H' = H ∧ ∃ x y : Nat, σ = [some (.int x), some (.int y)] ∧ Nat.gcd x y = gc a b) (fun σ _ => match σ with | [_, some (.int y)] => y.toNat | _ => 0) ⟨rfl, _, _, rfl, rfl⟩ ?_ ?_
    · rintro σ H' ⟨rfl, x, y, rfl, g⟩
      refine ⟨_, rfl, rfl, _, rfl, ite2 (fun e => ?_) (fun e => ?_)⟩
      · have hy : (y : Int) ≠ 0 := fun z => vne e (congrArg V.int z)
        refine ⟨_, rfl, _, rfl, .inl ⟨_, rfl, _, rfl, _, _, rfl, rfl, hy, _, _, rfl, ⟨rfl, y, x % y, ?_, ?_⟩, ?_⟩⟩
        · have z : (x : Int).fmod (y : Int) = ((x % y : Nat) : Int) := by
            rw [Int.fmod_eq_emod_of_nonneg _ (by omega)]
            rfl
          show [some (V.int (y : Int)), some (V.int ((x : Int).fmod (y : Int)))] = _
          rw [z]
        · rw [← g, Nat.gcd_comm x y, Nat.gcd_rec y x, Nat.gcd_comm]
        · show ((x : Int).fmod (y : Int)).toNat < (y : Int).toNat
          rw [Int.fmod_eq_emod_of_nonneg _ (by omega)]
          have h1 := Int.emod_lt_of_pos (x : Int) (show (0 : Int) < y by omega)
          omega
      · have hy : (y : Int) = 0 := V.int.inj (veq e)
        have hy' : y = 0 := by omega
        subst hy'
        rw [Nat.gcd_zero_right] at g
        refine ⟨_, rfl, ?_⟩
        rw [g]
        exact q
    · intro σ H' Q1 Q2 k h
      obtain ⟨v, h1, h2, c, h3, h4⟩ := h
      exact ⟨v, h1, h2, c, h3, k _ _ h4⟩
/-! ### fractions in lowest terms -/
def Sm (x : Int) : Prop := x.natAbs < 2 ^ 1400
theorem Sm.le {x y : Int} (h : Sm y) (l : x.natAbs ≤ y.natAbs) : Sm x := Nat.lt_of_le_of_lt l h
theorem Sm.log {x : Int} (h : Sm x) : x.natAbs.log2 < 1400 := PySem.Flt.log2_lt_of (by decide) h
def Bg (x : Int) : Prop := x.natAbs < 2 ^ 8900
theorem Sm.bg {x : Int} (h : Sm x) : Bg x := Nat.lt_of_lt_of_le h (Nat.pow_le_pow_right (by decide) (by decide))
theorem Bg.le {x y : Int} (h : Bg y) (l : x.natAbs ≤ y.natAbs) : Bg x := Nat.lt_of_le_of_lt l h
theorem Bg.log {x : Int} (h : Bg x) : x.natAbs.log2 < 8900 := PySem.Flt.log2_lt_of (by decide) h
theorem dv_ok {a b : Int} (h : b ≠ 0) (hb : Bg b) : CDivZ a (dv a b) := by
  refine ⟨dv_ne h, ?_⟩
  have l : (dv a b).natAbs ≤ b.natAbs := by
    rw [dv_abs]
    exact Nat.gcd_le_right _ (by omega)
  exact Nat.lt_trans (Bg.log (hb.le l)) (by decide)
theorem dv_ok2 {a b c : Int} (h : b ≠ 0) (hb : Bg b) : CDivZ c (dv a b) := ⟨(dv_ok (a := a) h hb).1, (dv_ok (a := a) h hb).2⟩
def sp_frac : Sp := fun vs H Q _ => ∃ a b : Int, vs = [.int a, .int b] ∧ b ≠ 0 ∧ Bg b ∧
  ∀ (H' : Hp) (p : Addr), Same H H' → H p = none → H' p = some (.tup [.int (fA a b), .int (fB a b)]) → Q (.ref p) H'
theorem Txt.ok_frac (T : Txt K mg A D) : FnOk P w K mg base CX0 2 (A 13) (D 13) ["a", "b"] sp_frac := by
  refine T.F_frac.ok sc_frac (fun vs H Q E h => ?_) (fun cdv Ar outer s H vs Q E hr h => ?_)
  · obtain ⟨a, b, rfl, _⟩ := h
    rfl
  · obtain ⟨a, b, rfl, hb, sb, q⟩ := h
    refine ⟨_, (pss_cons (ps_set (i := 2) sc_frac.nd rfl (Or.inl rfl) (pe_call (T.ok_gcd) hr (by rfl) T.g_gcd T.k_gcd T.b_gcd .nil pass0 (pa_cons (pv 0) (pa_cons (pv 1) pa_nil))))
    (pss_cons (ps_set (i := 2) sc_frac.nd rfl (Or.inl rfl) (pe_ifExp (pt_cmpR op_gt (pv 1) pe_int (nomark _)) (pv 2) (pe_un un_neg (pv 2))))
    (pss_one (ps_ret (pe_tup (pa_cons (pe_op op_fdivZ (pv 0) (pv 2)) (pa_cons (pe_op op_fdivZ (pv 1) (pv 2)) pa_nil))))))), ?_⟩
    refine ⟨_, rfl, _, rfl, _, _, rfl, _, rfl, _, _, rfl, rfl, _, rfl, ite2 (fun e => ?_) (fun e => ?_)⟩
    · have d : dv a b = (gc a b : Int) := if_pos (of_decide_eq_true e)
      refine ⟨_, rfl, _, rfl, _, rfl, _, _, rfl, rfl, by rw [← d]; exact dv_ok2 hb sb, _, rfl, _, rfl, _, _, rfl, rfl, by rw [← d]; exact dv_ok2 hb sb, (by show 2 ≤ sizeLine; decide), fun p hp => q _ p (same_new hp) hp ?_⟩
      rw [upd_same]
      show some (HO.tup [V.int (a.fdiv (gc a b : Int)), V.int (b.fdiv (gc a b : Int))]) = _
      rw [← d]
      rfl
    · have d : dv a b = -(gc a b : Int) := if_neg (fun z => e (decide_eq_true z))
      refine ⟨_, rfl, _, rfl, _, rfl, _, rfl, _, _, rfl, rfl, by rw [← d]; exact dv_ok2 hb sb, _, rfl, _, rfl, _, _, rfl, rfl, by rw [← d]; exact dv_ok2 hb sb, (by show 2 ≤ sizeLine; decide), fun p hp => q _ p (same_new hp) hp ?_⟩
      rw [upd_same]
      show some (HO.tup [V.int (a.fdiv (-(gc a b : Int))), V.int (b.fdiv (-(gc a b : Int)))]) = _
      rw [← d]
      rfl
end
end Ev

set_option exponentiation.threshold 3000
namespace Ev
open PySem PySem.Spec PyProof.Rows L2
theorem eqvx_nil (ds : List PyData) : PyData.eqv (.list ds) (.list []) = ds.isEmpty := by
  cases ds with
  | nil => rfl
  | cons d ds => simp [PyData.eqv, PyData.eqvAll]
theorem shapedL {ds : List PyData} (h : PyData.canLayAll0 ds = true) (k : PyData.depthAll ds ≤ 60) : SeqAt.shaped (.list ds) = true := by
  simp only [SeqAt.shaped, PyData.canLay0, h, PyData.depth, Bool.true_and]
  exact decide_eq_true (by omega)
theorem canLayAll_mem : ∀ {ds : List PyData}, PyData.canLayAll0 ds = true ↔ ∀ d ∈ ds, d.canLay0 = true
  | [] => by simp [PyData.canLayAll0]
  | d :: ds => by
    simp only [PyData.canLayAll0, Bool.and_eq_true, List.mem_cons, forall_eq_or_imp]
    rw [canLayAll_mem]
theorem depthAll_mem {k : Nat} : ∀ {ds : List PyData}, PyData.depthAll ds ≤ k ↔ ∀ d ∈ ds, d.depth ≤ k
  | [] => by simp [PyData.depthAll]
  | d :: ds => by
    simp only [PyData.depthAll, List.mem_cons, forall_eq_or_imp, Nat.max_le]
    rw [depthAll_mem]
theorem dxAll_erase {K : PySem.W.Frag} {Z : Addr → Prop} {H : Hp} : ∀ (n : Nat) {vs : List V} {ds : List PyData}, DxAll K Z H vs ds → DxAll K Z H (vs.eraseIdx n) (ds.eraseIdx n)
  | _, _, _, .nil => .nil
  | 0, _, _, .cons _ r => r
  | n + 1, _, _, .cons h r => .cons h (dxAll_erase n r)
mutual
theorem dx_mono {K : PySem.W.Frag} {Z Z' : Addr → Prop} {H : Hp} (hz : ∀ a o, H a = some o → Z a → Z' a) : ∀ {v : V} {d : PyData}, Dx K Z H v d → Dx K Z' H v d
  | _, _, .non => .non
  | _, _, .bl b => .bl b
  | _, _, .int i => .int i
  | _, _, .str x => .str x
  | _, _, .lst e z h => .lst e (hz _ _ e z) (dxAll_mono hz h)
  | _, _, .tup e h => .tup e (dxAll_mono hz h)
  | _, _, .dct e z h => .dct e (hz _ _ e z) (dxKv_mono hz h)
theorem dxAll_mono {K : PySem.W.Frag} {Z Z' : Addr → Prop} {H : Hp} (hz : ∀ a o, H a = some o → Z a → Z' a) : ∀ {vs : List V} {ds : List PyData}, DxAll K Z H vs ds → DxAll K Z' H vs ds
  | _, _, .nil => .nil
  | _, _, .cons h r => .cons (dx_mono hz h) (dxAll_mono hz r)
theorem dxKv_mono {K : PySem.W.Frag} {Z Z' : Addr → Prop} {H : Hp} (hz : ∀ a o, H a = some o → Z a → Z' a) : ∀ {vs : List (Key × V)} {ds : List (PyData × PyData)}, DxKv K Z H vs ds → DxKv K Z' H vs ds
  | _, _, .nil => .nil
  | _, _, .cons h r => .cons (dx_mono hz h) (dxKv_mono hz r)
end
theorem dxAll_upd {K : PySem.W.Frag} {Z : Addr → Prop} {H : Hp} {p : Addr} {ys : List V} {o : HO} (hp : H p = some (.lst ys)) (hz : ∀ a, Z a → a ≠ p) {xs : List V} {ds : List PyData} (h : DxAll K Z H xs ds) : DxAll K Z (upd H p o) xs ds := by
  refine dxAll_keep (fun a zs e => ?_) (fun a ob z e => ?_) h
  · rcases e with (e | ⟨ob, e⟩) | e
    · exact .inl (.inl (by rw [upd_ne (ne_of e hp (by intro z; cases z))]; exact e))
    · exact .inl (.inr ⟨ob, by rw [upd_ne (ne_of e hp (by intro z; cases z))]; exact e⟩)
    · exact .inr e
  · rw [upd_ne (hz a z)]
    exact e
theorem dx_upd {K : PySem.W.Frag} {Z : Addr → Prop} {H : Hp} {p : Addr} {ys : List V} {o : HO} (hp : H p = some (.lst ys)) (hz : ∀ a, Z a → a ≠ p) {x : V} {d : PyData} (h : Dx K Z H x d) : Dx K Z (upd H p o) x d := by
  have z := dxAll_upd (o := o) hp hz (.cons h .nil)
  cases z with
  | cons a _ => exact a
theorem kp_put {L F p : Addr} {H H2 : Hp} {o : HO} (k : Kp L F H H2) (hp : H p = none) : Kp L F H (upd H2 p o) := fun b u h1 h2 e => by
  rw [upd_ne (ne_of_none e hp)]
  exact k b u h1 h2 e
theorem lm_put {L F p : Addr} {H : Hp} {o : HO} (h : Lm H L F) (n1 : p ≠ L) (n2 : p ≠ F) : Lm (upd H p o) L F := by
  obtain ⟨fs, a, b, h1, h2, h3⟩ := h
  exact ⟨fs, a, b, by rw [upd_ne n1.symm]; exact h1, by rw [upd_ne n2.symm]; exact h2, h3⟩
/-- beside the loom's two, and two more -/
def Z4 (L F p r : Addr) : Addr → Prop := fun a => a ≠ L ∧ a ≠ F ∧ a ≠ p ∧ a ≠ r
theorem dxAll_kp4 {K : PySem.W.Frag} {L F p r : Addr} {H H' : Hp} (k : Kp L F H H') (hM : Lm H L F) {v : List V} {d : List PyData} (h : DxAll K (Z4 L F p r) H v d) : DxAll K (Z4 L F p r) H' v d :=
  dxAll_keep (fun _ _ e => k.sqT hM e) (fun _ _ z e => k _ _ z.1 z.2.1 e) h
theorem erase_perm {α : Type} {x : α} : ∀ {l : List α} {i : Nat}, l[i]? = some x → (x :: l.eraseIdx i).Perm l
  | [], i, e => by simp at e
  | y :: l, 0, e => by
    simp at e
    subst e
    exact List.Perm.refl _
  | y :: l, i + 1, e => by
    have e' : l[i]? = some x := by simpa using e
    exact (List.Perm.swap y x _).trans ((erase_perm e').cons y)
section
variable {P : Program} {w : World} {K : PySem.W.Frag} {mg : Str → Option Value} {base : Heap} {A : Nat → Addr} {D : Nat → FuncData}
def sp_mixed (K : PySem.W.Frag) : Sp := fun vs H Q _ => ∃ (L F a : Addr) (xs : List V) (ds : List PyData), vs = [.ref L, .ref a] ∧ Lm H L F ∧ (SqL K H a xs ∨ SqT K H a xs) ∧ xs.length < 1000000 ∧ DxAll K (ZL L F) H xs ds ∧
  PyData.canLayAll0 ds = true ∧ PyData.depthAll ds ≤ 60 ∧
  ∀ (H' : Hp) (p : Addr) (ys : List V) (es : List PyData), Kp L F H H' → Lm H' L F → H p = none → H' p = some (.lst ys) → p ≠ L → p ≠ F → DxAll K (ZL L F) H' ys es → es.Perm ds → Q (.ref p) H'
theorem Txt.ok_mixed (T : Txt K mg A D) : FnOk P w K mg base CX0 2 (A 11) (D 11) ["loom", "things"] (sp_mixed K) := by
  refine T.F_mixed.ok sc_mixed (fun vs H Q E h => ?_) (fun cdv Ar outer s H vs Q E hr h => ?_)
  · obtain ⟨L, F, a, xs, ds, rfl, _⟩ := h
    rfl
  · obtain ⟨L, F, a, xs, ds, rfl, hM, hS, hlen, hx, hc, hd, q⟩ := h
    refine ⟨_, (pss_cons (ps_par (i := 2) (j := 3) rfl sc_mixed.nd rfl rfl (by decide) rfl rfl (pa_cons (pe_callTy call_list_of (by rfl) T.z_list (by decide +kernel) (pa_cons (pv 1) pa_nil)) (pa_cons (pe_lst pa_nil) pa_nil)) (by rfl))
    (pss_cons (ps_while PassesOwn.never (pt_cmpR (op_neD hr.units) (pv 2) (pe_lst pa_nil) (nomark _)) (pss_one (ps_expr (pe_bm PySem.F.plainAttrs_list PySem.F.slot_list_append PySem.F.type_list_append mt_append (pv 3) (pa_cons (pe_bm PySem.F.plainAttrs_list PySem.F.slot_list_pop PySem.F.type_list_pop mt_popAt (pv 2) (pa_cons (pe_call (T.ok_draw) hr (by rfl) T.g_draw T.k_draw T.b_draw .nil pass0 (pa_cons (pv 0) (pa_cons (pe_callB call_len_seq (by rfl) T.z_len (by decide +kernel) (pa_cons (pv 2) pa_nil)) pa_nil))) pa_nil)) pa_nil)))))
    (pss_one (ps_ret (pv 3))))), ?_⟩
    refine ⟨_, rfl, a, xs, rfl, hS, fun p hp => ?_⟩
    have np := hM.ne hp
    have M1 := hM.new (o := .lst xs) hp
    refine ⟨Nat.zero_le _, fun r hr0 => ?_⟩
    have nr := M1.ne hr0
    have M2 := M1.new (o := .lst []) hr0
    have npr : p ≠ r := fun z => by
      rw [← z, upd_same] at hr0
      cases hr0
    refine ⟨_, _, rfl, ?_⟩
    have hrn : H r = none := by
      have := hr0
      rw [upd_ne npr.symm] at this
      exact this
    have big : ∀ (gs es : List PyData), (gs ++ es).Perm ds → gs.length + es.length < 1000000 := fun gs es pm => by
      have := pm.length_eq
      rw [List.length_append] at this
      have := dxAll_len hx
      omega
    refine while_by (fun σ H' => ∃ (ys zs : List V) (es gs : List PyData), σ = [some (.ref L), some (.ref a), some (.ref p), some (.ref r)] ∧ Kp L F H H' ∧ Lm H' L F ∧ H' p = some (.lst ys) ∧ H' r = some (.lst zs) ∧
        DxAll K (Z4 L F p r) H' ys es ∧ DxAll K (Z4 L F p r) H' zs gs ∧ (gs ++ es).Perm ds) (fun σ H' => match H' p with | some (.lst ys) => ys.length | _ => 0) ?_ ?_ ?_
    · refine ⟨xs, [], ds, [], rfl, (Kp.new hp).trans (Kp.new hr0), M2, ?_, upd_same, ?_, .nil, List.Perm.refl _⟩
      · rw [upd_ne npr]
        exact upd_same
      · refine dxAll_same ((same_new hp).trans (same_new hr0)) (dxAll_mono (fun b o e z => ⟨z.1, z.2, ?_, ?_⟩) hx)
        · exact ne_of_none e hp
        · exact ne_of_none e hrn
    · rintro σ H2 ⟨ys, zs, es, gs, rfl, kp2, hM2, hp2, hr2, dy, dz, pm⟩
      refine ⟨_, rfl, Nat.zero_le _, fun t ht => ?_⟩
      have sm := same_new (o := .lst []) ht
      have dy2 := dxAll_same sm dy
      have dz2 := dxAll_same sm dz
      have hp3 := sm _ _ hp2
      have hr3 := sm _ _ hr2
      have hM3 := hM2.same sm
      have kp3 := kp2.trans (kp_same sm)
      have cl : PyData.canLayAll0 es = true := canLayAll_mem.mpr fun d hd' => canLayAll_mem.mp hc d (pm.subset (List.mem_append_right _ hd'))
      have de : PyData.depthAll es ≤ 60 := depthAll_mem.mpr fun d hd' => depthAll_mem.mp hd d (pm.subset (List.mem_append_right _ hd'))
      have nd := PyData.hasDictAll_of_canLayAll es cl
      refine ⟨_, _, .lst (.inl (.inl hp3)) (dpAll_of_dx dy2 nd), .lst (xs := []) (.inl (.inl upd_same)) .nil, shapedL cl de, by decide, _, rfl, ite2 (fun e => ?_) (fun e => ?_)⟩
      · rw [eqvx_nil] at e
        have epos : 0 < ys.length := by
          rw [dxAll_len dy]
          cases es with
          | nil => exact absurd e (by decide)
          | cons _ _ => exact Nat.zero_lt_succ _
        have lens := big gs es pm
        have ly := dxAll_len dy
        have lz := dxAll_len dz
        refine ⟨_, rfl, .inl ⟨rfl, _, SqL.of hr3⟩, _, rfl, .inl ⟨rfl, _, SqL.of hp3⟩, _, rfl, _, rfl, p, ys, rfl, .inl (SqL.of hp3), L, F, _, rfl, hM3, by omega, fun H4 k kp4 hM4 k0 kl => ?_⟩
        have kn : k.toNat < ys.length := by omega
        have hp4 := kp4 _ _ np.1 np.2 hp3
        have hr4 := kp4 _ _ nr.1 nr.2 hr3
        have dy4 := dxAll_kp4 kp4 hM3 dy2
        have dz4 := dxAll_kp4 kp4 hM3 dz2
        have hy : ys[k.toNat]? = some ys[k.toNat] := List.getElem?_eq_getElem kn
        obtain ⟨d, hd4, dxd⟩ := dxAll_get dy4 hy
        refine ⟨p, ys, k, k.toNat, ys[k.toNat], rfl, rfl, hp4, by omega, by omega, ?_, hy, ?_⟩
        · exact seqIndex_of k0 (by omega)
        have hr5 : (upd H4 p (.lst (ys.eraseIdx k.toNat))) r = some (.lst zs) := by
          rw [upd_ne npr.symm]
          exact hr4
        refine ⟨r, zs, _, rfl, rfl, hr5, Nat.lt_of_lt_of_le (show zs.length < 1000000 by omega) (by decide), ?_⟩
        have zp : ∀ b, Z4 L F p r b → b ≠ p := fun b z => z.2.2.1
        have zr : ∀ b, Z4 L F p r b → b ≠ r := fun b z => z.2.2.2
        refine ⟨⟨ys.eraseIdx k.toNat, zs ++ [ys[k.toNat]], es.eraseIdx k.toNat, gs ++ [d], rfl, kp_put (kp_put (kp3.trans kp4) hp) hrn, lm_put (lm_put hM4 np.1 np.2) nr.1 nr.2, ?_, upd_same, ?_, ?_, ?_⟩, ?_⟩
        · rw [upd_ne npr]
          exact upd_same
        · exact dxAll_upd hr5 zr (dxAll_upd hp4 zp (dxAll_erase _ dy4))
        · refine dxAll_upd hr5 zr (dxAll_upd hp4 zp ?_)
          exact dxAll_app dz4 (.cons dxd .nil)
        · have z := (List.Perm.append_left gs (erase_perm hd4)).trans pm
          rw [List.append_assoc]
          exact z
        · show (match (upd (upd H4 p (.lst (ys.eraseIdx k.toNat))) r (.lst (zs ++ [ys[k.toNat]]))) p with | some (.lst ys) => ys.length | _ => 0) < (match H2 p with | some (.lst ys) => ys.length | _ => 0)
          rw [hp2, upd_ne npr, upd_same]
          show (ys.eraseIdx k.toNat).length < ys.length
          rw [List.length_eraseIdx_of_lt kn]
          omega
      · rw [eqvx_nil] at e
        have en : es = [] := by
          cases es with
          | nil => rfl
          | cons _ _ => exact absurd rfl e
        subst en
        rw [List.append_nil] at pm
        refine ⟨_, rfl, q _ r zs gs kp3 hM3 hrn hr3 nr.1 nr.2 (dxAll_mono (fun b o _ z => ⟨z.1, z.2.1⟩) dz2) pm⟩
    · intro σ H' Q1 Q2 k h
      obtain ⟨v, h1, h2, h3⟩ := h
      refine ⟨v, h1, h2, fun p hp => ?_⟩
      obtain ⟨d, e, a1, a2, a3, a4, c, a5, a6⟩ := h3 p hp
      exact ⟨d, e, a1, a2, a3, a4, c, a5, k _ _ a6⟩
end
end Ev

set_option exponentiation.threshold 10000
namespace Ev
open PySem PySem.Spec PyProof.Rows L2
/-! ### drawn shares and dice -/
theorem fA_pos {a b : Int} (ha : 0 < a) (hb : 0 < b) : 0 < fA a b := by
  have hb' : b ≠ 0 := by omega
  have e := fA_mul (a := a) hb'
  have d : 0 < dv a b := by
    unfold dv
    rw [if_pos hb]
    have := gc_pos (a := a) hb'
    omega
  rcases Int.lt_trichotomy 0 (fA a b) with z | z | z
  · exact z
  · rw [← z, Int.mul_zero] at e
    omega
  · have : dv a b * fA a b < 0 := Int.mul_neg_of_pos_of_neg d z
    omega
theorem fA_lt {a b : Int} (hb : 0 < b) (h : a < b) : fA a b < fB a b := by
  have hb' : b ≠ 0 := by omega
  have e1 := fA_mul (a := a) hb'
  have e2 := fB_mul (a := a) hb'
  have d : 0 < dv a b := by
    unfold dv
    rw [if_pos hb]
    have := gc_pos (a := a) hb'
    omega
  refine Int.not_le.mp fun z => ?_
  have := Int.mul_le_mul_of_nonneg_left z (Int.le_of_lt d)
  omega
/-- above 0, below 1, in lowest terms -/
structure Shr (x y : Int) : Prop where
  lo : Low x y
  pos : 0 < x
  lt : x < y
def pairD (x y : Int) : PyData := .tuple [.int x, .int y]
def tillD (x y : Int) : PyData := .tuple [.str "till", pairD x y]
def sideD (n x y : Int) : PyData := .tuple [.int n, pairD x y]
/-- the sides of numbers with so great parts of a whole -/
def sidesD (l : List (Int × Int)) (s : Int) : List PyData := l.map fun q => sideD q.1 (fA q.2 s) (fB q.2 s)
def diceD (l : List (Int × Int)) (s : Int) : PyData := .tuple [.str "die", .tuple (sidesD l s)]
structure Sides (l : List (Int × Int)) (s : Int) : Prop where
  up : (l.map (·.1)).Pairwise (· < ·)
  num : ∀ q ∈ l, 0 ≤ q.1 ∧ q.1 ≤ 9
  part : ∀ q ∈ l, 1 ≤ q.2 ∧ q.2 ≤ 4
  sum : (l.map (·.2)).sum = s
  len : 1 ≤ l.length ∧ l.length ≤ 6
/-- a drawn die -/
inductive IsDie : PyData → Prop
  | till {x y : Int} (h : Shr x y) (b : y ≤ 12) : IsDie (tillD x y)
  | die {l : List (Int × Int)} {s : Int} (h : Sides l s) : IsDie (diceD l s)
/-! ### permuted ints -/
theorem perm_ints {es : List PyData} {ms : List Int} (h : es.Perm (ms.map PyData.int)) : ∃ ns : List Int, es = ns.map PyData.int ∧ ns.Perm ms := by
  let g : PyData → Int := fun d => match d with | .int i => i | _ => 0
  refine ⟨es.map g, ?_, ?_⟩
  · rw [List.map_map]
    refine (List.map_id es).symm.trans (List.map_congr_left fun d hd => ?_)
    obtain ⟨i, _, e⟩ := List.mem_map.mp (h.subset hd)
    rw [← e]
    rfl
  · have z := h.map g
    rw [List.map_map] at z
    have e : List.map (g ∘ PyData.int) ms = ms := by
      refine (List.map_congr_left fun i _ => ?_).trans (List.map_id ms)
      rfl
    rw [e] at z
    exact z
theorem ints_of_dx {K : PySem.W.Frag} {Z : Addr → Prop} {H : Hp} : ∀ {ys : List V} {ns : List Int}, DxAll K Z H ys (ns.map PyData.int) → ys = ns.map V.int
  | _, [], .nil => rfl
  | _, n :: ns, .cons h r => by
    rw [dx_int h, ints_of_dx r]
    rfl
theorem sum_bounds : ∀ {l : List Int}, (∀ x ∈ l, 1 ≤ x ∧ x ≤ 4) → (l.length : Int) ≤ l.sum ∧ l.sum ≤ 4 * l.length
  | [], _ => by decide
  | x :: l, h => by
    have a := h x (List.mem_cons_self ..)
    have b := sum_bounds (l := l) fun y hy => h y (List.mem_cons_of_mem _ hy)
    rw [List.sum_cons, List.length_cons]
    omega
theorem dx_ints {K : PySem.W.Frag} {Z : Addr → Prop} {H : Hp} : ∀ ns : List Int, DxAll K Z H (ns.map V.int) (ns.map PyData.int)
  | [] => .nil
  | n :: ns => .cons (.int n) (dx_ints ns)
theorem cut_take {xs : List V} {m : Int} (h : 0 ≤ m) : cutV xs none (some m) = xs.take m.toNat := by
  unfold cutV
  have e : HT.sIx xs.length xs.length (some m) = min m.toNat xs.length := by
    have := HT.sIx_nat xs.length xs.length m.toNat
    rw [Int.toNat_of_nonneg h] at this
    exact this
  rw [e, HT.sIx_none, List.drop_zero, Nat.sub_zero]
  rcases Nat.le_total m.toNat xs.length with l | l
  · rw [Nat.min_eq_left l]
  · rw [Nat.min_eq_right l, List.take_of_length_le (Nat.le_refl _), List.take_of_length_le l]
section
variable {P : Program} {w : World} {K : PySem.W.Frag} {mg : Str → Option Value} {base : Heap} {A : Nat → Addr} {D : Nat → FuncData}
def sp_share : Sp := fun vs H Q _ => ∃ (L F : Addr) (most : Int), vs = [.ref L, .int most] ∧ Lm H L F ∧ most < 1000000 ∧ 2 ≤ most ∧
  ∀ (H' : Hp) (p : Addr) (x y : Int), Kp L F H H' → Lm H' L F → H' p = some (.tup [.int x, .int y]) → Shr x y → y ≤ most → Q (.ref p) H'
theorem Txt.ok_share (T : Txt K mg A D) : FnOk P w K mg base CX0 3 (A 16) (D 16) ["loom", "most"] sp_share := by
  refine T.F_share.ok sc_share (fun vs H Q E h => ?_) (fun cdv Ar outer s H vs Q E hr h => ?_)
  · obtain ⟨L, F, most, rfl, _⟩ := h
    rfl
  · obtain ⟨L, F, most, rfl, hM, hm, h2, q⟩ := h
    refine ⟨_, (pss_cons (ps_set (i := 2) sc_share.nd rfl (Or.inl rfl) (pe_op op_add pe_int (pe_call (T.ok_draw) (hr.mono (by decide)) (by rfl) T.g_draw T.k_draw T.b_draw .nil pass0 (pa_cons (pv 0) (pa_cons (pe_op op_sub (pv 1) pe_int) pa_nil)))))
    (pss_one (ps_ret (pe_call (T.ok_frac) hr (by rfl) T.g_frac T.k_frac T.b_frac .nil pass0 (pa_cons (pe_op op_add pe_int (pe_call (T.ok_draw) (hr.mono (by decide)) (by rfl) T.g_draw T.k_draw T.b_draw .nil pass0 (pa_cons (pv 0) (pa_cons (pe_op op_sub (pv 2) pe_int) pa_nil)))) (pa_cons (pv 2) pa_nil)))))), ?_⟩
    refine ⟨_, rfl, _, rfl, _, _, rfl, rfl, L, F, _, rfl, hM, by omega, fun H1 k kp1 hM1 k0 kl => ⟨_, _, rfl, rfl, ?_⟩⟩
    refine ⟨_, rfl, _, rfl, _, _, rfl, rfl, L, F, _, rfl, hM1, by omega, fun H2 j kp2 hM2 j0 jl => ⟨_, _, rfl, rfl, ?_⟩⟩
    have b0 : (0 : Int) < 2 + k := by omega
    have b1 : (2 + k : Int) ≠ 0 := by omega
    have sb : Bg (2 + k) := by
      show (2 + k).natAbs < 2 ^ 8900
      exact Nat.lt_of_lt_of_le (show (2 + k).natAbs < 2 ^ 20 by omega) (Nat.pow_le_pow_right (by decide) (by decide))
    refine ⟨_, rfl, 1 + j, 2 + k, rfl, b1, sb, fun H3 t sm ht ht3 => ?_⟩
    have hy := fB_le (a := 1 + j) b1
    have lo := low_f (a := 1 + j) b1
    have hy0 := lo.1
    exact q H3 t _ _ ((kp1.trans kp2).trans (kp_same sm)) (hM2.same sm) ht3 ⟨lo, fA_pos (by omega) b0, fA_lt b0 (by omega)⟩ (by omega)
def sp_die (K : PySem.W.Frag) : Sp := fun vs H Q _ => ∃ (L F : Addr), vs = [.ref L] ∧ Lm H L F ∧
  ∀ (H' : Hp) (p : Addr) (d : PyData), Kp L F H H' → Lm H' L F → Dx K (ZL L F) H' (.ref p) d → IsDie d → Q (.ref p) H'
theorem Txt.ok_die (T : Txt K mg A D) : FnOk P w K mg base CX0 4 (A 17) (D 17) ["loom"] (sp_die K) := by
  refine T.F_die.ok sc_die (fun vs H Q E h => ?_) (fun cdv Ar outer s H vs Q E hr h => ?_)
  · obtain ⟨L, F, rfl, _⟩ := h
    rfl
  · obtain ⟨L, F, rfl, hM, q⟩ := h
    refine ⟨_, (pss_cons (ps_if (pt_cmpR op_eq (pe_call (T.ok_draw) (hr.mono (by decide)) (by rfl) T.g_draw T.k_draw T.b_draw .nil pass0 (pa_cons (pv 0) (pa_cons pe_int pa_nil))) pe_int (nomark _)) (pss_one (ps_ret (pe_tup (pa_cons pe_str (pa_cons (pe_call (T.ok_share) hr (by rfl) T.g_share T.k_share T.b_share .nil pass0 (pa_cons (pv 0) (pa_cons (pe_call (T.ok_pick) (hr.mono (by decide)) (by rfl) T.g_pick T.k_pick T.b_pick .nil pass0 (pa_cons (pv 0) (pa_cons (pe_lst (pa_cons pe_int (pa_cons pe_int (pa_cons pe_int (pa_cons pe_int pa_nil))))) pa_nil))) pa_nil))) pa_nil))))) pss_nil)
    (pss_cons (ps_set (i := 1) sc_die.nd rfl (Or.inl rfl) (pe_callB cr_sorted (by rfl) T.z_sorted (by decide +kernel) (pa_cons (pe_slice sl_list (pe_call (T.ok_mixed) (hr.mono (by decide)) (by rfl) T.g_mixed T.k_mixed T.b_mixed .nil pass0 (pa_cons (pv 0) (pa_cons (pe_listRg rfl (by rfl) T.z_list (prg_1 (by rfl) T.range pe_int)) pa_nil))) po_none (po_some (pe_call (T.ok_pick) (hr.mono (by decide)) (by rfl) T.g_pick T.k_pick T.b_pick .nil pass0 (pa_cons (pv 0) (pa_cons (pe_lst (pa_cons pe_int (pa_cons pe_int (pa_cons pe_int (pa_cons pe_int (pa_cons pe_int (pa_cons pe_int (pa_cons pe_int pa_nil)))))))) pa_nil))))) pa_nil)))
    (pss_cons (ps_set (i := 2) sc_die.nd rfl (Or.inr rfl) (pe_lc (own := [("own", 3)]) (g := gName 3) (tt := tYes) rfl sc_die.nd (pi_list (pv 1)) (blkOk_by (N := ["loom", "shown", "parts", "own", "number", "part"]) (sc := defScope s_die) (by decide +kernel)) (fun _ _ _ _ _ => pg_name (i := 3) sc_die.nd rfl (Or.inl rfl)) (fun _ _ _ _ _ => pts_nil) (fun _ _ _ _ _ => (pe_op op_add pe_int (pe_call (T.ok_draw) (hr.mono (by decide)) (by rfl) T.g_draw T.k_draw T.b_draw .nil pass0 (pa_cons (pv 0) (pa_cons pe_int pa_nil)))))))
    (pss_one (ps_ret (pe_tup (pa_cons pe_str (pa_cons (pe_callTy call_tuple_of (by rfl) T.z_tuple (by decide +kernel) (pa_cons (pe_lc (own := [("number", 4), ("part", 5)]) (g := gTup K 2 (gCons (gName 4) (gCons (gName 5) gNil))) (tt := tYes) rfl sc_die.nd (pi_zip (by rfl) T.zip (pa_cons (pv 1) (pa_cons (pv 2) pa_nil))) (blkOk_by (N := ["loom", "shown", "parts", "own", "number", "part"]) (sc := defScope s_die) (by decide +kernel)) (fun _ _ _ _ _ => (pg_tup rfl (pgs_cons (pg_name (i := 4) sc_die.nd rfl (Or.inl rfl)) (pgs_cons (pg_name (i := 5) sc_die.nd rfl (Or.inl rfl)) pgs_nil)))) (fun _ _ _ _ _ => pts_nil) (fun _ _ _ _ _ => (pe_tup (pa_cons (pv 4) (pa_cons (pe_call (T.ok_frac) (hr.mono (by decide)) (by rfl) T.g_frac T.k_frac T.b_frac .nil pass0 (pa_cons (pv 5) (pa_cons (pe_callB (show CallR _ _ (rSum K) from cr_sum rfl) (by rfl) T.z_sum (by decide +kernel) (pa_cons (pv 2) pa_nil)) pa_nil))) pa_nil))))) pa_nil)) pa_nil)))))))), ?_⟩
    refine ⟨_, rfl, L, F, 4, rfl, hM, by decide, fun H1 k kp1 hM1 k0 kl => ⟨rfl, _, rfl, ite2 (fun _ => ?_) (fun _ => ?_)⟩⟩
    · refine ⟨_, rfl, _, rfl, (by show 4 ≤ sizeLine; decide), fun p hp => ?_⟩
      have np := hM1.ne hp
      refine ⟨L, F, p, _, rfl, hM1.new hp, SqL.of upd_same, np.1, np.2, (by show 0 < 4; decide), (by show 4 < 1073741824; decide), fun H2 i x kp2 hM2 hx => ?_⟩
      have kp3 := (kp1.trans (Kp.new hp)).trans kp2
      obtain ⟨m, rfl, m2, m12⟩ : ∃ m : Int, x = .int m ∧ 2 ≤ m ∧ m ≤ 12 := by
        have hx' := List.mem_of_getElem? hx
        simp only [List.mem_cons, List.not_mem_nil, or_false] at hx'
        rcases hx' with rfl | rfl | rfl | rfl
        · exact ⟨2, rfl, by decide, by decide⟩
        · exact ⟨3, rfl, by decide, by decide⟩
        · exact ⟨5, rfl, by decide, by decide⟩
        · exact ⟨12, rfl, by decide, by decide⟩
      refine ⟨L, F, m, rfl, hM2, by omega, m2, fun H3 t x y kp4 hM3 ht sh hy => ⟨(by show 2 ≤ sizeLine; decide), fun p2 hp2 => ?_⟩⟩
      refine q _ p2 (tillD x y) ((kp3.trans kp4).trans (Kp.new hp2)) (hM3.new hp2) ?_ (.till sh (by omega))
      refine .tup (SqT.of upd_same) (.cons (.str _) (.cons (.tup (xs := [.int x, .int y]) (SqT.of ?_) (.cons (.int _) (.cons (.int _) .nil))) .nil))
      rw [upd_ne (ne_of_none ht hp2)]
      exact ht
    · refine ⟨_, rfl, 10, rfl, RgOk.of_le (by decide) (by decide) (by decide) (by decide), fun p hp => ?_⟩
      have np := hM1.ne hp
      have e10 : rgV 0 10 = ([0, 1, 2, 3, 4, 5, 6, 7, 8, 9] : List Int).map V.int := rfl
      rw [e10]
      refine ⟨L, F, p, _, (([0, 1, 2, 3, 4, 5, 6, 7, 8, 9] : List Int).map PyData.int), rfl, hM1.new hp, .inl (SqL.of upd_same), (by decide), dx_ints _, by decide, by decide, fun H2 p2 ys es kp2 hM2 _ hp2 n1 n2 dx pm => ?_⟩
      obtain ⟨ns, rfl, pmn⟩ := perm_ints pm
      have ey := ints_of_dx dx
      subst ey
      have kp3 := (kp1.trans (Kp.new hp)).trans kp2
      -- how many
      refine ⟨_, rfl, (by show 7 ≤ sizeLine; decide), fun p3 hp3 => ?_⟩
      have n3 := hM2.ne hp3
      refine ⟨L, F, p3, _, rfl, hM2.new hp3, SqL.of upd_same, n3.1, n3.2, (by show 0 < 7; decide), (by show 7 < 1073741824; decide), fun H3 i x kp4 hM3 hx => ?_⟩
      have kp5 := (kp3.trans (Kp.new hp3)).trans kp4
      obtain ⟨m, rfl, m1, m6⟩ : ∃ m : Int, x = .int m ∧ 1 ≤ m ∧ m ≤ 6 := by
        have hx' := List.mem_of_getElem? hx
        simp only [List.mem_cons, List.not_mem_nil, or_false] at hx'
        rcases hx' with rfl | rfl | rfl | rfl | rfl | rfl | rfl
        · exact ⟨1, rfl, by decide, by decide⟩
        · exact ⟨2, rfl, by decide, by decide⟩
        · exact ⟨2, rfl, by decide, by decide⟩
        · exact ⟨2, rfl, by decide, by decide⟩
        · exact ⟨3, rfl, by decide, by decide⟩
        · exact ⟨4, rfl, by decide, by decide⟩
        · exact ⟨6, rfl, by decide, by decide⟩
      have hp2' : H3 p2 = some (.lst (ns.map V.int)) := kp4 _ _ n1 n2 (same_new hp3 _ _ hp2)
      refine ⟨_, rfl, p2, _, rfl, SqL.of hp2', fun p4 hp4 => ?_⟩
      rw [cut_take (show (0 : Int) ≤ m by omega), ← List.map_take]
      have hl10 : ns.length = 10 := pmn.length_eq
      have hlt : (ns.take m.toNat).length = m.toNat := by rw [List.length_take, hl10]; omega
      refine ⟨p4, ns.take m.toNat, rfl, SqL.of upd_same, by omega, fun sh p5 pms hs hp5 => ?_⟩
      have nd : ([0, 1, 2, 3, 4, 5, 6, 7, 8, 9] : List Int).Nodup := by decide
      have ndn : ns.Nodup := pmn.nodup_iff.mpr nd
      have ndt : (ns.take m.toNat).Nodup := ndn.sublist (List.take_sublist _ _)
      have nds : sh.Nodup := pms.nodup_iff.mpr ndt
      have lsh : sh.length = m.toNat := by rw [pms.length_eq, hlt]
      have up : sh.Pairwise (· < ·) := (hs.and nds).imp fun h => Int.lt_iff_le_and_ne.mpr h
      have rng : ∀ q ∈ sh, 0 ≤ q ∧ q ≤ 9 := fun q hq => by
        have h1 := List.mem_of_mem_take (pms.subset hq)
        have h2 := pmn.subset h1
        simp only [List.mem_cons, List.not_mem_nil, or_false] at h2
        omega
      have hM4 := hM3.new (o := .lst ((ns.take m.toNat).map V.int)) hp4
      have n5 := hM4.ne hp5
      have M5 := hM4.new (o := .lst (sh.map V.int)) hp5
      have kp6 := (kp5.trans (Kp.new hp4)).trans (Kp.new (o := .lst (sh.map V.int)) hp5)
      have e5 : (upd (upd H3 p4 (.lst ((ns.take m.toNat).map V.int))) p5 (.lst (sh.map V.int))) p5 = some (.lst (sh.map V.int)) := upd_same
      revert M5 kp6 e5
      generalize upd (upd H3 p4 (HO.lst ((ns.take m.toNat).map V.int))) p5 (HO.lst (sh.map V.int)) = G
      intro M5 kp6 e5
      -- the parts
      refine ⟨.ref p5, rfl, p5, rfl, ⟨_, SqL.of e5⟩, fun D1 hD1 => ?_⟩
      have nD := M5.ne hD1
      refine lc_list (K := K) (a := p5) (xs := sh.map V.int) (fun i H' => Kp L F G H' ∧ Lm H' L F ∧ ∃ acc : List Int, H' D1 = some (.lst (acc.map V.int)) ∧ acc.length = i ∧ ∀ x ∈ acc, 1 ≤ x ∧ x ≤ 4)
        ⟨Kp.new hD1, M5.new hD1, [], upd_same, rfl, fun x hx => nomatch hx⟩ (fun i H' _ z => SqL.of (z.1 _ _ n5.1 n5.2 e5)) ?_ ?_
      · rintro i x H4 hx ⟨kp7, hM7, acc, hA, la, hb⟩
        have hi : i < sh.length := by
          have := (List.getElem?_eq_some_iff.mp hx).1
          rw [List.length_map] at this
          exact this
        refine ⟨rfl, yes_of ?_⟩
        refine ⟨_, rfl, L, F, 4, rfl, hM7, by decide, fun H5 k2 kp8 hM8 k20 k2l => ⟨_, _, rfl, rfl, _, kp8 _ _ nD.1 nD.2 hA, small1000 (by rw [List.length_map]; omega), kp_put (kp7.trans kp8) hD1, lm_put hM8 nD.1 nD.2, acc ++ [1 + k2], ?_, ?_, ?_⟩⟩
        · rw [upd_same, List.map_append]
          rfl
        · rw [List.length_append, List.length_singleton, la]
        · intro y hy
          rcases List.mem_append.mp hy with z | z
          · exact hb y z
          · rw [List.mem_singleton.mp z]
            omega
      · rintro H4 ⟨kp7, hM7, parts, hA, la, hb⟩
        rw [List.length_map] at la
        have e6 := kp7 _ _ n5.1 n5.2 e5
        have s0 := sum_bounds hb
        have s1 : 1 ≤ parts.sum ∧ parts.sum ≤ 4 * parts.length := by omega
        have sb : Bg parts.sum := by
          show (parts.sum).natAbs < 2 ^ 8900
          exact Nat.lt_of_lt_of_le (show (parts.sum).natAbs < 2 ^ 20 by omega) (Nat.pow_le_pow_right (by decide) (by decide))
        refine ⟨_, rfl, _, rfl, p5, D1, _, _, rfl, SqL.of e6, SqL.of hA, fun D2 hD2 => ?_⟩
        refine lc_it (walk_zip rfl) (fun i H' => Same H4 H' ∧ ∃ ys : List V, H' D2 = some (.lst ys) ∧ DxAll K (fun _ => False) H' ys ((sidesD (sh.zip parts) parts.sum).take i)) ⟨same_new hD2, [], upd_same, .nil⟩ (fun i H' _ z => ⟨SqL.of (z.1 _ _ e6), SqL.of (z.1 _ _ hA)⟩) ?_ ?_
        · rintro i x H5 H6 hi ⟨sm, ys, hY, dY⟩ ⟨t, x1, y1, rfl, ht, rfl, hx1, hy1⟩
          obtain ⟨n0, hn0, rfl⟩ := int_at hx1
          obtain ⟨q0, hq0, rfl⟩ := int_at hy1
          have sm6 := sm.trans (same_new (o := .tup [.int n0, .int q0]) ht)
          have hY6 : (upd H5 t (.tup [.int n0, .int q0])) D2 = some (.lst ys) := same_new ht _ _ hY
          have dY6 := dxAll_same (same_new (o := .tup [.int n0, .int q0]) ht) dY
          have hz : (sidesD (sh.zip parts) parts.sum)[i]? = some (sideD n0 (fA q0 parts.sum) (fB q0 parts.sum)) := by
            unfold sidesD
            rw [List.getElem?_map, (List.getElem?_zip_eq_some (z := (n0, q0))).mpr ⟨hn0, hq0⟩]
            rfl
          refine ⟨t, _, rfl, SqT.of upd_same, rfl, _, _, rfl, _, _, rfl, rfl, ?_⟩
          refine ⟨rfl, yes_of ?_⟩
          refine ⟨_, rfl, _, rfl, _, rfl, D1, parts, rfl, SqL.of (sm6 _ _ hA), q0, parts.sum, rfl, by omega, sb, fun H7 t7 sm7 ht7 e7 => ⟨(by show 2 ≤ sizeLine; decide), fun p8 hp8 => ?_⟩⟩
          have sm8 := sm7.trans (same_new (o := .tup [.int n0, .ref t7]) hp8)
          refine ⟨ys, sm8 _ _ hY6, ?_, same_put (sm6.trans sm8) hD2, ys ++ [.ref p8], upd_same, ?_⟩
          · have := dxAll_len dY
            rw [List.length_take] at this
            have hi' : i < sh.length := by
              have h1 := hi
              rw [List.length_map, List.length_map] at h1
              omega
            have h2 : ys.length ≤ i := by
              rw [this]
              exact Nat.min_le_left _ _
            exact small1000 (by omega)
          · rw [List.take_add_one, hz]
            refine dxAll_upd (sm8 _ _ hY6) (fun _ z => z.elim) (dxAll_app (dxAll_same sm8 dY6) (.cons ?_ .nil))
            refine .tup (SqT.of upd_same) (.cons (.int _) (.cons (.tup (xs := [.int (fA q0 parts.sum), .int (fB q0 parts.sum)]) (SqT.of ?_) (.cons (.int _) (.cons (.int _) .nil))) .nil))
            rw [upd_ne (ne_of_none e7 hp8)]
            exact e7
        · rintro H5 ⟨sm, ys, hY, dY⟩
          have lz : (sh.zip parts).length = sh.length := by rw [List.length_zip]; omega
          have full : (sidesD (sh.zip parts) parts.sum).take (min (sh.map V.int).length (parts.map V.int).length) = sidesD (sh.zip parts) parts.sum := by
            refine List.take_of_length_le ?_
            unfold sidesD
            rw [List.length_map, lz, List.length_map, List.length_map]
            omega
          rw [full] at dY
          refine ⟨D2, ys, rfl, .inl ⟨SqL.of hY, fun p9 hp9 => ⟨(by show 2 ≤ sizeLine; decide), fun p10 hp10 => ?_⟩⟩⟩
          have sm9 := same_new (o := .tup ys) hp9
          have hM5 := hM7.same sm
          have sm10 := same_new (o := .tup [.str "die", .ref p9]) hp10
          refine q _ p10 (diceD (sh.zip parts) parts.sum) (((kp6.trans kp7).trans (kp_same sm)).trans (kp_same (sm9.trans sm10))) (hM5.same (sm9.trans sm10)) ?_ (.die ?_)
          · refine .tup (SqT.of upd_same) (.cons (.str _) (.cons (.tup (SqT.of (sm10 _ _ upd_same)) ?_) .nil))
            exact dxAll_mono (fun _ _ _ z => z.elim) (dxAll_same (sm9.trans sm10) dY)
          · have m1' : (sh.zip parts).map (·.1) = sh := by rw [List.map_fst_zip]; omega
            have m2' : (sh.zip parts).map (·.2) = parts := by rw [List.map_snd_zip]; omega
            refine ⟨by rw [m1']; exact up, fun r hr' => ?_, fun r hr' => ?_, by rw [m2'], by rw [lz]; omega⟩
            · exact rng _ (by rw [← m1']; exact List.mem_map_of_mem hr')
            · exact hb _ (by rw [← m2']; exact List.mem_map_of_mem hr')
end
end Ev

set_option exponentiation.threshold 20000
namespace Ev
open PySem PySem.Spec PyProof.Rows L2
section
variable {P : Program} {w : World} {K : PySem.W.Frag} {mg : Str → Option Value} {base : Heap} {A : Nat → Addr} {D : Nat → FuncData}
/-! ### the weights of sides -/
def NoP : Addr → Prop := fun _ => False
def sp_side_weights (K : PySem.W.Frag) : Sp := fun vs H Q _ => ∃ (Z : Addr → Prop) (v : V) (l : List (Int × Int × Int)), vs = [v] ∧ Dx K Z H v (.tuple (l.map sdD)) ∧
  (∀ q ∈ l, 1 ≤ q.2.2 ∧ q.2.1.natAbs < 2 ^ 8900) ∧ wholeN l < 2 ^ 8900 ∧ l.length ≤ 1000 ∧
  ∀ (H' : Hp) (p W : Addr) (ws : List V), Same H H' → H' p = some (.tup [.ref W, .int (wholeN l)]) → H' W = some (.lst ws) → DxAll K NoP H' ws ((wts l).map fun q => prD q.1 q.2) → Q (.ref p) H'
theorem dx_sdD {K : PySem.W.Frag} {Z : Addr → Prop} {H : Hp} {v : V} {q : Int × Int × Int} (h : Dx K Z H v (sdD q)) : ∃ a b, v = .ref a ∧ SqT K H a [.int q.1, .ref b] ∧ SqT K H b [.int q.2.1, .int q.2.2] := by
  obtain ⟨a, xs, rfl, hs, hd⟩ := dx_tup h
  cases hd with
  | cons h1 r1 =>
    cases r1 with
    | cons h2 r2 =>
      cases r2
      obtain ⟨b, rfl, hb⟩ := dx_prD h2
      rw [dx_int h1] at hs
      exact ⟨a, b, rfl, hs, hb⟩
theorem sds_at {K : PySem.W.Frag} {Z : Addr → Prop} {H : Hp} {vs : List V} {l : List (Int × Int × Int)} {i : Nat} {v : V} (h : DxAll K Z H vs (l.map sdD)) (e : vs[i]? = some v) :
    ∃ q a b, l[i]? = some q ∧ v = .ref a ∧ SqT K H a [.int q.1, .ref b] ∧ SqT K H b [.int q.2.1, .int q.2.2] := by
  obtain ⟨d, h1, h2⟩ := dxAll_get h e
  rw [List.getElem?_map] at h1
  cases q : l[i]? with
  | none => rw [q] at h1; cases h1
  | some p =>
    rw [q] at h1
    cases h1
    obtain ⟨a, b, ea, hs, hb⟩ := dx_sdD h2
    exact ⟨p, a, b, rfl, ea, hs, hb⟩
theorem Txt.ok_side_weights (T : Txt K mg A D) : FnOk P w K mg base CX0 1 (A 2) (D 2) ["sides"] (sp_side_weights K) := by
  refine T.F_side_weights.ok sc_side_weights (fun vs H Q E h => ?_) (fun cdv Ar outer s H vs Q E hr h => ?_)
  · obtain ⟨Z, v, l, rfl, _⟩ := h
    rfl
  · obtain ⟨Z, v, l, rfl, hd, hl, hw, hn, q⟩ := h
    obtain ⟨a, xs, rfl, hS, dx⟩ := dx_tup hd
    have lx : xs.length = l.length := by rw [dxAll_len dx, List.length_map]
    have wp := whole_pos (l := l) fun q hq => (hl q hq).1
    have wle : ∀ i, wholeN (l.take i) ≤ wholeN l := fun i => Nat.le_of_dvd wp (whole_part l i)
    refine ⟨_, (pss_cons (ps_set (i := 1) sc_side_weights.nd rfl (Or.inr rfl) pe_int)
    (pss_cons (ps_for PassesOwn.never rfl (pi_tup (pv 0)) (pg_tup rfl (pgs_cons (pg_name (i := 2) sc_side_weights.nd rfl (Or.inl rfl)) (pgs_cons (pg_name (i := 3) sc_side_weights.nd rfl (Or.inl rfl)) pgs_nil))) (pss_one (ps_set (i := 1) sc_side_weights.nd rfl (Or.inr rfl) (pe_callBfun cr_lcm (by rfl) T.z_lcm (pa_cons (pv 1) (pa_cons (pe_ix ix_tup (pv 3) pe_int (fun _ _ => rfl)) pa_nil))))))
    (pss_one (ps_ret (pe_tup (pa_cons (pe_lc (own := [("number", 4), ("share", 3)]) (g := gTup K 2 (gCons (gName 4) (gCons (gName 3) gNil))) (tt := tYes) rfl sc_side_weights.nd (pi_tup (pv 0)) (blkOk_by (N := ["sides", "whole", "_", "share", "number"]) (sc := defScope s_side_weights) (by decide +kernel)) (fun _ _ _ _ _ => (pg_tup rfl (pgs_cons (pg_name (i := 4) sc_side_weights.nd rfl (Or.inl rfl)) (pgs_cons (pg_name (i := 3) sc_side_weights.nd rfl (Or.inl rfl)) pgs_nil)))) (fun _ _ _ _ _ => pts_nil) (fun _ _ _ _ _ => (pe_tup (pa_cons (pv 4) (pa_cons (pe_op op_mulW (pe_ix (show IxR _ (rIxT K) from ix_tup) (pv 3) pe_int (fun _ _ => rfl)) (pe_op op_fdivW (pv 1) (pe_ix (show IxR _ (rIxT K) from ix_tup) (pv 3) pe_int (fun _ _ => rfl)))) pa_nil))))) (pa_cons (pv 1) pa_nil))))))), ?_⟩
    refine ⟨_, rfl, a, rfl, ⟨_, hS⟩, for_it walk_tup (fun i σ H' => H' = H ∧ ∃ y1 y2 : Option V, σ = [some (.ref a), some (.int (wholeN (l.take i))), y1, y2, none]) ⟨rfl, none, none, rfl⟩ (fun i σ H' _ z => by rw [z.1]; exact hS) ?_ ?_⟩
    · rintro i x σ H2 H3 hi ⟨rfl, y1, y2, rfl⟩ ⟨rfl, hx⟩
      obtain ⟨c, t, t2, hc, rfl, ht, ht2⟩ := sds_at dx hx
      have hm := List.mem_of_getElem? hc
      have yl : c.2.2.natAbs ≤ wholeN l := Nat.le_of_dvd wp (whole_mem hm)
      have big : (2 : Nat) ^ 8900 ≤ 2 ^ 13000 := Nat.pow_le_pow_right (by decide) (by decide)
      refine ⟨t, _, rfl, ht, rfl, _, _, rfl, _, _, rfl, rfl, ?_⟩
      refine ⟨_, rfl, _, rfl, t2, _, _, _, rfl, rfl, ht2, ix1, _, _, rfl, ?_, ?_, rfl, some (.int c.1), some (.ref t2), ?_⟩
      · have := wle i
        show wholeN (l.take i) < 2 ^ 13000
        omega
      · omega
      · rw [whole_take hc]
        rfl
    · rintro σ H2 ⟨rfl, y1, y2, rfl⟩
      rw [lx, List.take_length]
      refine ⟨_, rfl, a, rfl, ⟨_, hS⟩, fun D1 hD1 => ?_⟩
      refine lc_it walk_tup (fun i H' => Same H2 H' ∧ ∃ ws : List V, H' D1 = some (.lst ws) ∧ DxAll K NoP H' ws (((wts l).take i).map fun q => prD q.1 q.2)) ⟨same_new hD1, [], upd_same, .nil⟩ (fun i H' _ z => Ev.Same.seqT z.1 hS) ?_ ?_
      · rintro i x H5 H6 hi ⟨sm, ws, hW, dW⟩ ⟨rfl, hx⟩
        obtain ⟨c, t, t2, hc, rfl, ht, ht2⟩ := sds_at dx hx
        have hm := List.mem_of_getElem? hc
        have yl : c.2.2.natAbs ≤ wholeN l := Nat.le_of_dvd wp (whole_mem hm)
        have y1 := (hl c hm).1
        have ql : ((wholeN l : Int) / c.2.2).natAbs < 2 ^ 8900 := by
          have h1 : (wholeN l : Int) / c.2.2 ≤ wholeN l := Int.ediv_le_self _ (by omega)
          have h2 : 0 ≤ (wholeN l : Int) / c.2.2 := Int.ediv_nonneg (by omega) (by omega)
          omega
        refine ⟨t, _, rfl, Ev.Same.seqT sm ht, rfl, _, _, rfl, _, _, rfl, rfl, ?_⟩
        refine ⟨rfl, yes_of ?_⟩
        refine ⟨_, rfl, _, rfl, t2, _, _, _, rfl, rfl, Ev.Same.seqT sm ht2, ix0, _, rfl, _, rfl, t2, _, _, _, rfl, rfl, Ev.Same.seqT sm ht2, ix1, _, _, rfl, rfl, ?_, _, _, rfl, rfl, ?_, (by show 2 ≤ sizeLine; decide), fun p8 hp8 => ?_⟩
        · exact wide_div (b := 8900) (by omega) (by omega) (by decide) (by decide)
        · exact wide_mul (hl c hm).2 ql (by decide) (by decide) (by decide)
        refine ⟨ws, same_new hp8 _ _ hW, ?_, same_put (sm.trans (same_new hp8)) hD1, ws ++ [.ref p8], upd_same, ?_⟩
        · have h1 := dxAll_len dW
          rw [List.length_map, List.length_take] at h1
          exact small1000 (by omega)
        · have hz : (wts l)[i]? = some (c.1, c.2.1 * ((wholeN l : Int) / c.2.2)) := by
            unfold wts
            rw [List.getElem?_map, hc]
            rfl
          rw [List.take_add_one, hz, List.map_append]
          have d1 : DxAll K NoP (upd H6 p8 (.tup [.int c.1, .int (c.2.1 * ((wholeN l : Int) / c.2.2))])) (ws ++ [.ref p8]) _ := dxAll_app (dxAll_new hp8 dW) (.cons (prD_dx (SqT.of upd_same)) .nil)
          refine dxAll_keep (fun a' zs e => ?_) (fun a' o z e => z.elim) d1
          rcases e with (e | ⟨ob, e⟩) | e
          · exact .inl (.inl (by rw [upd_ne (ne_of e (same_new hp8 _ _ hW) (by intro z; cases z))]; exact e))
          · exact .inl (.inr ⟨ob, by rw [upd_ne (ne_of e (same_new hp8 _ _ hW) (by intro z; cases z))]; exact e⟩)
          · exact .inr e
      · rintro H5 ⟨sm, ws, hW, dW⟩
        have full : (wts l).take xs.length = wts l := List.take_of_length_le (by unfold wts; rw [List.length_map]; omega)
        rw [full] at dW
        refine ⟨_, rfl, (by show 2 ≤ sizeLine; decide), fun p9 hp9 => ?_⟩
        exact q _ p9 D1 ws (sm.trans (same_new hp9)) upd_same (same_new hp9 _ _ hW) (dxAll_new hp9 dW)
end
end Ev

set_option exponentiation.threshold 20000
namespace Ev
open PySem PySem.Spec PyProof.Rows L2
section
variable {P : Program} {w : World} {K : PySem.W.Frag} {mg : Str → Option Value} {base : Heap} {A : Nat → Addr} {D : Nat → FuncData}
/-! ### the program's powers, lowest terms, weights of sides -/
def sp_low : Sp := fun vs H Q _ => ∃ a b : Int, vs = [.int a, .int b] ∧ b ≠ 0 ∧ gc a b < 2 ^ 8990 ∧
  ∀ (H' : Hp) (p : Addr), Same H H' → H p = none → H' p = some (.tup [.int (fA a b), .int (fB a b)]) → Q (.ref p) H'
theorem dv_okg {a b c : Int} (h : b ≠ 0) (hb : gc a b < 2 ^ 8990) : CDivZ c (dv a b) := by
  refine ⟨dv_ne h, ?_⟩
  rw [dv_abs]
  have := PySem.Flt.log2_lt_of (by decide) hb
  exact Nat.lt_trans this (by decide)
theorem Txt.ok_lowest (T : Txt K mg A D) : FnOk P w K mg base CX0 1 (A 0) (D 0) ["a", "b"] sp_low := by
  refine T.F_lowest.ok sc_lowest (fun vs H Q E h => ?_) (fun cdv Ar outer s H vs Q E hr h => ?_)
  · obtain ⟨a, b, rfl, _⟩ := h
    rfl
  · obtain ⟨a, b, rfl, hb, sb, q⟩ := h
    refine ⟨_, (pss_cons (ps_if (pt_cmpR op_eq (pv 1) pe_int (nomark _)) (pss_one ps_never) pss_nil)
    (pss_cons (ps_set (i := 2) sc_lowest.nd rfl (Or.inl rfl) (pe_callBfun cr_gcd (by rfl) T.z_gcd (pa_cons (pv 0) (pa_cons (pv 1) pa_nil))))
    (pss_cons (ps_if (pt_cmpR op_lt (pv 1) pe_int (nomark _)) (pss_one (ps_set (i := 2) sc_lowest.nd rfl (Or.inl rfl) (pe_un un_neg (pv 2)))) pss_nil)
    (pss_one (ps_ret (pe_tup (pa_cons (pe_op op_fdivZ (pv 0) (pv 2)) (pa_cons (pe_op op_fdivZ (pv 1) (pv 2)) pa_nil)))))))), ?_⟩
    refine ⟨_, rfl, rfl, _, rfl, ite2 (fun e => absurd (V.int.inj (of_decide_eq_true e)) hb) (fun e => ?_)⟩
    refine ⟨_, rfl, _, rfl, _, _, rfl, _, rfl, _, _, rfl, rfl, _, rfl, ite2 (fun e1 => ?_) (fun e1 => ?_)⟩
    · have d : dv a b = -(gc a b : Int) := if_neg (by have := of_decide_eq_true e1; omega)
      refine ⟨_, rfl, _, rfl, _, rfl, _, rfl, _, _, rfl, rfl, by show CDivZ a (-(gc a b : Int)); rw [← d]; exact dv_okg hb sb, _, rfl, _, rfl, _, _, rfl, rfl, by show CDivZ b (-(gc a b : Int)); rw [← d]; exact dv_okg hb sb, (by show 2 ≤ sizeLine; decide), fun p hp => q _ p (same_new hp) hp ?_⟩
      rw [upd_same]
      show some (HO.tup [V.int (a.fdiv (-(gc a b : Int))), V.int (b.fdiv (-(gc a b : Int)))]) = _
      rw [← d]
      rfl
    · have d : dv a b = (gc a b : Int) := if_pos (by have := Int.not_lt.mp (fun z => e1 (decide_eq_true z)); omega)
      refine ⟨_, rfl, _, rfl, _, _, rfl, rfl, by show CDivZ a (gc a b : Int); rw [← d]; exact dv_okg hb sb, _, rfl, _, rfl, _, _, rfl, rfl, by show CDivZ b (gc a b : Int); rw [← d]; exact dv_okg hb sb, (by show 2 ≤ sizeLine; decide), fun p hp => q _ p (same_new hp) hp ?_⟩
      rw [upd_same]
      show some (HO.tup [V.int (a.fdiv (gc a b : Int)), V.int (b.fdiv (gc a b : Int))]) = _
      rw [← d]
      rfl
def sp_power : Sp := fun vs H Q _ => ∃ (b : Int) (e s : Nat), vs = [.int b, .int e] ∧ b.natAbs < 2 ^ s ∧ 2 * (s * e) + 2 ≤ 900000 ∧ Q (.int (b ^ e)) H
theorem Txt.ok_power (T : Txt K mg A D) : FnOk P w K mg base CX0 1 (A 1) (D 1) ["base", "exponent"] sp_power := by
  refine T.F_power.ok sc_power (fun vs H Q E h => ?_) (fun cdv Ar outer s H vs Q E hr h => ?_)
  · obtain ⟨b, e, s, rfl, _⟩ := h
    rfl
  · obtain ⟨b, e, z, rfl, hb, hs, q⟩ := h
    refine ⟨_, (pss_cons (ps_set (i := 2) sc_power.nd rfl (Or.inl rfl) pe_int)
    (pss_cons (ps_while PassesOwn.never (pt_cmpR op_gt (pv 1) pe_int (nomark _)) (C8.pss_cut (ps_if (pt_cmpR op_eq (pe_op op_and (pv 1) pe_int) pe_int (nomark _)) (pss_one (ps_set (i := 2) sc_power.nd rfl (Or.inl rfl) (pe_op op_mulW (pv 2) (pv 0)))) pss_nil)
    (pss_cons (ps_set (i := 0) sc_power.nd rfl (Or.inl rfl) (pe_op op_mulW (pv 0) (pv 0)))
    (pss_one (ps_set (i := 1) sc_power.nd rfl (Or.inl rfl) (pe_op op_shr (pv 1) pe_int))))))
    (pss_one (ps_ret (pv 2))))), ?_⟩
    refine while_by (fun σ H' => H' = H ∧ ∃ m e' r : Nat, σ = [some (.int (b ^ m)), some (.int (e' : Int)), some (.int (b ^ r))] ∧ r + e' * m = e ∧ 1 ≤ m) (fun σ _ => match σ with | [_, some (.int y), _] => y.toNat | _ => 0) ⟨rfl, 1, e, 0, by rw [Int.pow_succ, Int.pow_zero, Int.one_mul]; rfl, by omega, Nat.le_refl _⟩ ?_ ?_
    · rintro σ H' ⟨rfl, m, e', r, rfl, he, hm⟩
      refine ⟨_, rfl, _, _, rfl, rfl, _, rfl, ite2 (fun e1 => ?_) (fun e1 => ?_)⟩
      · have hp : 1 ≤ e' := by have := of_decide_eq_true e1; omega
        have hme : m ≤ e' * m := Nat.le_mul_of_pos_left _ hp
        have s1 : z * r + z * m ≤ z * e := by
          rw [← Nat.mul_add]
          exact Nat.mul_le_mul_left _ (by omega)
        have pm := pow_lt hb m
        have pr := pow_lt hb r
        have w1 : CMulW (b ^ r) (b ^ m) := wide_mul pr pm (Nat.succ_pos _) (Nat.succ_pos _) (by omega)
        have w2 : CMulW (b ^ m) (b ^ m) := wide_mul pm pm (Nat.succ_pos _) (Nat.succ_pos _) (by omega)
        have e2 : e' = 2 * (e' / 2) + e' % 2 := by omega
        have e3 : e' * m = (e' / 2) * (m + m) + (e' % 2) * m := by
          conv => lhs; rw [e2]
          rw [Nat.add_mul, Nat.mul_assoc, Nat.mul_comm 2, Nat.mul_assoc, Nat.mul_two]
        refine ⟨fun σ' H2 => H2 = H' ∧ σ' = [some (.int (b ^ m)), some (.int (e' : Int)), some (.int (b ^ (r + (e' % 2) * m)))], ?_, ?_⟩
        · refine ⟨_, rfl, _, _, rfl, rfl, rfl, _, rfl, ite2 (fun y => ?_) (fun y => ?_)⟩
          · have h1 : e' % 2 = 1 := by
              have := V.int.inj (of_decide_eq_true y)
              rw [and_one] at this
              omega
            refine ⟨_, rfl, _, rfl, _, _, rfl, rfl, w1, rfl, ?_⟩
            rw [h1, Nat.one_mul, Int.pow_add]
            rfl
          · have h1 : e' % 2 = 0 := by
              have : Builtin.bitAnd (e' : Int) 1 ≠ 1 := fun y2 => y (decide_eq_true (congrArg V.int y2))
              rw [and_one] at this
              omega
            refine ⟨rfl, ?_⟩
            rw [h1, Nat.zero_mul, Nat.add_zero]
        · rintro σ' H2 ⟨rfl, rfl⟩
          have pe : b ^ m * b ^ m = b ^ (m + m) := (Int.pow_add ..).symm
          have pd : (e' : Int) / 2 ^ (1 : Int).toNat = ((e' / 2 : Nat) : Int) := by
            show (e' : Int) / 2 = _
            omega
          refine ⟨_, rfl, _, rfl, _, _, rfl, rfl, w2, _, rfl, _, _, rfl, rfl, (by show (0 : Int) ≤ 1; decide), ⟨rfl, m + m, e' / 2, r + (e' % 2) * m, ?_, ?_, by omega⟩, ?_⟩
          · show [some (V.int (b ^ m * b ^ m)), some (V.int ((e' : Int) / 2 ^ (1 : Int).toNat)), some (V.int (b ^ (r + e' % 2 * m)))] = _
            rw [pe, pd]
          · omega
          · show ((e' : Int) / 2 ^ (1 : Int).toNat).toNat < (e' : Int).toNat
            show ((e' : Int) / 2).toNat < (e' : Int).toNat
            omega
      · have h0 : e' = 0 := by
          have : ¬ (0 : Int) < e' := fun y => e1 (decide_eq_true y)
          omega
        subst h0
        refine ⟨_, rfl, ?_⟩
        have : r = e := by omega
        rw [this]
        exact q
    · intro σ H' Q1 Q2 k h
      obtain ⟨v, h1, i, j, h2, h3, c, h4, h5⟩ := h
      exact ⟨v, h1, i, j, h2, h3, c, h4, k _ _ h5⟩
end
end Ev

set_option exponentiation.threshold 20000
namespace Ev
open PySem PySem.Spec PyProof.Rows L2
theorem recT_app (m : Nat) (q : Nat → Int) (n : Nat) : ∀ (l k : List (Nat × Int)), recT m q (l ++ k) n = recT m q l n + recT m q k n
  | [], k => by simp [recT]
  | (a, c) :: l, k => by
    have ih := recT_app m q n l k
    show (if a ≤ n then ((m : Int) * a - n + a) * c * q (n - a) else 0) + recT m q (l ++ k) n = (if a ≤ n then ((m : Int) * a - n + a) * c * q (n - a) else 0) + recT m q l n + recT m q k n
    rw [ih]
    omega
def natP (l : List (Nat × Int)) : List (Int × Int) := l.map fun q => ((q.1 : Int), q.2)
theorem natP_at {l : List (Nat × Int)} {i : Nat} {x y : Int} (h : (natP l)[i]? = some (x, y)) : ∃ a : Nat, x = a ∧ l[i]? = some (a, y) := by
  unfold natP at h
  rw [List.getElem?_map] at h
  cases q : l[i]? with
  | none => rw [q] at h; cases h
  | some p =>
    rw [q] at h
    cases h
    exact ⟨p.1, rfl, rfl⟩
theorem natP_to {l : List (Nat × Int)} {i : Nat} {p : Nat × Int} (h : l[i]? = some p) : (natP l)[i]? = some ((p.1 : Int), p.2) := by
  unfold natP
  rw [List.getElem?_map, h]
  rfl
theorem natP_len (l : List (Nat × Int)) : (natP l).length = l.length := List.length_map ..
/-- the weights 0 to n - 1 -/
def rowsI (q : Nat → Int) (n : Nat) : List Int := (List.range n).map q
theorem rowsI_at {q : Nat → Int} {n i : Nat} (h : i < n) : (rowsI q n)[i]? = some (q i) := by
  unfold rowsI
  rw [List.getElem?_map, List.getElem?_range h]
  rfl
theorem rowsI_succ (q : Nat → Int) (n : Nat) : rowsI q (n + 1) = rowsI q n ++ [q n] := by
  unfold rowsI
  rw [List.range_succ, List.map_append]
  rfl
theorem rowsI_len (q : Nat → Int) (n : Nat) : (rowsI q n).length = n := by
  unfold rowsI
  rw [List.length_map, List.length_range]
/-- the size of the weights of many throws -/
theorem pw_size {l : List (Nat × Int)} (h : ∀ p ∈ l, 0 ≤ p.2) (hw : (wsum l).natAbs < 2 ^ 1400) (m n : Nat) : (pw l m n).natAbs < 2 ^ (1400 * m + 1) := by
  have h1 := pw_nn h m n
  have h2 := pw_le h m n
  have h3 := pow_lt hw m
  omega
section
variable {P : Program} {w : World} {K : PySem.W.Frag} {mg : Str → Option Value} {base : Heap} {A : Nat → Addr} {D : Nat → FuncData}
def sp_power_weights (K : PySem.W.Frag) : Sp := fun vs H Q _ => ∃ (f st : Int) (R : Addr) (xs : List V) (r : List (Nat × Int)) (m : Nat), vs = [.int f, .ref R, .int (m : Int), .int st] ∧
  H R = some (.lst xs) ∧ DxAll K NoP H xs ((natP r).map fun q => prD q.1 q.2) ∧ (∀ p ∈ r, 1 ≤ p.1 ∧ p.1 ≤ 1000 ∧ 0 ≤ p.2) ∧ 1 ≤ f ∧ (wsum ((0, f) :: r)).natAbs < 2 ^ 1400 ∧ m ≤ 200 ∧ st ≤ 10000 ∧
  ∀ (H' : Hp) (p : Addr), Same H H' → H p = none → H' p = some (.lst ((rowsI (pw ((0, f) :: r) m) (st + 1).toNat).map V.int)) → Q (.ref p) H'
theorem Txt.ok_power_weights (T : Txt K mg A D) : FnOk P w K mg base CX0 2 (A 4) (D 4) ["first", "rest", "many", "steps"] (sp_power_weights K) := by
  refine T.F_power_weights.ok sc_power_weights (fun vs H Q E h => ?_) (fun cdv Ar outer s H vs Q E hr h => ?_)
  · obtain ⟨f, st, R, xs, r, m, rfl, _⟩ := h
    rfl
  · obtain ⟨f, st, R, xs, r, m, rfl, hR, dR, hr1, hf, hw, hm, hst, q⟩ := h
    have nn : ∀ p ∈ (0, f) :: r, 0 ≤ p.2 := fun p hp => by
      rcases List.mem_cons.mp hp with rfl | hp
      · show 0 ≤ f; omega
      · exact (hr1 p hp).2.2
    have rn : 0 ≤ wsum r := wsum_nn fun p hp => (hr1 p hp).2.2
    have ew : wsum ((0, f) :: r) = f + wsum r := by
      unfold wsum
      rw [List.map_cons, List.sum_cons]
    have hf2 : f.natAbs < 2 ^ 1400 := by omega
    have cle : ∀ p ∈ r, p.2.natAbs < 2 ^ 1400 := fun p hp => by
      have : p.2 ≤ wsum r := by
        have key : ∀ (l : List (Nat × Int)), (∀ x ∈ l, 0 ≤ x.2) → p ∈ l → p.2 ≤ wsum l := by
          intro l
          induction l with
          | nil => intro _ h; cases h
          | cons x l ih =>
            intro hl hp
            have e : wsum (x :: l) = x.2 + wsum l := by
              unfold wsum
              rw [List.map_cons, List.sum_cons]
            have a1 := hl x (List.mem_cons_self ..)
            have a2 := wsum_nn (l := l) fun y hy => hl y (List.mem_cons_of_mem _ hy)
            rcases List.mem_cons.mp hp with rfl | hp
            · omega
            · have := ih (fun y hy => hl y (List.mem_cons_of_mem _ hy)) hp
              omega
        exact key r (fun x hx => (hr1 x hx).2.2) hp
      have := (hr1 p hp).2.2
      omega
    have lx : xs.length = r.length := by rw [dxAll_len dR, List.length_map, natP_len]
    refine ⟨_, (pss_cons (ps_if (pt_cmpR op_lt (pv 3) pe_int (nomark _)) (pss_one (ps_ret (pe_lst pa_nil))) pss_nil)
    (pss_cons (ps_set (i := 4) sc_power_weights.nd rfl (Or.inl rfl) (pe_lst (pa_cons (pe_call (T.ok_power) hr (by rfl) T.g_power T.k_power T.b_power .nil pass0 (pa_cons (pv 0) (pa_cons (pv 2) pa_nil))) pa_nil)))
    (pss_cons (ps_for PassesOwn.never rfl (pi_range2 rfl T.range (pa_cons pe_int (pa_cons (pe_op op_add (pv 3) pe_int) pa_nil))) (pg_name (i := 5) sc_power_weights.nd rfl (Or.inl rfl)) (pss_cons (ps_set (i := 6) sc_power_weights.nd rfl (Or.inl rfl) pe_int)
    (pss_cons (ps_for PassesOwn.never rfl (pi_list (pv 1)) (pg_tup rfl (pgs_cons (pg_name (i := 7) sc_power_weights.nd rfl (Or.inl rfl)) (pgs_cons (pg_name (i := 8) sc_power_weights.nd rfl (Or.inl rfl)) pgs_nil))) (pss_one (ps_if (pt_cmpR op_le (pv 7) (pv 5) (nomark _)) (pss_one (ps_aug (i := 6) sc_power_weights.nd rfl (Or.inl rfl) (pe_op op_mulW (pe_op op_mul (pe_op op_add (pe_op op_sub (pe_op op_mul (pv 2) (pv 7)) (pv 5)) (pv 7)) (pv 8)) (pe_ix ix_list (pv 4) (pe_op op_sub (pv 5) (pv 7)) (fun _ _ => rfl))) ip_add)) pss_nil)))
    (pss_one (ps_expr (pe_bm PySem.F.plainAttrs_list PySem.F.slot_list_append PySem.F.type_list_append mt_append (pv 4) (pa_cons (pe_op op_fdivZ (pv 6) (pe_op op_mul (pv 5) (pv 0))) pa_nil)))))))
    (pss_one (ps_ret (pv 4)))))), ?_⟩
    refine ⟨_, rfl, _, _, rfl, rfl, _, rfl, ite2 (fun e => ?_) (fun e => ?_)⟩
    · have hs := of_decide_eq_true e
      refine ⟨(by show 0 ≤ sizeLine; decide), fun p hp => q _ p (same_new hp) hp ?_⟩
      rw [upd_same]
      have z : (st + 1).toNat = 0 := by omega
      rw [z]
      rfl
    · have hs : 0 ≤ st := Int.not_lt.mp fun z => e (decide_eq_true z)
      refine ⟨_, rfl, _, rfl, f, m, 1400, rfl, hf2, by omega, (by show 1 ≤ sizeLine; decide), fun p hp => ?_⟩
      have e0 : pw ((0, f) :: r) m 0 = f ^ m := pw_zero f (fun x hx => (hr1 x hx).1) m
      have nR : R ≠ p := ne_of_none hR hp
      refine ⟨_, rfl, _, _, rfl, rfl, 1, st + 1, rfl, ⟨by decide, by decide, by omega, by omega⟩, for_range (lo := 1) (n := (st + 1 - 1).toNat) (fun i σ H' => (∃ y1 y2 y3 y4 : Option V, σ = [some (.int f), some (.ref R), some (.int (m : Int)), some (.int st), some (.ref p), y1, y2, y3, y4]) ∧ Same H H' ∧ H' p = some (.lst ((rowsI (pw ((0, f) :: r) m) (i + 1)).map V.int))) ?_ ?_ ?_⟩
      · refine ⟨⟨none, none, none, none, rfl⟩, same_new hp, ?_⟩
        rw [upd_same, rowsI_succ]
        show some (HO.lst [V.int (f ^ m)]) = some (HO.lst [V.int (pw ((0, f) :: r) m 0)])
        rw [e0]
      · rintro i σ H1 hi ⟨⟨y1, y2, y3, y4, rfl⟩, sm, hL⟩
        have eplace : (1 + (i : Int)) = ((i + 1 : Nat) : Int) := by omega
        refine ⟨_, rfl, R, rfl, ⟨_, SqL.of (sm _ _ hR)⟩, for_it walk_list (fun j σ H' => H' = H1 ∧ ∃ y3 y4 : Option V, σ = [some (.int f), some (.ref R), some (.int (m : Int)), some (.int st), some (.ref p), some (.int (1 + (i : Int))), some (.int (recT m (pw ((0, f) :: r) m) (r.take j) (i + 1))), y3, y4]) ⟨rfl, y3, y4, rfl⟩ (fun j σ H' _ z => by rw [z.1]; exact SqL.of (sm _ _ hR)) ?_ ?_⟩
        · rintro j x σ H2 H3 hj ⟨rfl, z3, z4, rfl⟩ ⟨rfl, hx⟩
          obtain ⟨u, v, t, h1, rfl, ht⟩ := prs_at (dxAll_same sm dR) hx
          obtain ⟨a, rfl, ha⟩ := natP_at h1
          have hmem := List.mem_of_getElem? ha
          obtain ⟨a1, a2, a3⟩ := hr1 _ hmem
          have et : recT m (pw ((0, f) :: r) m) (r.take (j + 1)) (i + 1) = recT m (pw ((0, f) :: r) m) (r.take j) (i + 1) + (if a ≤ i + 1 then ((m : Int) * a - ((i + 1 : Nat) : Int) + a) * v * pw ((0, f) :: r) m (i + 1 - a) else 0) := by
            rw [List.take_add_one, ha, recT_app]
            show _ = _
            simp [recT]
          refine ⟨t, _, rfl, ht, rfl, _, _, rfl, _, _, rfl, rfl, ?_⟩
          refine ⟨_, rfl, _, rfl, _, _, rfl, rfl, _, rfl, ite2 (fun e1 => ?_) (fun e1 => ?_)⟩
          · have le : a ≤ i + 1 := by
              have : (a : Int) ≤ 1 + (i : Int) := by simpa using e1
              omega
            have ei : (1 + (i : Int)) - (a : Int) = ((i + 1 - a : Nat) : Int) := by omega
            have small : ((m : Int) * a - (1 + (i : Int)) + a).natAbs < 2 ^ 30 := by
              have b1 : (m : Int) * a ≤ 200 * 1000 := Int.mul_le_mul (by omega) (by omega) (by omega) (by decide)
              have b2 : 0 ≤ (m : Int) * a := Int.mul_nonneg (by omega) (by omega)
              omega
            have hi2 : i < (st + 1 - 1).toNat := hi
            refine ⟨_, rfl, _, rfl, _, rfl, _, _, rfl, rfl, .inl ⟨by omega, by omega⟩, _, rfl, _, _, rfl, rfl, _, rfl, _, _, rfl, rfl, _, rfl, _, _, rfl, rfl, .inl ⟨by omega, by omega⟩, _, rfl, _, rfl, _, rfl, _, _, rfl, rfl, p, _, _, V.int (pw ((0, f) :: r) m (i + 1 - a)), rfl, rfl, SqL.of hL, ?_, _, _, rfl, rfl, ?_, _, _, rfl, rfl, ?_⟩
            · rw [ei]
              refine atI_nat ?_
              rw [List.getElem?_map, rowsI_at (by omega)]
              rfl
            · refine wide_mul (wide_lt small (cle _ hmem)) (pw_size nn hw m (i + 1 - a)) (by decide) (Nat.succ_pos _) ?_
              omega
            · refine ⟨rfl, some (.int (a : Int)), some (.int v), ?_⟩
              rw [et, if_pos le, ← eplace]
              rfl
          · have gt : ¬ a ≤ i + 1 := fun z => e1 (by
              have : (a : Int) ≤ 1 + (i : Int) := by omega
              simpa using this)
            refine ⟨rfl, some (.int (a : Int)), some (.int v), ?_⟩
            rw [et, if_neg gt, Int.add_zero]
            rfl
        · rintro σ H2 ⟨rfl, z3, z4, rfl⟩
          rw [lx, List.take_length]
          have nx := pw_next f r m (i + 1)
          have hi2 : i < (st + 1 - 1).toNat := hi
          have fpos : 0 < (1 + (i : Int)) * f := Int.mul_pos (by omega) (by omega)
          have quo : (recT m (pw ((0, f) :: r) m) r (i + 1)).fdiv ((1 + (i : Int)) * f) = pw ((0, f) :: r) m (i + 1) := by
            rw [← nx, eplace, Int.mul_comm f, Int.mul_fdiv_cancel_left]
            rw [← eplace]
            omega
          refine ⟨_, rfl, .inl ⟨rfl, _, SqL.of hL⟩, _, rfl, _, rfl, _, rfl, _, _, rfl, rfl, .inl ⟨by omega, by omega⟩, _, _, rfl, rfl, ⟨by omega, ?_⟩, p, _, _, rfl, rfl, hL, ?_, ?_⟩
          · have : ((1 + (i : Int)) * f).natAbs < 2 ^ (30 + 1400) := wide_lt (by omega) hf2
            exact Nat.lt_trans (PySem.Flt.log2_lt_of (by decide) this) (by decide)
          · rw [List.length_map, rowsI_len]
            have : i + 1 ≤ 10000 := by omega
            exact Nat.lt_of_le_of_lt this (by decide)
          · refine ⟨⟨_, _, _, _, rfl⟩, same_put sm hp, ?_⟩
            rw [upd_same, rowsI_succ _ (i + 1), List.map_append]
            show some (HO.lst (_ ++ [V.int ((recT m (pw ((0, f) :: r) m) r (i + 1)).fdiv ((1 + (i : Int)) * f))])) = _
            rw [quo]
            rfl
      · rintro σ H1 ⟨⟨y1, y2, y3, y4, rfl⟩, sm, hL⟩
        refine ⟨_, rfl, q _ p sm hp ?_⟩
        have z : (st + 1 - 1).toNat + 1 = (st + 1).toNat := by omega
        rw [hL, z]
end
end Ev

set_option exponentiation.threshold 20000
namespace Ev
open PySem PySem.Spec PyProof.Rows L2
def gapN (lo : Nat) (S : List (Nat × Int)) : Nat := S.foldl (fun g q => Nat.gcd g (q.1 - lo)) 0
theorem fold_gap_dvd (lo : Nat) : ∀ (S : List (Nat × Int)) (g : Nat), S.foldl (fun g q => Nat.gcd g (q.1 - lo)) g ∣ g
  | [], g => Nat.dvd_refl _
  | q :: S, g => Nat.dvd_trans (fold_gap_dvd lo S _) (Nat.gcd_dvd_left _ _)
theorem fold_gap_mem (lo : Nat) : ∀ (S : List (Nat × Int)) (g : Nat), ∀ q ∈ S, S.foldl (fun g q => Nat.gcd g (q.1 - lo)) g ∣ q.1 - lo
  | [], g, q, h => nomatch h
  | p :: S, g, q, h => by
    rcases List.mem_cons.mp h with rfl | h
    · exact Nat.dvd_trans (fold_gap_dvd lo S _) (Nat.gcd_dvd_right _ _)
    · exact fold_gap_mem lo S _ q h
theorem gap_mem {lo : Nat} {S : List (Nat × Int)} {q : Nat × Int} (h : q ∈ S) : gapN lo S ∣ q.1 - lo := fold_gap_mem lo S 0 q h
theorem gap_take {lo : Nat} {S : List (Nat × Int)} {i : Nat} {q : Nat × Int} (h : S[i]? = some q) : gapN lo (S.take (i + 1)) = Nat.gcd (gapN lo (S.take i)) (q.1 - lo) := by
  unfold gapN
  rw [List.take_add_one, h, List.foldl_append]
  rfl
def restN (lo g : Nat) (r : List (Nat × Int)) : List (Nat × Int) := r.map fun q => ((q.1 - lo) / g, q.2)
theorem spread_eq {lo g : Nat} {f : Int} {r : List (Nat × Int)} (h : ∀ q ∈ r, lo ≤ q.1 ∧ g ∣ q.1 - lo) : spread lo g ((0, f) :: restN lo g r) = (lo, f) :: r := by
  show (lo + g * 0, f) :: spread lo g (restN lo g r) = _
  rw [Nat.mul_zero, Nat.add_zero]
  congr 1
  unfold spread restN
  rw [List.map_map]
  refine (List.map_congr_left fun q hq => ?_).trans (List.map_id r)
  obtain ⟨h1, h2⟩ := h q hq
  show (lo + g * ((q.1 - lo) / g), q.2) = q
  rw [Nat.mul_div_cancel' h2]
  have : lo + (q.1 - lo) = q.1 := by omega
  rw [this]
theorem asc_last {S : List (Nat × Int)} (h : S.Pairwise fun p q => p.1 < q.1) {p : Nat × Int} {S' : List (Nat × Int)} (e : S = S' ++ [p]) : ∀ q ∈ S, q.1 ≤ p.1 := by
  subst e
  intro q hq
  rw [List.pairwise_append] at h
  rcases List.mem_append.mp hq with hq | hq
  · exact Nat.le_of_lt (h.2.2 q hq p (List.mem_singleton.mpr rfl))
  · rw [List.mem_singleton.mp hq]
    exact Nat.le_refl _
theorem cut_one {v : V} {xs : List V} : cutV (v :: xs) (some 1) none = xs := by
  unfold cutV
  have e : HT.sIx (v :: xs).length 0 (some 1) = min 1 (v :: xs).length := HT.sIx_nat (v :: xs).length 0 1
  have e1 : min 1 (v :: xs).length = 1 := by rw [List.length_cons]; omega
  rw [e, e1, HT.sIx_none, List.drop_one, List.tail_cons]
  exact List.take_of_length_le (by rw [List.length_cons]; omega)
section
variable {P : Program} {w : World} {K : PySem.W.Frag} {mg : Str → Option Value} {base : Heap} {A : Nat → Addr} {D : Nat → FuncData}
def sp_throw_weights (K : PySem.W.Frag) : Sp := fun vs H Q _ => ∃ (W : Addr) (xs : List V) (lo : Nat) (f : Int) (r : List (Nat × Int)) (m N : Nat), vs = [.ref W, .int (m : Int), .int (N : Int)] ∧
  H W = some (.lst xs) ∧ DxAll K NoP H xs ((natP ((lo, f) :: r)).map fun q => prD q.1 q.2) ∧ ((lo, f) :: r).Pairwise (fun p q => p.1 < q.1) ∧ (∀ p ∈ (lo, f) :: r, p.1 ≤ 9 ∧ 1 ≤ p.2) ∧
  (wsum ((lo, f) :: r)).natAbs < 2 ^ 1400 ∧ m ≤ 200 ∧ N ≤ 9000 ∧
  ∀ (H' : Hp) (p : Addr) (ys : List V) (res : List (Int × Int)), Same H H' → H' p = some (.lst ys) → DxAll K NoP H' ys (res.map fun q => prD q.1 q.2) →
    (∀ q ∈ res, ∃ n : Nat, q.1 = n ∧ q.2 = pw ((lo, f) :: r) m n) → (pw ((lo, f) :: r) m N ≠ 0 → ∃ q ∈ res, q.1 = N) → Q (.ref p) H'
theorem Txt.ok_throw_weights (T : Txt K mg A D) : FnOk P w K mg base CX0 3 (A 3) (D 3) ["weights", "many", "most"] (sp_throw_weights K) := by
  refine T.F_throw_weights.ok sc_throw_weights (fun vs H Q E h => ?_) (fun cdv Ar outer s H vs Q E hr h => ?_)
  · obtain ⟨W, xs, lo, f, r, m, N, rfl, _⟩ := h
    rfl
  · obtain ⟨W, xs, lo, f, r, m, N, rfl, hW, dW, asc, hS, hw, hm, hN, q⟩ := h
    have lx : xs.length = r.length + 1 := by rw [dxAll_len dW, List.length_map, natP_len]; rfl
    obtain ⟨t0, ht0, hs0⟩ := prs_to dW (i := 0) (p := ((lo : Int), f)) rfl
    obtain ⟨f1, f2⟩ := hS (lo, f) (List.mem_cons_self ..)
    have lo9 : lo ≤ 9 := f1
    have fpos : 1 ≤ f := f2
    have rn : 0 ≤ wsum r := wsum_nn fun p hp => by have := (hS p (List.mem_cons_of_mem _ hp)).2; omega
    have ew : wsum ((lo, f) :: r) = f + wsum r := by
      unfold wsum
      rw [List.map_cons, List.sum_cons]
    have hf2 : f.natAbs < 2 ^ 1400 := by omega
    have upL : ∀ p ∈ r, lo < p.1 := (List.pairwise_cons.mp asc).1
    have ascR := (List.pairwise_cons.mp asc).2
    refine ⟨_, (pss_cons (ps_asg (pe_ix ix_list (pv 0) pe_int (fun _ _ => rfl)) (pg_tup rfl (pgs_cons (pg_name (i := 3) sc_throw_weights.nd rfl (Or.inr rfl)) (pgs_cons (pg_name (i := 4) sc_throw_weights.nd rfl (Or.inl rfl)) pgs_nil))))
    (pss_cons (ps_if (PW.pt (pw_or (pt_cmpR op_eq (pe_callB call_len_seq (by rfl) T.z_len (by decide +kernel) (pa_cons (pv 0) pa_nil)) pe_int (nomark _)) (pw_or1 (pt_cmpR op_eq (pv 1) pe_int (nomark _))))) (pss_one (ps_ret (pe_lst (pa_cons (pe_tup (pa_cons (pe_op op_mul (pv 3) (pv 1)) (pa_cons (pe_call (T.ok_power) (hr.mono (by decide)) (by rfl) T.g_power T.k_power T.b_power .nil pass0 (pa_cons (pv 4) (pa_cons (pv 1) pa_nil))) pa_nil))) pa_nil)))) pss_nil)
    (pss_cons (ps_set (i := 5) sc_throw_weights.nd rfl (Or.inr rfl) pe_int)
    (pss_cons (ps_for PassesOwn.never rfl (pi_list (pv 0)) (pg_tup rfl (pgs_cons (pg_name (i := 6) sc_throw_weights.nd rfl (Or.inl rfl)) (pgs_cons (pg_name (i := 7) sc_throw_weights.nd rfl (Or.inl rfl)) pgs_nil))) (pss_one (ps_set (i := 5) sc_throw_weights.nd rfl (Or.inr rfl) (pe_callBfun cr_gcd (by rfl) T.z_gcd (pa_cons (pv 5) (pa_cons (pe_op op_sub (pv 6) (pv 3)) pa_nil))))))
    (pss_cons (ps_setLc (i := 8) (own := [("number", 6), ("weight", 11)]) (g := gTup K 2 (gCons (gName 6) (gCons (gName 11) gNil))) (tt := tYes) rfl sc_throw_weights.nd rfl rfl (sw_true rfl rfl rfl (by decide +kernel)) (pi_list (pe_slice sl_list (pv 0) (po_some pe_int) po_none)) (blkOk_by (N := ["weights", "many", "most", "least", "first", "step", "number", "_", "rest", "steps", "rows", "weight", "at"]) (sc := defScope s_throw_weights) (by decide +kernel)) (fun _ _ _ _ _ => (pg_tup rfl (pgs_cons (pg_name (i := 6) sc_throw_weights.nd rfl (Or.inl rfl)) (pgs_cons (pg_name (i := 11) sc_throw_weights.nd rfl (Or.inl rfl)) pgs_nil)))) (fun _ _ _ _ _ => pts_nil) (fun _ _ _ _ _ => (pe_tup (pa_cons (pe_op op_fdivN (pe_op op_sub (pv 6) (pv 3)) (pv 5)) (pa_cons (pv 11) pa_nil)))))
    (pss_cons (ps_set (i := 9) sc_throw_weights.nd rfl (Or.inl rfl) (pe_op op_mul (pe_ix ix_tup (pe_ix ix_list (pv 8) (pe_un un_neg pe_int) (fun _ _ => rfl)) pe_int (fun _ _ => rfl)) (pv 1)))
    (C8.pss_cut (ps_if (pt_cmpR op_notN (pv 2) pe_non (nomark _)) (pss_one (ps_set (i := 9) sc_throw_weights.nd rfl (Or.inl rfl) (pe_callB (call_min2 rfl) (by rfl) T.z_min (by decide +kernel) (pa_cons (pv 9) (pa_cons (pe_op op_fdivN (pe_op op_sub (pv 2) (pe_op op_mul (pv 3) (pv 1))) (pv 5)) pa_nil))))) pss_nil)
    (pss_cons (ps_set (i := 10) sc_throw_weights.nd rfl (Or.inl rfl) (pe_call (T.ok_power_weights) hr (by rfl) T.g_power_weights T.k_power_weights T.b_power_weights .nil pass0 (pa_cons (pv 4) (pa_cons (pv 8) (pa_cons (pv 1) (pa_cons (pv 9) pa_nil))))))
    (pss_one (ps_ret (pe_lc (own := [("at", 12), ("weight", 11)]) (g := gTup K 2 (gCons (gName 12) (gCons (gName 11) gNil))) (tt := _) rfl sc_throw_weights.nd (pi_enum (by rfl) T.enumerate (pa_cons (pv 10) pa_nil)) (blkOk_by (N := ["weights", "many", "most", "least", "first", "step", "number", "_", "rest", "steps", "rows", "weight", "at"]) (sc := defScope s_throw_weights) (by decide +kernel)) (fun _ _ _ _ _ => (pg_tup rfl (pgs_cons (pg_name (i := 12) sc_throw_weights.nd rfl (Or.inl rfl)) (pgs_cons (pg_name (i := 11) sc_throw_weights.nd rfl (Or.inl rfl)) pgs_nil)))) (fun _ _ _ _ _ => (pts_one (pt_cmpR op_gt (pv 11) pe_int (nomark _)))) (fun _ _ _ _ _ => (pe_tup (pa_cons (pe_op op_add (pe_op op_mul (pv 3) (pv 1)) (pe_op op_mul (pv 5) (pv 12))) (pa_cons (pv 11) pa_nil))))))))))))))), ?_⟩
    have fin : (r = [] ∨ m = 0) → ∀ (p1 p2 : Addr), H p1 = none → (upd H p1 (.tup [.int ((lo : Int) * m), .int (f ^ m)])) p2 = none →
        Q (.ref p2) (upd (upd H p1 (.tup [.int ((lo : Int) * m), .int (f ^ m)])) p2 (.lst [.ref p1])) := by
      intro h p1 p2 h1 h2
      have z : ∀ n, pw ((lo, f) :: r) m n = if n = lo * m then f ^ m else 0 := by
        intro n
        rcases h with rfl | rfl
        · exact pw_single lo f m n
        · rw [Nat.mul_zero, Int.pow_zero]
          rfl
      refine q _ p2 [.ref p1] [((lo : Int) * m, f ^ m)] ((same_new h1).trans (same_new h2)) upd_same (.cons (prD_dx (SqT.of ?_)) .nil) (fun x hx => ?_) (fun hx => ⟨_, List.mem_singleton.mpr rfl, ?_⟩)
      · exact same_new h2 _ _ upd_same
      · rw [List.mem_singleton.mp hx]
        refine ⟨lo * m, (Int.natCast_mul lo m).symm, ?_⟩
        rw [z, if_pos rfl]
      · rw [z] at hx
        have : N = lo * m := Decidable.byContradiction fun y => hx (if_neg y)
        rw [this]
        exact (Int.natCast_mul lo m).symm
    refine ⟨_, rfl, W, xs, _, _, rfl, rfl, SqL.of hW, atI_nat (j := 0) ht0, t0, _, rfl, hs0, rfl, _, _, rfl, _, _, rfl, rfl, ?_⟩
    refine ⟨_, rfl, W, xs, rfl, .inl (SqL.of hW), rfl, _, rfl, ite2 (fun e1 => ?_) (fun e1 => ?_)⟩
    · have h1 : r = [] := by
        have : (xs.length : Int) = 1 := V.int.inj (of_decide_eq_true e1)
        exact List.eq_nil_of_length_eq_zero (by omega)
      exact iteT ⟨_, rfl, _, rfl, _, _, rfl, rfl, .inl ⟨by omega, by omega⟩, _, rfl, _, rfl, f, m, 1400, rfl, hf2, by omega, (by show 2 ≤ sizeLine; decide), fun p1 hp1 => ⟨(by show 1 ≤ sizeLine; decide), fun p2 hp2 => fin (.inl h1) p1 p2 hp1 hp2⟩⟩
    refine ⟨_, rfl, rfl, _, rfl, ite2 (fun e2 => ?_) (fun e2 => ?_)⟩
    · have h1 : m = 0 := by
        have : (m : Int) = 0 := V.int.inj (of_decide_eq_true e2)
        omega
      exact ⟨_, rfl, _, rfl, _, _, rfl, rfl, .inl ⟨by omega, by omega⟩, _, rfl, _, rfl, f, m, 1400, rfl, hf2, by omega, (by show 2 ≤ sizeLine; decide), fun p1 hp1 => ⟨(by show 1 ≤ sizeLine; decide), fun p2 hp2 => fin (.inr h1) p1 p2 hp1 hp2⟩⟩
    have hr0 : r ≠ [] := fun z => vneF e1 (by rw [lx, z]; rfl)
    obtain ⟨r', la, er⟩ : ∃ r' la, r = r' ++ [la] := ⟨r.dropLast, r.getLast hr0, (List.dropLast_concat_getLast hr0).symm⟩
    have lam : la ∈ r := by rw [er]; exact List.mem_append_right _ (List.mem_singleton.mpr rfl)
    -- the step
    refine ⟨_, rfl, W, rfl, ⟨_, SqL.of hW⟩, for_it walk_list (fun i σ H' => H' = H ∧ ∃ y1 y2 : Option V, σ = [some (.ref W), some (.int (m : Int)), some (.int (N : Int)), some (.int (lo : Int)), some (.int f), some (.int (gapN lo (((lo, f) :: r).take i) : Int)), y1, y2, none, none, none, none, none]) ⟨rfl, none, none, rfl⟩ (fun i σ H' _ z => by rw [z.1]; exact SqL.of hW) ?_ ?_⟩
    · rintro i x σ H2 H3 hi ⟨rfl, y1, y2, rfl⟩ ⟨rfl, hx⟩
      obtain ⟨u, v, t, h1, rfl, ht⟩ := prs_at dW hx
      obtain ⟨a, rfl, ha⟩ := natP_at h1
      have lea : lo ≤ a := by
        rcases List.mem_cons.mp (List.mem_of_getElem? ha) with z | z
        · cases z; exact Nat.le_refl _
        · exact Nat.le_of_lt (upL _ z)
      refine ⟨t, _, rfl, ht, rfl, _, _, rfl, _, _, rfl, rfl, ?_⟩
      refine ⟨_, rfl, _, rfl, _, rfl, _, _, rfl, rfl, _, _, rfl, rfl, some (.int (a : Int)), some (.int v), ?_⟩
      have e1 : ((a : Int) - (lo : Int)).natAbs = a - lo := by omega
      rw [gap_take ha, ← e1]
      rfl
    rintro σ H2 ⟨rfl, y1, y2, rfl⟩
    have full : ((lo, f) :: r).take xs.length = (lo, f) :: r := List.take_of_length_le (by rw [List.length_cons]; omega)
    rw [full]
    generalize eg : gapN lo ((lo, f) :: r) = g
    have gd : ∀ p ∈ r, g ∣ p.1 - lo := fun p hp => by rw [← eg]; exact gap_mem (List.mem_cons_of_mem _ hp)
    have gp : 0 < g := by
      obtain ⟨k, hk⟩ := gd la lam
      have := upL la lam
      refine Nat.pos_of_ne_zero fun z => ?_
      subst z
      rw [Nat.zero_mul] at hk
      omega
    have gle : g ≤ 9 := by
      have h1 := Nat.le_of_dvd (by have := upL la lam; omega) (gd la lam)
      have h2 := (hS la (List.mem_cons_of_mem _ lam)).1
      omega
    have spr : spread lo g ((0, f) :: restN lo g r) = (lo, f) :: r := spread_eq fun p hp => ⟨Nat.le_of_lt (upL p hp), gd p hp⟩
    obtain ⟨v0, xs', ex⟩ : ∃ v0 xs', xs = v0 :: xs' := by
      cases xs with
      | nil => rw [List.length_nil] at lx; omega
      | cons v0 xs' => exact ⟨v0, xs', rfl⟩
    have dR : DxAll K NoP H2 xs' ((natP r).map fun q => prD q.1 q.2) := by
      rw [ex] at dW
      cases dW with
      | cons _ z => exact z
    have lx' : xs'.length = r.length := by rw [ex, List.length_cons] at lx; omega
    -- the others
    refine ⟨_, rfl, 1, rfl, W, xs, rfl, SqL.of hW, fun p4 hp4 => ?_⟩
    rw [ex, cut_one]
    have e4 : (upd H2 p4 (.lst xs')) p4 = some (.lst xs') := upd_same
    have sm4 : Same H2 (upd H2 p4 (.lst xs')) := same_new hp4
    revert e4 sm4
    generalize upd H2 p4 (HO.lst xs') = G
    intro e4 sm4
    refine ⟨p4, rfl, ⟨_, SqL.of e4⟩, fun D1 hD1 => ?_⟩
    refine lc_it walk_list (fun i H' => Same G H' ∧ ∃ ws : List V, H' D1 = some (.lst ws) ∧ DxAll K NoP H' ws ((natP ((restN lo g r).take i)).map fun q => prD q.1 q.2)) ⟨same_new hD1, [], upd_same, .nil⟩ (fun i H' _ z => SqL.of (z.1 _ _ e4)) ?_ ?_
    · rintro i x H5 H6 hi ⟨sm, ws, hws, dws⟩ ⟨rfl, hx⟩
      obtain ⟨u, v, t, h1, rfl, ht⟩ := prs_at (dxAll_same (sm4.trans sm) dR) hx
      obtain ⟨a, rfl, ha⟩ := natP_at h1
      have lea : lo < a := upL _ (List.mem_of_getElem? ha)
      have a9 : a ≤ 9 := (hS _ (List.mem_cons_of_mem _ (List.mem_of_getElem? ha))).1
      have ev : ((a : Int) - (lo : Int)).fdiv (g : Int) = (((a - lo) / g : Nat) : Int) := by
        rw [Int.fdiv_eq_ediv_of_nonneg _ (by omega), show (a : Int) - (lo : Int) = ((a - lo : Nat) : Int) by omega]
        rfl
      refine ⟨t, _, rfl, ht, rfl, _, _, rfl, _, _, rfl, rfl, ?_⟩
      refine ⟨rfl, yes_of ?_⟩
      refine ⟨_, rfl, _, rfl, _, _, rfl, rfl, _, rfl, _, _, rfl, rfl, ⟨by omega, by omega⟩, _, rfl, (by show 2 ≤ sizeLine; decide), fun p8 hp8 => ?_⟩
      dsimp only; rw [ev]
      refine ⟨ws, same_new hp8 _ _ hws, ?_, same_put (sm.trans (same_new hp8)) hD1, ws ++ [.ref p8], upd_same, ?_⟩
      · have h1 := dxAll_len dws
        rw [List.length_map, natP_len, List.length_take] at h1
        have : r.length ≤ 9 := by
          have key : ∀ (l : List (Nat × Int)) (b : Nat), l.Pairwise (fun p q => p.1 < q.1) → (∀ p ∈ l, b ≤ p.1 ∧ p.1 ≤ 9) → b ≤ 10 → l.length + b ≤ 10 := by
            intro l
            induction l with
            | nil => intro b _ _ hb; rw [List.length_nil]; omega
            | cons p l ih =>
              intro b hp hb _
              have a1 := hb p (List.mem_cons_self ..)
              have a2 := List.pairwise_cons.mp hp
              have := ih (p.1 + 1) a2.2 (fun y hy => ⟨a2.1 y hy, (hb y (List.mem_cons_of_mem _ hy)).2⟩) (by omega)
              rw [List.length_cons]
              omega
          have := key r 1 ascR (fun p hp => ⟨by have := upL p hp; omega, (hS p (List.mem_cons_of_mem _ hp)).1⟩) (by decide)
          omega
        exact small1000 (by omega)
      · have hz : (restN lo g r)[i]? = some ((a - lo) / g, v) := by
          unfold restN
          rw [List.getElem?_map, ha]
          rfl
        have e5 : natP ((restN lo g r).take (i + 1)) = natP ((restN lo g r).take i) ++ [((((a - lo) / g : Nat) : Int), v)] := by
          unfold natP
          rw [List.take_add_one, hz, List.map_append]
          rfl
        rw [e5, List.map_append]
        have d1 : DxAll K NoP (upd H6 p8 (.tup [.int (((a - lo) / g : Nat) : Int), .int v])) (ws ++ [.ref p8]) _ := dxAll_app (dxAll_new hp8 dws) (.cons (prD_dx (SqT.of upd_same)) .nil)
        refine dxAll_keep (fun a' zs e => ?_) (fun a' o z e => z.elim) d1
        rcases e with (e | ⟨ob, e⟩) | e
        · exact .inl (.inl (by rw [upd_ne (ne_of e (same_new hp8 _ _ hws) (by intro z; cases z))]; exact e))
        · exact .inl (.inr ⟨ob, by rw [upd_ne (ne_of e (same_new hp8 _ _ hws) (by intro z; cases z))]; exact e⟩)
        · exact .inr e
    rintro H5 ⟨sm5, ws, hws, dws⟩
    have lrest : (restN lo g r).length = r.length := List.length_map ..
    rw [lx', ← lrest, List.take_length] at dws
    have sm := sm4.trans sm5
    have erest : restN lo g r = restN lo g r' ++ [((la.1 - lo) / g, la.2)] := by
      rw [er]
      unfold restN
      rw [List.map_append]
      rfl
    obtain ⟨ws', wl, ews, tl, ewl, hwl⟩ : ∃ ws' wl, ws = ws' ++ [wl] ∧ ∃ tl, wl = .ref tl ∧ SqT K H5 tl [.int (((la.1 - lo) / g : Nat) : Int), .int la.2] := by
      have l1 := dxAll_len dws
      rw [List.length_map, natP_len, erest, List.length_append, List.length_singleton] at l1
      obtain ⟨a, ha, hs⟩ := prs_to dws (i := (restN lo g r').length) (p := ((((la.1 - lo) / g : Nat) : Int), la.2)) (by
        rw [erest]
        unfold natP
        rw [List.map_append, List.getElem?_append_right (by rw [List.length_map]; exact Nat.le_refl _), List.length_map, Nat.sub_self]
        rfl)
      have hne : ws ≠ [] := fun z => by rw [z] at l1; cases l1
      refine ⟨ws.dropLast, ws.getLast hne, (List.dropLast_concat_getLast hne).symm, a, ?_, hs⟩
      rw [List.getLast_eq_getElem]
      have : ws[ws.length - 1]? = some (.ref a) := by rw [show ws.length - 1 = (restN lo g r').length by omega]; exact ha
      exact (List.getElem?_eq_some_iff.mp this).2
    subst ewl
    have top : ∀ p ∈ (0, f) :: restN lo g r, p.1 ≤ (la.1 - lo) / g := by
      intro p hp
      rcases List.mem_cons.mp hp with rfl | hp
      · exact Nat.zero_le _
      · unfold restN at hp
        obtain ⟨q0, hq0, rfl⟩ := List.mem_map.mp hp
        have := asc_last ascR er q0 hq0
        exact Nat.div_le_div_right (by omega)
    generalize etp : (la.1 - lo) / g = tp at hwl top
    have tp9 : tp ≤ 9 := by
      have h2 := (hS la (List.mem_cons_of_mem _ lam)).1
      have h3 : (la.1 - lo) / g ≤ la.1 - lo := Nat.div_le_self _ _
      omega
    refine ⟨_, rfl, _, rfl, D1, _, _, _, rfl, rfl, SqL.of hws, (by rw [ews]; exact atI_last ws' _), tl, _, _, _, rfl, rfl, hwl, ix0, _, rfl, _, _, rfl, rfl, .inl ⟨by omega, by omega⟩, ?_⟩
    have tm : (tp : Int) * (m : Int) = ((tp * m : Nat) : Int) := (Int.natCast_mul tp m).symm
    have lm : (lo : Int) * (m : Int) = ((lo * m : Nat) : Int) := (Int.natCast_mul lo m).symm
    have tm2 : tp * m ≤ 1800 := by
      have := Nat.mul_le_mul tp9 hm
      omega
    have lm2 : lo * m ≤ 1800 := by
      have := Nat.mul_le_mul lo9 hm
      omega
    refine ⟨fun σ' H' => H' = H5 ∧ ∃ st : Int, σ' = [some (.ref W), some (.int (m : Int)), some (.int (N : Int)), some (.int (lo : Int)), some (.int f), some (.int (g : Int)), y1, y2, some (.ref D1), some (.int st), none, none, none] ∧ st ≤ 1800 ∧
      (∀ k : Nat, k ≤ tp * m → lo * m + g * k = N → (k : Int) ≤ st), ?_, ?_⟩
    · refine ⟨_, rfl, rfl, _, rfl, ite2 (fun _ => ?_) (fun e => absurd rfl e)⟩
      refine ⟨_, rfl, _, rfl, _, rfl, _, rfl, _, _, rfl, rfl, .inl ⟨by omega, by omega⟩, _, _, rfl, rfl, _, rfl, _, _, rfl, rfl, ⟨by omega, by omega⟩, _, _, rfl, rfl, _, rfl, ?_, ?_⟩
      · split <;> omega
      · intro k hk hn
        have e : ((N : Int) - (lo : Int) * (m : Int)).fdiv (g : Int) = (k : Int) := by
          rw [lm, show (N : Int) - ((lo * m : Nat) : Int) = (g : Int) * (k : Int) by rw [← Int.natCast_mul]; omega, Int.mul_fdiv_cancel_left _ (by omega)]
        rw [e, tm]
        split <;> omega
    rintro σ' H6 ⟨rfl, st, rfl, st2, hk⟩
    have r1 : ∀ p ∈ restN lo g r, 1 ≤ p.1 ∧ p.1 ≤ 1000 ∧ 0 ≤ p.2 := fun p hp => by
      have t1 := top p (List.mem_cons_of_mem _ hp)
      unfold restN at hp
      obtain ⟨q0, hq0, rfl⟩ := List.mem_map.mp hp
      have h1 := upL q0 hq0
      have h2 := (hS q0 (List.mem_cons_of_mem _ hq0)).2
      have h3 : 1 ≤ (q0.1 - lo) / g := by
        have := Nat.le_of_dvd (by omega) (gd q0 hq0)
        exact (Nat.le_div_iff_mul_le gp).mpr (by omega)
      exact ⟨h3, Nat.le_trans t1 (by omega), by show 0 ≤ q0.2; omega⟩
    have ws2 : wsum ((0, f) :: restN lo g r) = wsum ((lo, f) :: r) := by
      unfold wsum restN
      rw [List.map_cons, List.map_cons, List.map_map]
      rfl
    refine ⟨_, rfl, _, rfl, _, rfl, _, rfl, f, st, D1, ws, restN lo g r, m, rfl, hws, dws, r1, fpos, by rw [ws2]; exact hw, hm, by omega, fun H7 p7 sm7 hp7 e7 => ?_⟩
    generalize eq : pw ((0, f) :: restN lo g r) m = qf at e7
    have qnn : ∀ n, 0 ≤ qf n := fun n => by
      rw [← eq]
      exact pw_nn (fun p hp => by
        rcases List.mem_cons.mp hp with rfl | hp
        · show 0 ≤ f; omega
        · exact (r1 p hp).2.2) m n
    have val : pw ((lo, f) :: r) m = spreadF (lo * m) g qf := by
      rw [← spr, pw_spread gp, eq]
    refine ⟨_, rfl, p7, _, rfl, SqL.of e7, fun D2 hD2 => ?_⟩
    refine lc_it walk_enum (fun i H' => Same H7 H' ∧ ∃ (ys : List V) (res : List (Int × Int)), H' D2 = some (.lst ys) ∧ DxAll K NoP H' ys (res.map fun q => prD q.1 q.2) ∧ res.length ≤ i ∧
      (∀ q ∈ res, ∃ k : Nat, q = (((lo * m + g * k : Nat) : Int), qf k)) ∧ (∀ k : Nat, k < i → 0 < qf k → (((lo * m + g * k : Nat) : Int), qf k) ∈ res))
      ⟨same_new hD2, [], [], upd_same, .nil, Nat.zero_le _, fun q hq => (nomatch hq), fun k hk => absurd hk (Nat.not_lt_zero _)⟩ (fun i H' _ z => SqL.of (z.1 _ _ e7)) ?_ ?_
    · rintro i x H8 H9 hi ⟨sm8, ys, res, hys, dys, lr, ra, rb⟩ ⟨t, x1, y9, rfl, ht, rfl, hx1, hy1⟩
      obtain rfl : x1 = .int (i : Nat) := (Option.some.inj hx1).symm
      obtain ⟨n0, hn0, rfl⟩ := int_at hy1
      rw [List.length_map, rowsI_len] at hi
      rw [rowsI_at hi] at hn0
      obtain rfl : qf i = n0 := Option.some.inj hn0
      have sm9 := sm8.trans (same_new (o := .tup [.int (i : Nat), .int (qf i)]) ht)
      have hys9 : (upd H8 t (.tup [.int (i : Nat), .int (qf i)])) D2 = some (.lst ys) := same_new ht _ _ hys
      have dys9 := dxAll_new (o := .tup [.int (i : Nat), .int (qf i)]) ht dys
      refine ⟨t, _, rfl, SqT.of upd_same, rfl, _, _, rfl, _, _, rfl, rfl, ?_⟩
      refine ⟨rfl, ⟨_, rfl, _, _, rfl, rfl, _, rfl, ite2 (fun e2 => ?_) (fun e2 => ?_)⟩⟩
      · have gi : (g : Int) * (i : Int) = ((g * i : Nat) : Int) := (Int.natCast_mul g i).symm
        have es : (lo : Int) * (m : Int) + (g : Int) * (i : Int) = ((lo * m + g * i : Nat) : Int) := by omega
        refine ⟨_, rfl, _, rfl, _, _, rfl, rfl, .inl ⟨by omega, by omega⟩, _, rfl, _, rfl, _, _, rfl, rfl, .inl ⟨by omega, by omega⟩, _, _, rfl, rfl, _, rfl, (by show 2 ≤ sizeLine; decide), fun p8 hp8 => ?_⟩
        dsimp only; rw [es]
        refine ⟨ys, same_new hp8 _ _ hys9, ?_, same_put (sm9.trans (same_new hp8)) hD2, ys ++ [.ref p8], res ++ [(((lo * m + g * i : Nat) : Int), qf i)], upd_same, ?_, ?_, ?_, ?_⟩
        · have h1 := dxAll_len dys
          rw [List.length_map] at h1
          exact Nat.lt_of_le_of_lt (show ys.length ≤ 5000 by omega) (by decide)
        · rw [List.map_append]
          have d1 : DxAll K NoP (upd (upd H8 t (.tup [.int (i : Nat), .int (qf i)])) p8 (.tup [.int ((lo * m + g * i : Nat) : Int), .int (qf i)])) (ys ++ [.ref p8]) _ := dxAll_app (dxAll_new hp8 dys9) (.cons (prD_dx (SqT.of upd_same)) .nil)
          refine dxAll_keep (fun a' zs e => ?_) (fun a' o z e => z.elim) d1
          rcases e with (e | ⟨ob, e⟩) | e
          · exact .inl (.inl (by rw [upd_ne (ne_of e (same_new hp8 _ _ hys9) (by intro z; cases z))]; exact e))
          · exact .inl (.inr ⟨ob, by rw [upd_ne (ne_of e (same_new hp8 _ _ hys9) (by intro z; cases z))]; exact e⟩)
          · exact .inr e
        · rw [List.length_append, List.length_singleton]
          omega
        · intro q0 hq0
          rcases List.mem_append.mp hq0 with z | z
          · exact ra q0 z
          · exact ⟨i, List.mem_singleton.mp z⟩
        · intro k hk2 hp
          by_cases ek : k = i
          · subst ek
            exact List.mem_append_right _ (List.mem_singleton.mpr rfl)
          · exact List.mem_append_left _ (rb k (by omega) hp)
      · refine ⟨sm9, ys, res, hys9, dys9, by omega, ra, fun k hk2 hp => ?_⟩
        by_cases ek : k = i
        · subst ek
          exact absurd (decide_eq_true hp) e2
        · exact rb k (by omega) hp
    · rintro H8 ⟨sm8, ys, res, hys, dys, lr, ra, rb⟩
      rw [List.length_map, rowsI_len] at rb
      refine q H8 D2 ys res ((sm.trans sm7).trans sm8) hys dys (fun q0 hq0 => ?_) (fun hne => ?_)
      · obtain ⟨k, rfl⟩ := ra q0 hq0
        refine ⟨lo * m + g * k, rfl, ?_⟩
        rw [val]
        unfold spreadF
        rw [if_pos ⟨by omega, ⟨k, by omega⟩⟩, Nat.add_sub_cancel_left, Nat.mul_div_cancel_left _ gp]
      · rw [val] at hne
        unfold spreadF at hne
        by_cases hc : lo * m ≤ N ∧ g ∣ (N - lo * m)
        · rw [if_pos hc] at hne
          obtain ⟨h1, k, h2⟩ := hc
          rw [h2, Nat.mul_div_cancel_left _ gp] at hne
          have hN2 : lo * m + g * k = N := by omega
          have kt : k ≤ tp * m := by
            refine Nat.le_of_not_lt fun z => hne ?_
            rw [← eq]
            exact pw_top top m k z
          have := hk k kt hN2
          have hp := qnn k
          exact ⟨_, rb k (by omega) (by omega), by rw [hN2]⟩
        · rw [if_neg hc] at hne
          exact absurd rfl hne
end
end Ev

set_option exponentiation.threshold 20000
namespace Ev
open PySem PySem.Spec PyProof.Rows L2
theorem gc_zero (b : Int) : gc 0 b = b.natAbs := by
  unfold gc
  exact Nat.gcd_zero_left _
theorem fA_zero (b : Int) : fA 0 b = 0 := by
  unfold fA
  exact Int.zero_fdiv _
theorem fB_zero {b : Int} (h : 0 < b) : fB 0 b = 1 := by
  have d : dv 0 b = b := by
    unfold dv
    rw [if_pos h, gc_zero]
    omega
  unfold fB
  rw [d]
  exact Int.fdiv_self (by omega)
theorem fA_one : fA 1 1 = 1 := by decide
theorem fB_one : fB 1 1 = 1 := by decide
theorem comb_small {a b : Int} (h0 : 0 ≤ b) (h : b ≤ a) (ha : a ≤ 400) : (PySem.W.mcComb a b).natAbs < 2 ^ 25700 := by
  have hn := PySem.W.mc_fp_abs (n := a) (by omega) (by omega) (min b (a - b)).toNat (by omega)
  have h1 := PySem.W.mc_fp_pos (n := a) (min b (a - b)).toNat (by omega)
  have h2 := PySem.W.mc_fp_pos (n := min b (a - b)) (min b (a - b)).toNat (by omega)
  have hq : PySem.W.mcComb a b = Builtin.Math.fallingProduct a (min b (a - b)).toNat / Builtin.Math.fallingProduct (min b (a - b)) (min b (a - b)).toNat := PySem.W.mcComb_at h0 h rfl
  have hlo : 0 ≤ PySem.W.mcComb a b := by
    rw [hq]
    exact Int.ediv_nonneg (by omega) (by omega)
  have hle : PySem.W.mcComb a b ≤ Builtin.Math.fallingProduct a (min b (a - b)).toNat := by
    rw [hq]
    exact Int.ediv_le_self _ (by omega)
  have hab : (PySem.W.mcComb a b).natAbs ≤ 2 ^ (64 * (min b (a - b)).toNat) := by omega
  exact Nat.lt_of_le_of_lt hab (Nat.pow_lt_pow_right (by decide) (by omega))
/-- the weight with which so many tills come to so many misses -/
def missN (x y : Int) (m N : Nat) : Int := if m = 0 then (if N = 0 then 1 else 0) else PySem.W.mcComb ((m : Int) - 1 + N) N * x ^ m * (y - x) ^ N
def tillE (x y : Int) : PyData := .tuple [.str "till", prD x y]
def dieE (l : List (Int × Int × Int)) : PyData := .tuple [.str "die", .tuple (l.map sdD)]
def natW (l : List (Int × Int × Int)) : List (Nat × Int) := (wts l).map fun q => (q.1.toNat, q.2)
theorem natP_natW {l : List (Int × Int × Int)} (h : ∀ q ∈ l, 0 ≤ q.1) : natP (natW l) = wts l := by
  unfold natP natW wts
  rw [List.map_map, List.map_map]
  refine List.map_congr_left fun q hq => ?_
  have := h q hq
  show (((q.1.toNat : Nat) : Int), _) = (q.1, _)
  rw [Int.toNat_of_nonneg this]
/-- sides whose shares are above 0, by ascending numbers -/
structure Good (l : List (Int × Int × Int)) : Prop where
  ne : l ≠ []
  up : l.Pairwise fun p q => p.1 < q.1
  num : ∀ q ∈ l, 0 ≤ q.1 ∧ q.1 ≤ 9
  pos : ∀ q ∈ l, 1 ≤ q.2.1 ∧ 1 ≤ q.2.2
  big : ∀ q ∈ l, q.2.1.natAbs < 2 ^ 8900
  whole : wholeN l < 2 ^ 1400
  sum : (wsum (natW l)).natAbs < 2 ^ 1400
  len : l.length ≤ 1000
theorem Good.pos9 {l : List (Int × Int × Int)} (G : Good l) : ∀ p ∈ natW l, p.1 ≤ 9 ∧ 1 ≤ p.2 := by
  intro p hp
  unfold natW wts at hp
  rw [List.map_map] at hp
  obtain ⟨q, hq, rfl⟩ := List.mem_map.mp hp
  have h1 := G.num q hq
  have h2 := G.pos q hq
  have wp := whole_pos (l := l) fun x hx => (G.pos x hx).2
  have h3 := Nat.le_of_dvd wp (whole_mem hq)
  refine ⟨by show q.1.toNat ≤ 9; omega, ?_⟩
  show 1 ≤ q.2.1 * ((wholeN l : Int) / q.2.2)
  have h4 : 1 ≤ (wholeN l : Int) / q.2.2 := by
    refine (Int.le_ediv_iff_mul_le (by omega)).mpr ?_
    omega
  have := Int.mul_pos (a := q.2.1) (b := (wholeN l : Int) / q.2.2) (by omega) (by omega)
  omega
theorem Good.asc {l : List (Int × Int × Int)} (G : Good l) : (natW l).Pairwise fun p q => p.1 < q.1 := by
  unfold natW wts
  rw [List.map_map, List.pairwise_map]
  refine G.up.imp_of_mem fun {a b} ha hb h => ?_
  have h1 := G.num a ha
  have h2 := G.num b hb
  show a.1.toNat < b.1.toNat
  omega
section
variable {P : Program} {w : World} {K : PySem.W.Frag} {mg : Str → Option Value} {base : Heap} {A : Nat → Addr} {D : Nat → FuncData}
def sp_misses_share (K : PySem.W.Frag) : Sp := fun vs H Q _ => ∃ (t : Addr) (x y : Int) (m N : Nat), vs = [.ref t, .int (m : Int), .int (N : Int)] ∧ SqT K H t [.int x, .int y] ∧ 0 < x ∧ x < y ∧ y.natAbs < 2 ^ 40 ∧ m + N ≤ 200 ∧
  ∀ (H' : Hp) (p : Addr), Same H H' → H' p = some (.tup [.int (fA (missN x y m N) (y ^ (m + N))), .int (fB (missN x y m N) (y ^ (m + N)))]) → Q (.ref p) H'
theorem ypos {y : Int} (h : 0 < y) (n : Nat) : 0 < y ^ n := Int.pow_pos h
theorem Txt.ok_misses_share (T : Txt K mg A D) : FnOk P w K mg base CX0 2 (A 5) (D 5) ["share", "many", "number"] (sp_misses_share K) := by
  refine T.F_misses_share.ok sc_misses_share (fun vs H Q E h => ?_) (fun cdv Ar outer s H vs Q E hr h => ?_)
  · obtain ⟨t, x, y, m, N, rfl, _⟩ := h
    rfl
  · obtain ⟨t, x, y, m, N, rfl, hT, hx, hxy, hy, hmN, q⟩ := h
    have yp := ypos (y := y) (by omega)
    refine ⟨_, (pss_cons (ps_if (pt_cmpR op_eq (pv 1) pe_int (nomark _)) (pss_one (ps_ret (pe_ifExp (pt_cmpR op_eq (pv 2) pe_int (nomark _)) (pe_tup (pa_cons pe_int (pa_cons pe_int pa_nil))) (pe_tup (pa_cons pe_int (pa_cons pe_int pa_nil)))))) pss_nil)
    (pss_cons (ps_asg (pv 0) (pg_tup rfl (pgs_cons (pg_name (i := 3) sc_misses_share.nd rfl (Or.inl rfl)) (pgs_cons (pg_name (i := 4) sc_misses_share.nd rfl (Or.inl rfl)) pgs_nil))))
    (pss_cons (ps_set (i := 5) sc_misses_share.nd rfl (Or.inl rfl) (pe_callBfun cr_comb (by rfl) T.z_comb (pa_cons (pe_op op_add (pe_op op_sub (pv 1) pe_int) (pv 2)) (pa_cons (pv 2) pa_nil))))
    (pss_one (ps_ret (pe_call (T.ok_lowest) hr (by rfl) T.g_lowest T.k_lowest T.b_lowest .nil pass0 (pa_cons (pe_op op_mulW (pe_op op_mulW (pv 5) (pe_call (T.ok_power) hr (by rfl) T.g_power T.k_power T.b_power .nil pass0 (pa_cons (pv 3) (pa_cons (pv 1) pa_nil)))) (pe_call (T.ok_power) hr (by rfl) T.g_power T.k_power T.b_power .nil pass0 (pa_cons (pe_op op_sub (pv 4) (pv 3)) (pa_cons (pv 2) pa_nil)))) (pa_cons (pe_call (T.ok_power) hr (by rfl) T.g_power T.k_power T.b_power .nil pass0 (pa_cons (pv 4) (pa_cons (pe_op op_add (pv 1) (pv 2)) pa_nil))) pa_nil)))))))), ?_⟩
    refine ⟨_, rfl, rfl, _, rfl, ite2 (fun e => ?_) (fun e => ?_)⟩
    · have hm : m = 0 := by
        have : (m : Int) = 0 := V.int.inj (of_decide_eq_true e)
        omega
      subst hm
      refine ⟨_, rfl, rfl, _, rfl, ite2 (fun e => ?_) (fun e => ?_)⟩
      · have hN : N = 0 := by
          have : (N : Int) = 0 := V.int.inj (of_decide_eq_true e)
          omega
        subst hN
        refine ⟨(by show 2 ≤ sizeLine; decide), fun p hp => q _ p (same_new hp) ?_⟩
        rw [upd_same]
        have e1 : missN x y 0 0 = 1 := rfl
        have e2 : y ^ (0 + 0) = 1 := Int.pow_zero _
        rw [e1, e2, fA_one, fB_one]
      · have hN : N ≠ 0 := fun z => vneF e (by rw [z]; rfl)
        refine ⟨(by show 2 ≤ sizeLine; decide), fun p hp => q _ p (same_new hp) ?_⟩
        rw [upd_same]
        have e1 : missN x y 0 N = 0 := by
          unfold missN
          rw [if_pos rfl, if_neg hN]
        rw [e1, fA_zero, fB_zero (yp _)]
    · have hm : m ≠ 0 := fun z => vneF e (by rw [z]; rfl)
      have val : missN x y m N = PySem.W.mcComb ((m : Int) - 1 + N) N * x ^ m * (y - x) ^ N := if_neg hm
      have cs := comb_small (a := (m : Int) - 1 + N) (b := N) (by omega) (by omega) (by omega)
      have px := pow_lt (b := x) (s := 40) (by omega) m
      have py := pow_lt (b := y - x) (s := 40) (by omega) N
      have pl := pow_lt hy (m + N)
      refine ⟨_, rfl, t, _, rfl, hT, rfl, _, _, rfl, _, _, rfl, rfl, ?_⟩
      refine ⟨_, rfl, _, _, rfl, rfl, _, rfl, _, _, rfl, rfl, _, rfl, _, _, rfl, by omega, by omega, by omega, by omega, ?_⟩
      refine ⟨_, rfl, _, rfl, _, rfl, x, m, 40, rfl, by omega, by omega, _, _, rfl, rfl, ?_, _, rfl, _, rfl, _, _, rfl, rfl, _, rfl, y - x, N, 40, rfl, by omega, by omega, _, _, rfl, rfl, ?_, _, rfl, _, rfl, _, rfl, _, _, rfl, rfl, y, m + N, 40, rfl, hy, by omega, _, _, rfl, ?_, ?_, fun H' p sm hp e' => q H' p sm ?_⟩
      · exact wide_mul cs px (by decide) (Nat.succ_pos _) (by omega)
      · exact wide_mul (wide_lt cs px) py (by omega) (Nat.succ_pos _) (by omega)
      · have := yp (m + N)
        omega
      · have h1 : gc (PySem.W.mcComb ((m : Int) - 1 + N) N * x ^ m * (y - x) ^ N) (y ^ (m + N)) ≤ (y ^ (m + N)).natAbs := Nat.gcd_le_right _ (by have := yp (m + N); omega)
        exact Nat.lt_of_le_of_lt h1 (Nat.lt_trans pl (Nat.pow_lt_pow_right (by decide) (by omega)))
      · rw [val]
        exact e'
def sp_sum_share (K : PySem.W.Frag) : Sp := fun vs H Q _ => ∃ (Z : Addr → Prop) (v : V) (m N : Nat), vs = [v, .int (m : Int), .int (N : Int)] ∧
  ((∃ x y : Int, Dx K Z H v (tillE x y) ∧ 0 < x ∧ x < y ∧ y.natAbs < 2 ^ 40 ∧ m + N ≤ 200 ∧
      ∀ (H' : Hp) (p : Addr), Same H H' → H' p = some (.tup [.int (fA (missN x y m N) (y ^ (m + N))), .int (fB (missN x y m N) (y ^ (m + N)))]) → Q (.ref p) H') ∨
    ∃ l : List (Int × Int × Int), Dx K Z H v (dieE l) ∧ Good l ∧ m ≤ 200 ∧ N ≤ 9000 ∧ gc (pw (natW l) m N) ((wholeN l : Int) ^ m) < 2 ^ 8990 ∧
      ∀ (H' : Hp) (p : Addr), Same H H' → H' p = some (.tup [.int (fA (pw (natW l) m N) ((wholeN l : Int) ^ m)), .int (fB (pw (natW l) m N) ((wholeN l : Int) ^ m))]) → Q (.ref p) H')
theorem Txt.ok_sum_share (T : Txt K mg A D) : FnOk P w K mg base CX0 4 (A 6) (D 6) ["die", "many", "number"] (sp_sum_share K) := by
  refine T.F_sum_share.ok sc_sum_share (fun vs H Q E h => ?_) (fun cdv Ar outer s H vs Q E hr h => ?_)
  · obtain ⟨Z, v, m, N, rfl, _⟩ := h
    rfl
  · obtain ⟨Z, v, m, N, rfl, h⟩ := h
    refine ⟨_, (pss_cons (ps_if (pt_cmpR op_lt (pv 2) pe_int (nomark _)) (pss_one (ps_ret (pe_tup (pa_cons pe_int (pa_cons pe_int pa_nil))))) pss_nil)
    (pss_cons (ps_asg (pv 0) (pg_tup rfl (pgs_cons (pg_name (i := 3) sc_sum_share.nd rfl (Or.inl rfl)) (pgs_cons (pg_name (i := 4) sc_sum_share.nd rfl (Or.inl rfl)) pgs_nil))))
    (pss_cons (ps_if (pt_cmpR op_eq (pv 3) pe_str (nomark _)) (pss_one (ps_ret (pe_call (T.ok_misses_share) (hr.mono (by decide)) (by rfl) T.g_misses_share T.k_misses_share T.b_misses_share .nil pass0 (pa_cons (pv 4) (pa_cons (pv 1) (pa_cons (pv 2) pa_nil)))))) pss_nil)
    (pss_cons (ps_asg (pe_call (T.ok_side_weights) (hr.mono (by decide)) (by rfl) T.g_side_weights T.k_side_weights T.b_side_weights .nil pass0 (pa_cons (pv 4) pa_nil)) (pg_tup rfl (pgs_cons (pg_name (i := 5) sc_sum_share.nd rfl (Or.inl rfl)) (pgs_cons (pg_name (i := 6) sc_sum_share.nd rfl (Or.inl rfl)) pgs_nil))))
    (pss_cons (ps_for PassesOwn.never rfl (pi_list (pe_call (T.ok_throw_weights) hr (by rfl) T.g_throw_weights T.k_throw_weights T.b_throw_weights .nil pass0 (pa_cons (pv 5) (pa_cons (pv 1) (pa_cons (pv 2) pa_nil))))) (pg_tup rfl (pgs_cons (pg_name (i := 7) sc_sum_share.nd rfl (Or.inl rfl)) (pgs_cons (pg_name (i := 8) sc_sum_share.nd rfl (Or.inl rfl)) pgs_nil))) (pss_one (ps_if (pt_cmpR op_eq (pv 7) (pv 2) (nomark _)) (pss_one (ps_ret (pe_call (T.ok_lowest) (hr.mono (by decide)) (by rfl) T.g_lowest T.k_lowest T.b_lowest .nil pass0 (pa_cons (pv 8) (pa_cons (pe_call (T.ok_power) (hr.mono (by decide)) (by rfl) T.g_power T.k_power T.b_power .nil pass0 (pa_cons (pv 6) (pa_cons (pv 1) pa_nil))) pa_nil))))) pss_nil)))
    (pss_one (ps_ret (pe_tup (pa_cons pe_int (pa_cons pe_int pa_nil)))))))))), ?_⟩
    refine ⟨_, rfl, _, _, rfl, rfl, _, rfl, ite2 (fun e => absurd (of_decide_eq_true e) (by omega)) (fun _ => ?_)⟩
    rcases h with ⟨x, y, hd, hx, hxy, hy, hmN, q⟩ | ⟨l, hd, G, hm, hN, hg, q⟩
    · obtain ⟨a, u, rfl, hs, hu⟩ := dx_word hd
      obtain ⟨t, rfl, ht⟩ := dx_prD hu
      refine ⟨_, rfl, a, _, rfl, hs, rfl, _, _, rfl, _, _, rfl, rfl, ?_⟩
      refine ⟨_, rfl, rfl, _, rfl, ite2 (fun _ => ?_) (fun e => absurd (decide_eq_true rfl) e)⟩
      exact ⟨_, rfl, _, rfl, _, rfl, t, x, y, m, N, rfl, ht, hx, hxy, hy, hmN, q⟩
    · obtain ⟨a, u, rfl, hs, hu⟩ := dx_word hd
      refine ⟨_, rfl, a, _, rfl, hs, rfl, _, _, rfl, _, _, rfl, rfl, ?_⟩
      refine ⟨_, rfl, rfl, _, rfl, ite2 (fun e => absurd (V.str.inj (of_decide_eq_true e)) (by decide)) (fun _ => ?_)⟩
      have big : (2 : Nat) ^ 1400 ≤ 2 ^ 8900 := Nat.pow_le_pow_right (by decide) (by decide)
      have wb := G.whole
      have wp := whole_pos (l := l) fun x hx => (G.pos x hx).2
      have asc := G.asc
      have pos9 := G.pos9
      have sum9 := G.sum
      have np := natP_natW (l := l) fun q hq => (G.num q hq).1
      refine ⟨_, rfl, Z, u, l, rfl, hu, fun q hq => ⟨(G.pos q hq).2, G.big q hq⟩, by omega, G.len, fun H1 p W ws sm hp hW dW => ⟨p, _, rfl, SqT.of hp, rfl, _, _, rfl, _, _, rfl, rfl, ?_⟩⟩
      obtain ⟨lo, f, r, er⟩ : ∃ lo f r, natW l = (lo, f) :: r := by
        cases e : natW l with
        | nil =>
          have : (natW l).length = l.length := by unfold natW wts; rw [List.length_map, List.length_map]
          rw [e] at this
          exact absurd (List.eq_nil_of_length_eq_zero this.symm) G.ne
        | cons p r => exact ⟨p.1, p.2, r, rfl⟩
      rw [← np, er] at dW
      rw [er] at asc pos9 sum9
      refine ⟨_, rfl, _, rfl, _, rfl, W, ws, lo, f, r, m, N, rfl, hW, dW, asc, pos9, sum9, hm, hN, fun H2 p2 ys res sm2 h2 d2 ra rb => ⟨p2, rfl, ⟨_, SqL.of h2⟩, ?_⟩⟩
      rw [← er] at ra rb
      refine for_it walk_list (fun i σ H' => H' = H2 ∧ (∃ y1 y2 : Option V, σ = [some (.ref a), some (.int (m : Int)), some (.int (N : Int)), some (.str "die"), some u, some (.ref W), some (.int (wholeN l : Int)), y1, y2]) ∧ ∀ j q, j < i → res[j]? = some q → q.1 ≠ N) ⟨rfl, ⟨none, none, rfl⟩, fun j q h => absurd h (Nat.not_lt_zero _)⟩ (fun i σ H' _ z => by rw [z.1]; exact SqL.of h2) ?_ ?_
      · rintro i x σ H3 H4 hi ⟨rfl, ⟨y1, y2, rfl⟩, hj⟩ ⟨rfl, hx⟩
        obtain ⟨n, c, t, h1, rfl, ht⟩ := prs_at d2 hx
        obtain ⟨k, rfl, hc⟩ := ra _ (List.mem_of_getElem? h1)
        refine ⟨t, _, rfl, ht, rfl, _, _, rfl, _, _, rfl, rfl, ?_⟩
        refine ⟨_, rfl, _, rfl, rfl, _, rfl, ite2 (fun e => ?_) (fun e => ?_)⟩
        · have ek : k = N := by
            have : (k : Int) = N := V.int.inj (of_decide_eq_true e)
            omega
          subst ek
          subst hc
          refine ⟨_, rfl, _, rfl, _, rfl, (wholeN l : Int), m, 1400, rfl, by omega, by omega, _, _, rfl, ?_, hg, fun H' p5 sm5 _ e5 => q H' p5 ((sm.trans sm2).trans sm5) e5⟩
          have := ypos (y := (wholeN l : Int)) (by omega) m
          omega
        · refine ⟨rfl, ⟨_, _, rfl⟩, fun j q' hj' hq' => ?_⟩
          by_cases ej : j = i
          · subst ej
            rw [h1] at hq'
            cases hq'
            exact fun z => vneF e (congrArg V.int z)
          · exact hj j q' (by omega) hq'
      · rintro σ H3 ⟨rfl, ⟨y1, y2, rfl⟩, hj⟩
        have lr : ys.length = res.length := by rw [dxAll_len d2, List.length_map]
        have z : pw (natW l) m N = 0 := by
          refine Decidable.byContradiction fun hne => ?_
          obtain ⟨q', hq', e'⟩ := rb hne
          obtain ⟨j, hj1, hj2⟩ := List.getElem_of_mem hq'
          exact hj j q' (by omega) (by rw [List.getElem?_eq_getElem hj1, hj2]) e'
        refine ⟨(by show 2 ≤ sizeLine; decide), fun p9 hp9 => q _ p9 ((sm.trans sm2).trans (same_new hp9)) ?_⟩
        rw [upd_same, z, fA_zero, fB_zero (ypos (by omega) m)]
end
end Ev

set_option exponentiation.threshold 20000
namespace Ev
open PySem PySem.Spec PyProof.Rows L2
/-! ### dice of both kinds, by what many throws of them come to -/
inductive DK
  | till (x y : Int)
  | die (l : List (Int × Int)) (s : Int)
/-- the sides of a drawn die, as triples -/
def trip (l : List (Int × Int)) (s : Int) : List (Int × Int × Int) := l.map fun q => (q.1, fA q.2 s, fB q.2 s)
def DK.data : DK → PyData
  | .till x y => tillD x y
  | .die l s => diceD l s
def DK.ok : DK → Prop
  | .till x y => Shr x y ∧ y ≤ 12
  | .die l s => Sides l s
/-- what many throws come to, over a whole -/
def DK.c : DK → Nat → Nat → Int
  | .till x y, m, n => Cc m n * (x ^ m * (y - x) ^ n)
  | .die l s, m, n => pw (natW (trip l s)) m n
def DK.b : DK → Nat → Nat → Int
  | .till _ y, m, n => y ^ (m + n)
  | .die l s, m, _ => (wholeN (trip l s) : Int) ^ m
theorem isdie_dk {d : PyData} (h : IsDie d) : ∃ k : DK, d = k.data ∧ k.ok := by
  cases h with
  | @till x y h b => exact ⟨.till x y, rfl, h, b⟩
  | @die l s h => exact ⟨.die l s, rfl, h⟩
theorem dk_isdie {k : DK} (h : k.ok) : IsDie k.data := by
  cases k with
  | till x y => exact .till h.1 h.2
  | die l s => exact .die h
theorem dice_trip (l : List (Int × Int)) (s : Int) : diceD l s = dieE (trip l s) := by
  unfold diceD dieE trip sidesD
  rw [List.map_map]
  rfl
structure SumB (l : List (Int × Int)) (s : Int) : Prop where
  pos : 0 < s
  le : s ≤ 24
theorem Sides.bound {l : List (Int × Int)} {s : Int} (h : Sides l s) : 0 < s ∧ s ≤ 24 := by
  have hs := sum_bounds (l := l.map (·.2)) fun x hx => by
    obtain ⟨p, hp, rfl⟩ := List.mem_map.mp hx
    exact h.part p hp
  rw [h.sum, List.length_map] at hs
  have := h.len
  omega
theorem fB_dvd {p s : Int} (h : s ≠ 0) : fB p s ∣ s := ⟨dv p s, by
  have := fB_mul (a := p) h
  rw [Int.mul_comm] at this
  exact this⟩
theorem whole_dvd : ∀ (l : List (Int × Int × Int)) (w : Nat) (s : Nat), w ∣ s → (∀ q ∈ l, q.2.2.natAbs ∣ s) → l.foldl (fun w q => Nat.lcm w q.2.2.natAbs) w ∣ s
  | [], w, s, h, _ => h
  | q :: l, w, s, h, hl => whole_dvd l _ s (Nat.lcm_dvd h (hl q (List.mem_cons_self ..))) fun x hx => hl x (List.mem_cons_of_mem _ hx)
theorem trip_mem {l : List (Int × Int)} {s : Int} {q : Int × Int × Int} (h : q ∈ trip l s) : ∃ p ∈ l, q = (p.1, fA p.2 s, fB p.2 s) := by
  unfold trip at h
  obtain ⟨p, hp, rfl⟩ := List.mem_map.mp h
  exact ⟨p, hp, rfl⟩
theorem trip_low {l : List (Int × Int)} {s : Int} (h : Sides l s) : ∀ q ∈ trip l s, 0 ≤ q.1 ∧ q.1 ≤ 9 ∧ 1 ≤ q.2.1 ∧ q.2.1 ≤ 4 ∧ 1 ≤ q.2.2 ∧ q.2.2 ≤ 24 ∧ Low q.2.1 q.2.2 ∧ q.2.2 ∣ s := by
  intro q hq
  obtain ⟨p, hp, rfl⟩ := trip_mem hq
  obtain ⟨b1, b2⟩ := h.bound
  have h1 := h.num p hp
  have h2 := h.part p hp
  have s0 : s ≠ 0 := by omega
  have lo := low_f (a := p.2) s0
  have a1 := fA_pos (a := p.2) (by omega) b1
  have a2 := fA_le (a := p.2) s0
  have a3 := fB_le (a := p.2) s0
  have a4 := lo.1
  exact ⟨h1.1, h1.2, by show 1 ≤ fA p.2 s; omega, by show fA p.2 s ≤ 4; omega, by show 1 ≤ fB p.2 s; omega, by show fB p.2 s ≤ 24; omega, lo, fB_dvd s0⟩
theorem trip_whole {l : List (Int × Int)} {s : Int} (h : Sides l s) : 0 < wholeN (trip l s) ∧ wholeN (trip l s) ≤ 24 := by
  obtain ⟨b1, b2⟩ := h.bound
  have tl := trip_low h
  refine ⟨whole_pos fun q hq => (tl q hq).2.2.2.2.1, ?_⟩
  have d : wholeN (trip l s) ∣ s.natAbs := whole_dvd _ 1 _ ⟨_, (Nat.one_mul _).symm⟩ fun q hq => Int.natAbs_dvd_natAbs.mpr (tl q hq).2.2.2.2.2.2.2
  have := Nat.le_of_dvd (by omega) d
  omega
theorem natW_bound {L : List (Int × Int × Int)} {W : Nat} (hW : wholeN L = W) (w24 : W ≤ 24) (h : ∀ q ∈ L, 1 ≤ q.2.1 ∧ q.2.1 ≤ 4 ∧ 1 ≤ q.2.2) : ∀ p ∈ natW L, 0 ≤ p.2 ∧ p.2 ≤ 96 := by
  intro p hp
  unfold natW wts at hp
  rw [List.map_map] at hp
  obtain ⟨q, hq, rfl⟩ := List.mem_map.mp hp
  obtain ⟨h1, h2, h3⟩ := h q hq
  show 0 ≤ q.2.1 * ((wholeN L : Int) / q.2.2) ∧ q.2.1 * ((wholeN L : Int) / q.2.2) ≤ 96
  rw [hW]
  have d1 : 0 ≤ (W : Int) / q.2.2 := Int.ediv_nonneg (by omega) (by omega)
  have d2 : (W : Int) / q.2.2 ≤ W := Int.ediv_le_self _ (by omega)
  refine ⟨Int.mul_nonneg (by omega) d1, ?_⟩
  have : q.2.1 * ((W : Int) / q.2.2) ≤ 4 * 24 := Int.mul_le_mul (by omega) (by omega) d1 (by decide)
  omega
theorem wsum_le : ∀ (l : List (Nat × Int)), (∀ p ∈ l, p.2 ≤ 96) → wsum l ≤ 96 * (l.length : Int)
  | [], _ => by decide
  | p :: l, h => by
    have h1 := h p (List.mem_cons_self ..)
    have h2 := wsum_le l fun x hx => h x (List.mem_cons_of_mem _ hx)
    have e : wsum (p :: l) = p.2 + wsum l := by
      unfold wsum
      rw [List.map_cons, List.sum_cons]
    rw [e, List.length_cons]
    omega
theorem trip_good {l : List (Int × Int)} {s : Int} (h : Sides l s) : Good (trip l s) := by
  have tl := trip_low h
  obtain ⟨w1, w2⟩ := trip_whole h
  have big : (2 : Nat) ^ 20 ≤ 2 ^ 1400 := Nat.pow_le_pow_right (by decide) (by decide)
  have big2 : (2 : Nat) ^ 20 ≤ 2 ^ 8900 := Nat.pow_le_pow_right (by decide) (by decide)
  have ln : (trip l s).length = l.length := List.length_map ..
  have ll := h.len
  have nb := natW_bound rfl w2 fun q hq => ⟨(tl q hq).2.2.1, (tl q hq).2.2.2.1, (tl q hq).2.2.2.2.1⟩
  refine ⟨fun e => ?_, ?_, fun q hq => ⟨(tl q hq).1, (tl q hq).2.1⟩, fun q hq => ⟨(tl q hq).2.2.1, (tl q hq).2.2.2.2.1⟩, fun q hq => ?_, by omega, ?_, by omega⟩
  · rw [e, List.length_nil] at ln
    omega
  · have := h.up
    rw [List.pairwise_map] at this
    unfold trip
    rw [List.pairwise_map]
    exact this
  · have := (tl q hq).2.2
    omega
  · have h1 := wsum_nn (l := natW (trip l s)) fun p hp => (nb p hp).1
    have h2 := wsum_le (natW (trip l s)) fun p hp => (nb p hp).2
    have h3 : (natW (trip l s)).length = l.length := by
      unfold natW wts
      rw [List.length_map, List.length_map, ln]
    rw [h3] at h2
    omega
/-- over a whole above 0 -/
theorem DK.bpos {k : DK} (h : k.ok) (m n : Nat) : 0 < k.b m n := by
  cases k with
  | till x y =>
    have := h.1.pos
    have := h.1.lt
    exact ypos (by omega) _
  | die l s => exact ypos (by have := (trip_whole h).1; omega) _
theorem DK.cnn {k : DK} (h : k.ok) (m n : Nat) : 0 ≤ k.c m n := by
  cases k with
  | till x y =>
    have h1 := h.1.pos
    have h2 := h.1.lt
    exact Int.mul_nonneg (Cc_nn m n) (Int.mul_nonneg (Int.pow_nonneg (by omega)) (Int.pow_nonneg (by omega)))
  | die l s => exact pw_nn (fun p hp => by have := (trip_good h).pos9 p hp; omega) m n
/-- so many and some more -/
theorem DK.split {k : DK} (h : k.ok) (a b n : Nat) : opL (tab (k.c a) n) (k.c b) n = k.c (a + b) n ∧ ∀ i, i ≤ n → k.b a i * k.b b (n - i) = k.b (a + b) n := by
  cases k with
  | die l s => exact ⟨pw_split _ a b n, fun i _ => (Int.pow_add _ a b).symm⟩
  | till x y =>
    refine ⟨?_, fun i hi => ?_⟩
    · have e : ∀ m j, j ≤ n → (DK.till x y).c m j * y ^ (m * n - j) = pw (tab (tillP x (y - x) y n) n) m j := fun m j hj => by
        rw [pw_till x (y - x) y n m j hj]
        show Cc m j * (x ^ m * (y - x) ^ j) * y ^ (m * n - j) = _
        rw [Int.mul_assoc]
      have cc : opL (tab (Cc a) n) (Cc b) n = Cc (a + b) n := by
        have key : ∀ m j, j ≤ n → Cc m j = pw (tab one1 n) m j := by
          intro m
          induction m with
          | zero => intro j _; rfl
          | succ m ih =>
            intro j hj
            show opL (tab one1 j) (Cc m) j = opL (tab one1 n) (pw (tab one1 n) m) j
            rw [op_tab_cut _ _ hj]
            exact opL_cong _ _ fun i hi => ih i (by omega)
        have h1 := pw_split (tab one1 n) a b n
        rw [← key (a + b) n (Nat.le_refl _)] at h1
        rw [← h1]
        exact op_tab_congr n fun i h1 _ => by rw [key a i h1, key b (n - i) (by omega)]
      show opL (tab (fun j => Cc a j * (x ^ a * (y - x) ^ j)) n) (fun j => Cc b j * (x ^ b * (y - x) ^ j)) n = Cc (a + b) n * (x ^ (a + b) * (y - x) ^ n)
      rw [← cc, Int.mul_comm, ← opL_mul]
      refine op_tab_congr n fun i h1 _ => ?_
      have e1 : (y - x) ^ i * (y - x) ^ (n - i) = (y - x) ^ n := by rw [← Int.pow_add, Nat.add_sub_cancel' h1]
      rw [Int.pow_add x a b, ← e1]
      grind
    · show y ^ (a + i) * y ^ (b + (n - i)) = y ^ (a + b + n)
      rw [← Int.pow_add]
      congr 1
      omega
/-- numbers that are not too great -/
theorem pow_bound {y : Int} {s n : Nat} (h : y.natAbs < 2 ^ s) (hn : s * n + 1 ≤ 1390) : (y ^ n).natAbs < 2 ^ 1390 := by
  exact Nat.lt_of_lt_of_le (pow_lt h n) (Nat.pow_le_pow_right (by decide) hn)
theorem DK.bsize {k : DK} (h : k.ok) {m n : Nat} (hm : m + n ≤ 200) : (k.b m n).natAbs < 2 ^ 1390 := by
  cases k with
  | till x y =>
    have := h.1.pos
    have := h.1.lt
    have h2 := h.2
    exact pow_bound (s := 4) (by show y.natAbs < 16; omega) (by omega)
  | die l s =>
    have := trip_whole h
    exact pow_bound (s := 5) (by show ((wholeN (trip l s) : Nat) : Int).natAbs < 32; omega) (by omega)
section
variable {P : Program} {w : World} {K : PySem.W.Frag} {mg : Str → Option Value} {base : Heap} {A : Nat → Addr} {D : Nat → FuncData}
/-- sum_share, of a drawn die -/
theorem sum_dk {Z : Addr → Prop} {H : Hp} {Q : VK} {E : XK} {v : V} {k : DK} (ok : k.ok) (hd : Dx K Z H v k.data) (m n : Nat) (hm : m + n ≤ 200)
    (q : ∀ (H' : Hp) (p : Addr), Same H H' → H' p = some (.tup [.int (fA (k.c m n) (k.b m n)), .int (fB (k.c m n) (k.b m n))]) → Q (.ref p) H') :
    sp_sum_share K [v, .int (m : Int), .int (n : Int)] H Q E := by
  refine ⟨Z, v, m, n, rfl, ?_⟩
  cases k with
  | till x y =>
    have h1 := ok.1.pos
    have h2 := ok.1.lt
    have h3 := ok.2
    refine .inl ⟨x, y, hd, h1, h2, by omega, hm, ?_⟩
    have e : missN x y m n = (DK.till x y).c m n := by
      unfold missN
      by_cases h : m = 0
      · subst h
        rw [if_pos rfl]
        show _ = delta n * (x ^ 0 * (y - x) ^ n)
        unfold delta
        by_cases hn : n = 0
        · subst hn
          simp
        · simp [hn]
      · rw [if_neg h, comb_Cc (by omega)]
        show _ = Cc m n * (x ^ m * (y - x) ^ n)
        rw [Int.mul_assoc]
    rw [e]
    exact q
  | die l s =>
    have hd' : Dx K Z H v (dieE (trip l s)) := by
      rw [← dice_trip]
      exact hd
    have bp := DK.bpos ok m n
    have bs := DK.bsize ok hm
    refine .inr ⟨trip l s, hd', trip_good ok, by omega, by omega, ?_, q⟩
    have : gc (pw (natW (trip l s)) m n) ((wholeN (trip l s) : Int) ^ m) ≤ ((wholeN (trip l s) : Int) ^ m).natAbs := Nat.gcd_le_right _ (by
      have : 0 < (wholeN (trip l s) : Int) ^ m := bp
      omega)
    exact Nat.lt_of_le_of_lt this (Nat.lt_trans bs (Nat.pow_lt_pow_right (by decide) (by decide)))
def sp_side_share (K : PySem.W.Frag) : Sp := fun vs H Q _ => ∃ (Z : Addr → Prop) (v : V) (k : DK) (n : Nat), vs = [v, .int (n : Int)] ∧ k.ok ∧ Dx K Z H v k.data ∧ n ≤ 190 ∧
  ∀ (H' : Hp) (p : Addr), Same H H' → H' p = some (.tup [.int (fA (k.c 1 n) (k.b 1 n)), .int (fB (k.c 1 n) (k.b 1 n))]) → Q (.ref p) H'
theorem Txt.ok_side_share (T : Txt K mg A D) : FnOk P w K mg base CX0 5 (A 7) (D 7) ["die", "number"] (sp_side_share K) := by
  refine T.F_side_share.ok sc_side_share (fun vs H Q E h => ?_) (fun cdv Ar outer s H vs Q E hr h => ?_)
  · obtain ⟨Z, v, k, n, rfl, _⟩ := h
    rfl
  · obtain ⟨Z, v, k, n, rfl, ok, hd, hn, q⟩ := h
    refine ⟨_, (pss_one (ps_ret (pe_call (T.ok_sum_share) hr (by rfl) T.g_sum_share T.k_sum_share T.b_sum_share .nil pass0 (pa_cons (pv 0) (pa_cons pe_int (pa_cons (pv 1) pa_nil)))))), ?_⟩
    exact ⟨_, rfl, _, rfl, sum_dk (E := E) ok hd 1 n (by omega) q⟩
end
end Ev

set_option exponentiation.threshold 20000
namespace Ev
open PySem PySem.Spec PyProof.Rows L2
/-! ### the law's parts of a die -/
def DK.P : DK → Nat → Nat → Int
  | .till x y, M => tillP x (y - x) y M
  | .die l s, _ => coef (natW (trip l s))
def DK.W : DK → Nat → Int
  | .till _ y, M => y ^ (M + 1)
  | .die l s, _ => (wholeN (trip l s) : Int)
theorem coef_app (k : Nat) : ∀ (l m : List (Nat × Int)), coef (l ++ m) k = coef l k + coef m k
  | [], m => by simp [coef]
  | (a, c) :: l, m => by
    have ih := coef_app k l m
    show (if k = a then c else 0) + coef (l ++ m) k = (if k = a then c else 0) + coef l k + coef m k
    rw [ih]
    omega
theorem coef_no {n : Nat} : ∀ {l : List (Nat × Int)}, (∀ p ∈ l, p.1 ≠ n) → coef l n = 0
  | [], _ => rfl
  | (a, c) :: l, h => by
    show (if n = a then c else 0) + coef l n = 0
    rw [if_neg (fun z => h (a, c) (List.mem_cons_self ..) z.symm), coef_no fun p hp => h p (List.mem_cons_of_mem _ hp)]
    rfl
theorem rows_set {f g : Nat → Int} {M n : Nat} {w : Int} (h : n ≤ M) (h1 : g n = w) (h2 : ∀ k, k ≤ M → k ≠ n → g k = f k) : ((rowsI f (M + 1)).map V.int).set n (V.int w) = (rowsI g (M + 1)).map V.int := by
  refine List.ext_getElem? fun i => ?_
  rw [List.getElem?_set, List.getElem?_map, List.getElem?_map]
  by_cases hi : i < M + 1
  · rw [rowsI_at hi, rowsI_at hi]
    by_cases e : n = i
    · subst e
      rw [if_pos rfl, if_pos (by rw [List.length_map, rowsI_len]; omega), h1]
      rfl
    · rw [if_neg e, h2 i (by omega) (fun z => e z.symm)]
  · have : ∀ f : Nat → Int, (rowsI f (M + 1))[i]? = none := fun f => List.getElem?_eq_none (by rw [rowsI_len]; omega)
    rw [this, this, if_neg (by omega)]
theorem rows_congr {f g : Nat → Int} {n : Nat} (h : ∀ k, k < n → f k = g k) : rowsI f n = rowsI g n := by
  unfold rowsI
  exact List.map_congr_left fun k hk => h k (List.mem_range.mp hk)
theorem ixN_at {n j : Nat} (hj : j < n) : ixN n (j : Int) = some j := by
  unfold ixN
  rw [if_pos (by omega), if_pos (by omega)]
  simp
theorem noughts (n : Nat) : (List.replicate n ([V.int 0] : List V)).flatten = (rowsI (coef []) n).map V.int := by
  induction n with
  | zero => rfl
  | succ n ih =>
    rw [List.replicate_succ', List.flatten_append, ih, rowsI_succ, List.map_append]
    rfl
section
variable {P : Program} {w : World} {K : PySem.W.Frag} {mg : Str → Option Value} {base : Heap} {A : Nat → Addr} {D : Nat → FuncData}
def sp_parts (K : PySem.W.Frag) : Sp := fun vs H Q _ => ∃ (Z : Addr → Prop) (v : V) (k : DK) (M : Nat), vs = [v, .int (M : Int)] ∧ k.ok ∧ Dx K Z H v k.data ∧ M ≤ 64 ∧
  ∀ (H' : Hp) (p F : Addr), Same H H' → H F = none → H' p = some (.tup [.ref F, .int (k.W M)]) → H' F = some (.lst ((rowsI (k.P M) (M + 1)).map V.int)) → Q (.ref p) H'
theorem Txt.ok_parts (T : Txt K mg A D) : FnOk P w K mg base CX0 2 (A 18) (D 18) ["die", "most"] (sp_parts K) := by
  refine T.F_parts.ok sc_parts (fun vs H Q E h => ?_) (fun cdv Ar outer s H vs Q E hr h => ?_)
  · obtain ⟨Z, v, k, M, rfl, _⟩ := h
    rfl
  · obtain ⟨Z, v, k, M, rfl, ok, hd, hM, q⟩ := h
    refine ⟨_, (pss_cons (ps_if (pt_cmpR op_eq (pe_ix ix_tup (pv 0) pe_int (fun _ _ => rfl)) pe_str (nomark _)) (pss_cons (ps_asg (pe_ix ix_tup (pv 0) pe_int (fun _ _ => rfl)) (pg_tup rfl (pgs_cons (pg_name (i := 2) sc_parts.nd rfl (Or.inl rfl)) (pgs_cons (pg_name (i := 3) sc_parts.nd rfl (Or.inl rfl)) pgs_nil))))
    (pss_cons (ps_par (i := 4) (j := 5) rfl sc_parts.nd rfl rfl (by decide) rfl rfl (pa_cons pe_int (pa_cons (pe_lst pa_nil) pa_nil)) (by rfl))
    (pss_cons (ps_for PassesOwn.never rfl (pi_range1 rfl T.range (pa_cons (pe_op op_add (pv 1) pe_int) pa_nil)) (pg_name (i := 6) sc_parts.nd rfl (Or.inl rfl)) (pss_one (ps_set (i := 4) sc_parts.nd rfl (Or.inl rfl) (pe_op op_mul (pv 4) (pv 3)))))
    (pss_cons (ps_set (i := 7) sc_parts.nd rfl (Or.inl rfl) (pe_op op_fdivN (pv 4) (pv 3)))
    (pss_cons (ps_for PassesOwn.never rfl (pi_range1 rfl T.range (pa_cons (pe_op op_add (pv 1) pe_int) pa_nil)) (pg_name (i := 8) sc_parts.nd rfl (Or.inl rfl)) (pss_cons (ps_expr (pe_bm PySem.F.plainAttrs_list PySem.F.slot_list_append PySem.F.type_list_append mt_append (pv 5) (pa_cons (pe_op op_mul (pv 2) (pv 7)) pa_nil)))
    (pss_one (ps_set (i := 7) sc_parts.nd rfl (Or.inl rfl) (pe_op op_fdivN (pe_op op_mul (pv 7) (pe_op op_sub (pv 3) (pv 2))) (pv 3))))))
    (pss_one (ps_ret (pe_tup (pa_cons (pv 5) (pa_cons (pv 4) pa_nil)))))))))) pss_nil)
    (pss_cons (ps_set (i := 4) sc_parts.nd rfl (Or.inl rfl) pe_int)
    (pss_cons (ps_for PassesOwn.never rfl (pi_tup (pe_ix ix_tup (pv 0) pe_int (fun _ _ => rfl))) (pg_tup rfl (pgs_cons (pg_name (i := 8) sc_parts.nd rfl (Or.inl rfl)) (pgs_cons (pg_name (i := 9) sc_parts.nd rfl (Or.inl rfl)) pgs_nil))) (pss_one (ps_set (i := 4) sc_parts.nd rfl (Or.inl rfl) (pe_op op_mul (pe_op op_fdivN (pv 4) (pe_call (T.ok_gcd) hr (by rfl) T.g_gcd T.k_gcd T.b_gcd .nil pass0 (pa_cons (pv 4) (pa_cons (pe_ix ix_tup (pv 9) pe_int (fun _ _ => rfl)) pa_nil)))) (pe_ix ix_tup (pv 9) pe_int (fun _ _ => rfl))))))
    (pss_cons (ps_set (i := 5) sc_parts.nd rfl (Or.inl rfl) (pe_op op_rep (pe_lst (pa_cons pe_int pa_nil)) (pe_op op_add (pv 1) pe_int)))
    (pss_cons (ps_for PassesOwn.never rfl (pi_tup (pe_ix ix_tup (pv 0) pe_int (fun _ _ => rfl))) (pg_tup rfl (pgs_cons (pg_name (i := 8) sc_parts.nd rfl (Or.inl rfl)) (pgs_cons (pg_name (i := 9) sc_parts.nd rfl (Or.inl rfl)) pgs_nil))) (pss_one (ps_if (pt_cmpR op_le (pv 8) (pv 1) (nomark _)) (pss_one (ps_asg (pe_op op_mul (pe_ix ix_tup (pv 9) pe_int (fun _ _ => rfl)) (pe_op op_fdivN (pv 4) (pe_ix ix_tup (pv 9) pe_int (fun _ _ => rfl)))) (pg_sub (pv 5) (pv 8) set_list))) pss_nil)))
    (pss_one (ps_ret (pe_tup (pa_cons (pv 5) (pa_cons (pv 4) pa_nil)))))))))), ?_⟩
    cases k with
    | till x y =>
      obtain ⟨a, u, rfl, hA, hu⟩ := dx_word hd
      obtain ⟨b, rfl, hB⟩ := dx_prD hu
      have x1 := ok.1.pos
      have x2 := ok.1.lt
      have y2 := ok.2
      have hdiv : ∀ c : Int, (y * c).fdiv y = c := fun c => Int.mul_fdiv_cancel_left _ (by omega)
      refine ⟨_, rfl, a, _, _, _, rfl, rfl, hA, ix0, rfl, _, rfl, ite2 (fun _ => ?_) (fun e => absurd (decide_eq_true rfl) e)⟩
      refine ⟨_, rfl, a, _, _, _, rfl, rfl, hA, ix1, b, _, rfl, hB, rfl, _, _, rfl, _, _, rfl, rfl, ?_⟩
      refine ⟨(by show 0 ≤ sizeLine; decide), fun F hF => ⟨_, _, rfl, ?_⟩⟩
      have eF : (upd H F (.lst [])) F = some (.lst []) := upd_same
      have smF : Same H (upd H F (.lst [])) := same_new hF
      revert eF smF
      generalize upd H F (HO.lst []) = G
      intro eF smF
      refine ⟨_, rfl, _, _, rfl, rfl, _, rfl, by omega, by omega, for_range (lo := 0) (n := ((M : Int) + 1).toNat) (fun i σ H' => H' = G ∧ ∃ y6 : Option V, σ = [some (.ref a), some (.int (M : Int)), some (.int x), some (.int y), some (.int (y ^ i)), some (.ref F), y6, none, none, none]) ⟨rfl, none, by rw [Int.pow_zero]; rfl⟩ ?_ ?_⟩
      · rintro i σ H2 hi ⟨rfl, y6, rfl⟩
        refine ⟨_, rfl, _, rfl, _, _, rfl, rfl, .inr ⟨by omega, by omega⟩, rfl, some (.int (0 + (i : Int))), ?_⟩
        rw [Int.pow_succ]
        rfl
      rintro σ H2 ⟨rfl, y6, rfl⟩
      have eM : ((M : Int) + 1).toNat = M + 1 := by omega
      rw [eM]
      have eq0 : (y ^ (M + 1)).fdiv y = y ^ M := by rw [Int.pow_succ, Int.mul_comm, hdiv]
      refine ⟨_, rfl, _, rfl, _, _, rfl, rfl, ⟨by omega, by omega⟩, ?_⟩
      refine ⟨_, rfl, _, _, rfl, rfl, _, rfl, by omega, by omega, for_range (lo := 0) (n := ((M : Int) + 1).toNat) (fun i σ H' => Same H H' ∧ H' F = some (.lst ((rowsI (tillP x (y - x) y M) i).map V.int)) ∧ ∃ (y8 : Option V) (lf : Int), σ = [some (.ref a), some (.int (M : Int)), some (.int x), some (.int y), some (.int (y ^ (M + 1))), some (.ref F), y6, some (.int lf), y8, none] ∧ (i ≤ M → lf = (y - x) ^ i * y ^ (M - i)))
        ⟨smF, eF, none, _, rfl, fun _ => ?_⟩ ?_ ?_⟩
      · show (y ^ (M + 1)).fdiv y = (y - x) ^ 0 * y ^ (M - 0)
        rw [eq0, Int.pow_zero, Int.one_mul, Nat.sub_zero]
      · rintro i σ H3 hi ⟨sm3, hL, y8, lf, rfl, hlf⟩
        have hi' : i ≤ M := by omega
        have elf := hlf hi'
        refine ⟨_, rfl, .inl ⟨rfl, _, SqL.of hL⟩, _, rfl, _, rfl, _, _, rfl, rfl, .inl ⟨by omega, by omega⟩, F, _, _, rfl, rfl, hL, ?_, ?_⟩
        · rw [List.length_map, rowsI_len]
          exact small1000 (by omega)
        · refine ⟨_, rfl, _, rfl, _, rfl, _, _, rfl, rfl, _, _, rfl, rfl, .inr ⟨by omega, by omega⟩, _, rfl, _, _, rfl, rfl, ⟨by omega, by omega⟩, same_put sm3 hF, ?_, some (.int (0 + (i : Int))), (lf * (y - x)).fdiv y, rfl, fun h => ?_⟩
          · rw [upd_same, rowsI_succ, List.map_append]
            have : x * lf = tillP x (y - x) y M i := by
              rw [elf]
              show _ = x * (y - x) ^ i * y ^ (M - i)
              rw [Int.mul_assoc]
            rw [← this]
            rfl
          · have e1 : M - i = (M - (i + 1)) + 1 := by omega
            have e2 : lf * (y - x) = y * ((y - x) ^ (i + 1) * y ^ (M - (i + 1))) := by
              rw [elf, e1, Int.pow_succ, Int.pow_succ]
              grind
            rw [e2, hdiv]
      · rintro σ H3 ⟨sm3, hL, y8, lf, rfl, _⟩
        rw [eM] at hL
        refine ⟨_, rfl, _, rfl, (by show 2 ≤ sizeLine; decide), fun p hp => ?_⟩
        exact q _ p F (sm3.trans (same_new hp)) hF upd_same (same_new hp _ _ hL)
    | die l s =>
      have hd' : Dx K Z H v (dieE (trip l s)) := by
        rw [← dice_trip]
        exact hd
      obtain ⟨a, u, rfl, hA, hu⟩ := dx_word hd'
      obtain ⟨b, xs, rfl, hB, dx⟩ := dx_tup hu
      have tl := trip_low ok
      obtain ⟨w1, w2⟩ := trip_whole ok
      have np := natP_natW (l := trip l s) fun q hq => (tl q hq).1
      have asc := (trip_good ok).asc
      generalize eL : trip l s = L at *
      have lx : xs.length = L.length := by rw [dxAll_len dx, List.length_map]
      have wle : ∀ i, wholeN (L.take i) ≤ wholeN L := fun i => Nat.le_of_dvd w1 (whole_part L i)
      refine ⟨_, rfl, a, _, _, _, rfl, rfl, hA, ix0, rfl, _, rfl, ite2 (fun e => absurd (V.str.inj (of_decide_eq_true e)) (by decide)) (fun _ => ?_)⟩
      refine ⟨_, rfl, a, _, _, _, rfl, rfl, hA, ix1, b, rfl, ⟨_, hB⟩, for_it walk_tup (fun i σ H' => H' = H ∧ ∃ y8 y9 : Option V, σ = [some (.ref a), some (.int (M : Int)), none, none, some (.int (wholeN (L.take i))), none, none, none, y8, y9]) ⟨rfl, none, none, rfl⟩ (fun i σ H' _ z => by rw [z.1]; exact hB) ?_ ?_⟩
      · rintro i x σ H2 H3 hi ⟨rfl, y8, y9, rfl⟩ ⟨rfl, hx⟩
        obtain ⟨c, t, t2, hc, rfl, ht, ht2⟩ := sds_at dx hx
        have hm := List.mem_of_getElem? hc
        obtain ⟨_, _, _, _, c5, c6, _⟩ := tl c hm
        have wi := wle i
        have g1 : 0 < gc (wholeN (L.take i) : Int) c.2.2 := gc_pos (by omega)
        have g2 : gc (wholeN (L.take i) : Int) c.2.2 ≤ 24 := Nat.le_trans (Nat.gcd_le_right _ (by omega)) (by omega)
        have val : ((wholeN (L.take i) : Int)).fdiv (gc (wholeN (L.take i) : Int) c.2.2) * c.2.2 = (wholeN (L.take (i + 1)) : Int) := by
          rw [whole_take hc]
          have e1 : gc (wholeN (L.take i) : Int) c.2.2 = Nat.gcd (wholeN (L.take i)) c.2.2.natAbs := rfl
          rw [e1]
          have d := Nat.gcd_dvd_left (wholeN (L.take i)) c.2.2.natAbs
          have e2 : Nat.lcm (wholeN (L.take i)) c.2.2.natAbs = wholeN (L.take i) / Nat.gcd (wholeN (L.take i)) c.2.2.natAbs * c.2.2.natAbs := by
            unfold Nat.lcm
            rw [Nat.mul_comm (wholeN (L.take i)), Nat.mul_div_assoc _ d, Nat.mul_comm]
          rw [e2, Int.fdiv_eq_ediv_of_nonneg _ (by omega)]
          have e3 : c.2.2 = ((c.2.2.natAbs : Nat) : Int) := by omega
          conv => lhs; rw [e3]
          rw [Int.natAbs_natCast, Int.natCast_mul]
          rfl
        refine ⟨t, _, rfl, ht, rfl, _, _, rfl, _, _, rfl, rfl, ?_⟩
        refine ⟨_, rfl, _, rfl, _, rfl, t2, _, _, _, rfl, rfl, ht2, ix1, _, _, rfl, _, _, rfl, rfl, ⟨by omega, by omega⟩, _, rfl, t2, _, _, _, rfl, rfl, ht2, ix1, _, _, rfl, rfl, .inr ⟨by omega, by omega⟩, rfl, some (.int c.1), some (.ref t2), ?_⟩
        rw [← val]
        rfl
      rintro σ H2 ⟨rfl, y8, y9, rfl⟩
      rw [lx, List.take_length]
      refine ⟨(by show 1 ≤ sizeLine; decide), fun F0 h0 => ⟨_, rfl, _, _, rfl, rfl, F0, _, _, rfl, rfl, upd_same, by omega, by omega, ?_, fun F hF => ?_⟩⟩
      · show 1 * ((M : Int) + 1).toNat ≤ sizeLine
        have : (1000 : Nat) ≤ sizeLine := by decide
        omega
      have eM : ((M : Int) + 1).toNat = M + 1 := by omega
      rw [eM, noughts]
      have nF : H2 F = none := by
        cases e : H2 F with
        | none => rfl
        | some o =>
          have := same_new (o := .lst [.int 0]) h0 _ _ e
          rw [this] at hF
          cases hF
      have smF : Same H2 (upd (upd H2 F0 (.lst [.int 0])) F (.lst ((rowsI (coef []) (M + 1)).map V.int))) := (same_new h0).trans (same_new hF)
      have eF : (upd (upd H2 F0 (.lst [.int 0])) F (.lst ((rowsI (coef []) (M + 1)).map V.int))) F = some (.lst ((rowsI (coef []) (M + 1)).map V.int)) := upd_same
      revert smF eF
      generalize upd (upd H2 F0 (HO.lst [.int 0])) F (HO.lst ((rowsI (coef []) (M + 1)).map V.int)) = G
      intro smF eF
      refine ⟨_, rfl, a, _, _, _, rfl, rfl, Ev.Same.seqT smF hA, ix1, b, rfl, ⟨_, Ev.Same.seqT smF hB⟩, for_it walk_tup (fun i σ H' => Same H2 H' ∧ H' F = some (.lst ((rowsI (coef ((natW L).take i)) (M + 1)).map V.int)) ∧ ∃ y8 y9 : Option V, σ = [some (.ref a), some (.int (M : Int)), none, none, some (.int (wholeN L)), some (.ref F), none, none, y8, y9])
        ⟨smF, eF, y8, y9, rfl⟩ (fun i σ H' _ z => Ev.Same.seqT z.1 hB) ?_ ?_⟩
      · rintro i x σ H3 H4 hi ⟨sm3, hL, y8, y9, rfl⟩ ⟨rfl, hx⟩
        obtain ⟨c, t, t2, hc, rfl, ht, ht2⟩ := sds_at (dxAll_same sm3 dx) hx
        have hm := List.mem_of_getElem? hc
        obtain ⟨c1, c2, c3, c4, c5, c6, _⟩ := tl c hm
        have hw : (natW L)[i]? = some (c.1.toNat, c.2.1 * ((wholeN L : Int) / c.2.2)) := by
          unfold natW wts
          rw [List.getElem?_map, List.getElem?_map, hc]
          rfl
        have nx : ∀ k, coef ((natW L).take (i + 1)) k = coef ((natW L).take i) k + (if k = c.1.toNat then c.2.1 * ((wholeN L : Int) / c.2.2) else 0) := fun k => by
          rw [List.take_add_one, hw, coef_app]
          show _ + ((if k = c.1.toNat then c.2.1 * ((wholeN L : Int) / c.2.2) else 0) + 0) = _
          rw [Int.add_zero]
        have no : coef ((natW L).take i) c.1.toNat = 0 := coef_no fun p hp e => by
          obtain ⟨j, hj, ej⟩ := List.getElem_of_mem hp
          rw [List.length_take] at hj
          rw [List.getElem_take] at ej
          have hil : i < (natW L).length := (List.getElem?_eq_some_iff.mp hw).1
          have := List.pairwise_iff_getElem.mp asc j i (by omega) hil (by omega)
          rw [ej, (List.getElem?_eq_some_iff.mp hw).2] at this
          have h2 : p.1 < c.1.toNat := this
          omega
        have dq : (wholeN L : Int).fdiv c.2.2 = (wholeN L : Int) / c.2.2 := Int.fdiv_eq_ediv_of_nonneg _ (by omega)
        refine ⟨t, _, rfl, ht, rfl, _, _, rfl, _, _, rfl, rfl, ?_⟩
        refine ⟨_, rfl, _, rfl, _, _, rfl, rfl, _, rfl, ite2 (fun e => ?_) (fun e => ?_)⟩
        · have le : c.1.toNat ≤ M := by
            have : c.1 ≤ (M : Int) := by simpa using e
            omega
          refine ⟨_, rfl, t2, _, _, _, rfl, rfl, ht2, ix0, _, rfl, _, rfl, t2, _, _, _, rfl, rfl, ht2, ix1, _, _, rfl, rfl, ⟨by omega, by omega⟩, _, _, rfl, rfl, .inl ⟨by omega, by omega⟩, _, rfl, _, rfl, F, _, c.1, c.1.toNat, rfl, rfl, hL, ?_, ?_⟩
          · rw [List.length_map, rowsI_len]
            have := ixN_at (n := M + 1) (j := c.1.toNat) (by omega)
            rw [Int.toNat_of_nonneg c1] at this
            exact this
          · refine ⟨same_put sm3 nF, ?_, some (.int c.1), some (.ref t2), rfl⟩
            rw [upd_same]
            dsimp only
            rw [dq, rows_set (g := coef ((natW L).take (i + 1))) le ?_ ?_]
            · rw [nx, no, if_pos rfl, Int.zero_add]
            · intro k _ hk
              rw [nx, if_neg hk, Int.add_zero]
        · have gt : M < c.1.toNat := by
            have : ¬ c.1 ≤ (M : Int) := fun z => e (by simpa using z)
            omega
          refine ⟨sm3, ?_, some (.int c.1), some (.ref t2), rfl⟩
          rw [hL, rows_congr (f := coef ((natW L).take i)) (g := coef ((natW L).take (i + 1))) fun k hk => by rw [nx, if_neg (by omega), Int.add_zero]]
      · rintro σ H3 ⟨sm3, hL, y8, y9, rfl⟩
        have full : (natW L).take xs.length = natW L := List.take_of_length_le (by unfold natW wts; rw [List.length_map, List.length_map]; omega)
        rw [full] at hL
        refine ⟨_, rfl, _, rfl, (by show 2 ≤ sizeLine; decide), fun p hp => ?_⟩
        refine q _ p F (sm3.trans (same_new hp)) nF ?_ ?_
        · rw [upd_same]
          show _ = some (HO.tup [V.ref F, V.int (wholeN (trip l s) : Int)])
          rw [eL]
        · rw [same_new hp _ _ hL]
          show _ = some (HO.lst ((rowsI (coef (natW (trip l s))) (M + 1)).map V.int))
          rw [eL]
end
end Ev

set_option exponentiation.threshold 20000
namespace Ev
open PySem PySem.Spec PyProof.Rows L2
/-! ### the law's adding up, throw by throw -/
def usedN (p : Nat → Int) (i : Nat) : List Nat := (List.range i).filter fun k => decide (p k ≠ 0)
def natV (l : List Nat) : List V := l.map fun (k : Nat) => V.int (k : Int)
theorem used_succ (p : Nat → Int) (i : Nat) : usedN p (i + 1) = usedN p i ++ (if p i ≠ 0 then [i] else []) := by
  unfold usedN
  rw [List.range_succ, List.filter_append]
  by_cases h : p i = 0
  · simp [h]
  · simp [h]
def psum (p q : Nat → Int) (n : Nat) (us : List Nat) : Int := (us.map fun o => if o ≤ n then p o * q (n - o) else 0).sum
theorem psum_app (p q : Nat → Int) (n : Nat) (us vs : List Nat) : psum p q n (us ++ vs) = psum p q n us + psum p q n vs := by
  unfold psum
  rw [List.map_append, List.sum_append]
theorem psum_tab (p q : Nat → Int) (n : Nat) : ∀ m, psum p q n (usedN p (m + 1)) = opL (tab p m) q n
  | 0 => by
    rw [op_tab_zero]
    show psum p q n (usedN p (0 + 1)) = _
    rw [used_succ, psum_app]
    by_cases h : p 0 = 0
    · simp [h, psum, usedN]
    · simp [h, psum, usedN]
  | m + 1 => by
    rw [used_succ, psum_app, psum_tab p q n m, op_tab_succ]
    congr 1
    by_cases h : p (m + 1) = 0
    · simp [h, psum]
    · simp [h, psum]
theorem used_mem {p : Nat → Int} {i k : Nat} (h : k ∈ usedN p i) : k < i := by
  unfold usedN at h
  exact List.mem_range.mp (List.mem_filter.mp h).1
theorem used_len (p : Nat → Int) (i : Nat) : (usedN p i).length ≤ i := by
  unfold usedN
  have := List.length_filter_le (fun k => decide (p k ≠ 0)) (List.range i)
  rw [List.length_range] at this
  exact this
theorem delta_rows (M : Nat) : [V.int 1] ++ (List.replicate M ([V.int 0] : List V)).flatten = (rowsI delta (M + 1)).map V.int := by
  induction M with
  | zero => rfl
  | succ M ih =>
    rw [List.replicate_succ', List.flatten_append, ← List.append_assoc, ih, rowsI_succ delta (M + 1), List.map_append]
    rfl
theorem wsum_tab_le {p : Nat → Int} {B : Int} (hB : 0 ≤ B) : ∀ m, (∀ k, k ≤ m → 0 ≤ p k ∧ p k ≤ B) → 0 ≤ wsum (tab p m) ∧ wsum (tab p m) ≤ (m + 1) * B
  | 0, h => by
    have := h 0 (Nat.le_refl _)
    have e : wsum (tab p 0) = p 0 := by
      show p 0 + 0 = p 0
      omega
    rw [e]
    refine ⟨this.1, ?_⟩
    have : (((0 : Nat) : Int) + 1) * B = B := by simp
    omega
  | m + 1, h => by
    have ih := wsum_tab_le hB m fun k hk => h k (by omega)
    have h1 := h (m + 1) (Nat.le_refl _)
    have e : wsum (tab p (m + 1)) = wsum (tab p m) + p (m + 1) := by
      rw [tab_succ]
      unfold wsum
      rw [List.map_append, List.sum_append]
      simp
    rw [e]
    have e2 : (((m + 1 : Nat) : Int) + 1) * B = ((m : Int) + 1) * B + B := by
      have : ((m + 1 : Nat) : Int) + 1 = ((m : Int) + 1) + 1 := by omega
      rw [this, Int.add_mul ((m : Int) + 1) 1 B, Int.one_mul]
    rw [e2]
    omega
theorem ipow_le {a b : Int} (h0 : 0 ≤ a) (h : a ≤ b) : ∀ n : Nat, a ^ n ≤ b ^ n
  | 0 => by rw [Int.pow_zero, Int.pow_zero]; exact Int.le_refl _
  | n + 1 => by
    rw [Int.pow_succ, Int.pow_succ]
    exact Int.mul_le_mul (ipow_le h0 h n) h h0 (Int.pow_nonneg (by omega))
/-- the law's parts are not too great -/
theorem DK.Pb {k : DK} (ok : k.ok) {M : Nat} (hM : M ≤ 64) : ∀ n, n ≤ M → 0 ≤ k.P M n ∧ k.P M n ≤ 12 ^ 65 := by
  intro n hn
  cases k with
  | till x y =>
    have h1 := ok.1.pos
    have h2 := ok.1.lt
    have h3 := ok.2
    have a1 : 0 ≤ (y - x) ^ n := Int.pow_nonneg (by omega)
    have a2 : (y - x) ^ n ≤ 12 ^ n := ipow_le (by omega) (by omega) n
    have b1 : 0 ≤ y ^ (M - n) := Int.pow_nonneg (by omega)
    have b2 : y ^ (M - n) ≤ 12 ^ (M - n) := ipow_le (by omega) h3 _
    refine ⟨Int.mul_nonneg (Int.mul_nonneg (by omega) a1) b1, ?_⟩
    show x * (y - x) ^ n * y ^ (M - n) ≤ 12 ^ 65
    have c1 : x * (y - x) ^ n ≤ 12 * 12 ^ n := Int.mul_le_mul (by omega) a2 a1 (by decide)
    have c2 : x * (y - x) ^ n * y ^ (M - n) ≤ 12 * 12 ^ n * 12 ^ (M - n) := Int.mul_le_mul c1 b2 b1 (Int.mul_nonneg (by decide) (Int.pow_nonneg (by decide)))
    have c3 : (12 : Int) * 12 ^ n * 12 ^ (M - n) = 12 ^ (M + 1) := by
      rw [Int.mul_assoc, ← Int.pow_add, Nat.add_sub_cancel' hn, Int.mul_comm, Int.pow_succ]
    have c4 : (12 : Int) ^ (M + 1) ≤ 12 ^ 65 := by
      obtain ⟨d, hd⟩ := Nat.exists_eq_add_of_le (show M + 1 ≤ 65 by omega)
      rw [hd, Int.pow_add 12 (M + 1) d]
      have e1 : 1 ≤ (12 : Int) ^ d := by
        have := Int.pow_pos (n := 12) (m := d) (by decide)
        omega
      have e2 : 0 ≤ (12 : Int) ^ (M + 1) := Int.pow_nonneg (by decide)
      have := Int.mul_le_mul_of_nonneg_left e1 e2
      omega
    omega
  | die l s =>
    have tl := trip_low ok
    obtain ⟨w1, w2⟩ := trip_whole ok
    have nb := natW_bound rfl w2 fun q hq => ⟨(tl q hq).2.2.1, (tl q hq).2.2.2.1, (tl q hq).2.2.2.2.1⟩
    have hl : (natW (trip l s)).length ≤ 6 := by
      unfold natW wts trip
      rw [List.length_map, List.length_map, List.length_map]
      exact ok.len.2
    have key : ∀ (w : List (Nat × Int)), (∀ p ∈ w, 0 ≤ p.2 ∧ p.2 ≤ 96) → 0 ≤ coef w n ∧ coef w n ≤ 96 * (w.length : Int) := by
      intro w
      induction w with
      | nil => intro _; exact ⟨Int.le_refl _, by show (0 : Int) ≤ 96 * ((0 : Nat) : Int); decide⟩
      | cons p w ih =>
        intro h
        have h1 := h p (List.mem_cons_self ..)
        have h2 := ih fun x hx => h x (List.mem_cons_of_mem _ hx)
        have e : coef (p :: w) n = (if n = p.1 then p.2 else 0) + coef w n := rfl
        rw [e, List.length_cons]
        split <;> omega
    have := key _ nb
    refine ⟨this.1, ?_⟩
    have h96 : (576 : Int) ≤ 12 ^ 65 := by decide
    show coef (natW (trip l s)) n ≤ 12 ^ 65
    omega
theorem DK.Wpos {k : DK} (ok : k.ok) (M : Nat) : 0 < k.W M := by
  cases k with
  | till x y =>
    have h1 := ok.1.pos
    have h2 := ok.1.lt
    exact ypos (by omega) _
  | die l s =>
    have := (trip_whole ok).1
    show (0 : Int) < (wholeN (trip l s) : Int)
    omega
theorem DK.Wsize {k : DK} (ok : k.ok) {M : Nat} (hM : M ≤ 64) : (k.W M).natAbs < 2 ^ 262 := by
  cases k with
  | till x y =>
    have h1 := ok.1.pos
    have h2 := ok.1.lt
    have h3 := ok.2
    exact Nat.lt_of_lt_of_le (pow_lt (b := y) (s := 4) (by show y.natAbs < 16; omega) (M + 1)) (Nat.pow_le_pow_right (by decide) (by omega))
  | die l s =>
    have := (trip_whole ok).2
    show ((wholeN (trip l s) : Nat) : Int).natAbs < 2 ^ 262
    have : (32 : Nat) ≤ 2 ^ 262 := by decide
    omega
/-- the law's sums are the program's -/
theorem DK.same {k : DK} (ok : k.ok) {M m n : Nat} (h : n ≤ M) : pw (tab (k.P M) M) m n * k.b m n = k.c m n * (k.W M) ^ m := by
  cases k with
  | die l s =>
    show pw (tab (coef (natW (trip l s))) M) m n * _ = _
    rw [pw_coef _ M m n h]
    rfl
  | till x y =>
    show pw (tab (tillP x (y - x) y M) M) m n * y ^ (m + n) = Cc m n * (x ^ m * (y - x) ^ n) * (y ^ (M + 1)) ^ m
    rw [pw_till x (y - x) y M m n h]
    by_cases hz : Cc m n = 0
    · rw [hz]
      simp
    · have e : y ^ (m * M - n) * y ^ (m + n) = (y ^ (M + 1)) ^ m := by
        rw [← Int.pow_add, ← Int.pow_mul]
        congr 1
        cases m with
        | zero =>
          cases n with
          | zero => simp
          | succ n => exact absurd (delta_succ n) hz
        | succ m =>
          have h1 : (m + 1) * M = m * M + M := Nat.succ_mul _ _
          have h2 : (M + 1) * (m + 1) = M * (m + 1) + (m + 1) := Nat.succ_mul _ _
          have h3 : M * (m + 1) = (m + 1) * M := Nat.mul_comm _ _
          omega
      rw [← e]
      grind
def frD5 (k : DK) (m n : Nat) : PyData := prD (fA (k.c m n) (k.b m n)) (fB (k.c m n) (k.b m n))
section
variable {P : Program} {w : World} {K : PySem.W.Frag} {mg : Str → Option Value} {base : Heap} {A : Nat → Addr} {D : Nat → FuncData}
def sp_summed (K : PySem.W.Frag) : Sp := fun vs H Q _ => ∃ (Z : Addr → Prop) (v : V) (k : DK) (m M : Nat), vs = [v, .int (m : Int), .int (M : Int)] ∧ k.ok ∧ Dx K Z H v k.data ∧ M ≤ 64 ∧ m ≤ 60 ∧ Bg ((k.W M) ^ m) ∧
  ∀ (H' : Hp) (D : Addr) (ys : List V), Same H H' → H D = none → H' D = some (.lst ys) → DxAll K NoP H' ys ((List.range (M + 1)).map fun n => frD5 k m n) → Q (.ref D) H'
theorem Txt.ok_summed (T : Txt K mg A D) : FnOk P w K mg base CX0 3 (A 19) (D 19) ["die", "many", "most"] (sp_summed K) := by
  refine T.F_summed.ok sc_summed (fun vs H Q E h => ?_) (fun cdv Ar outer s H vs Q E hr h => ?_)
  · obtain ⟨Z, v, k, m, M, rfl, _⟩ := h
    rfl
  · obtain ⟨Z, v, k, m, M, rfl, ok, hd, hM, hm, hb, q⟩ := h
    refine ⟨_, (pss_cons (ps_asg (pe_call (T.ok_parts) hr (by rfl) T.g_parts T.k_parts T.b_parts .nil pass0 (pa_cons (pv 0) (pa_cons (pv 2) pa_nil))) (pg_tup rfl (pgs_cons (pg_name (i := 3) sc_summed.nd rfl (Or.inr rfl)) (pgs_cons (pg_name (i := 4) sc_summed.nd rfl (Or.inl rfl)) pgs_nil))))
    (pss_cons (ps_setLc (i := 6) (own := [("number", 5)]) (g := gName 5) (tt := _) rfl sc_summed.nd rfl rfl (sw_true rfl rfl rfl (by decide +kernel)) (pi_range1 rfl T.range (pa_cons (pe_op op_add (pv 2) pe_int) pa_nil)) (blkOk_by (N := ["die", "many", "most", "parts", "whole", "number", "used", "stand", "under", "turn", "fresh", "own"]) (sc := defScope s_summed) (by decide +kernel)) (fun _ _ _ _ _ => pg_name (i := 5) sc_summed.nd rfl (Or.inl rfl)) (fun _ _ _ _ _ => (pts_one (pt_cmpR op_ne (pe_ix (show IxR _ (rIxL K) from ix_list) (pv 3) (pv 5) (fun _ _ => rfl)) pe_int (nomark _)))) (fun _ _ _ _ _ => (pv 5)))
    (pss_cons (ps_asg (pe_tup (pa_cons (pe_op op_cat (pe_lst (pa_cons pe_int pa_nil)) (pe_op op_rep (pe_lst (pa_cons pe_int pa_nil)) (pv 2))) (pa_cons pe_int pa_nil))) (pg_tup rfl (pgs_cons (pg_name (i := 7) sc_summed.nd rfl (Or.inr rfl)) (pgs_cons (pg_name (i := 8) sc_summed.nd rfl (Or.inr rfl)) pgs_nil))))
    (pss_cons (ps_for PassesOwn.never rfl (pi_range1 rfl T.range (pa_cons (pv 1) pa_nil)) (pg_name (i := 9) sc_summed.nd rfl (Or.inl rfl)) (pss_cons (ps_set (i := 10) sc_summed.nd rfl (Or.inl rfl) (pe_lst pa_nil))
    (pss_cons (ps_for PassesOwn.never rfl (pi_range1 rfl T.range (pa_cons (pe_op op_add (pv 2) pe_int) pa_nil)) (pg_name (i := 5) sc_summed.nd rfl (Or.inr rfl)) (pss_one (ps_expr (pe_bm PySem.F.plainAttrs_list PySem.F.slot_list_append PySem.F.type_list_append mt_append (pv 10) (pa_cons (pe_callB (show CallR _ _ (rSum K) from cr_sum rfl) (by rfl) T.z_sum (by decide +kernel) (pa_cons (pe_lc (own := [("own", 11)]) (g := gName 11) (tt := _) rfl sc_summed.nd (pi_list (pv 6)) (blkOk_by (N := ["die", "many", "most", "parts", "whole", "number", "used", "stand", "under", "turn", "fresh", "own"]) (sc := defScope s_summed) (by decide +kernel)) (fun _ _ _ _ _ => pg_name (i := 11) sc_summed.nd rfl (Or.inl rfl)) (fun _ _ _ _ _ => (pts_one (pt_cmpR op_le (pv 11) (pv 5) (nomark _)))) (fun _ _ _ _ _ => (pe_op op_mulW (pe_ix (show IxR _ (rIxL K) from ix_list) (pv 3) (pv 11) (fun _ _ => rfl)) (pe_ix (show IxR _ (rIxL K) from ix_list) (pv 7) (pe_op op_sub (pv 5) (pv 11)) (fun _ _ => rfl))))) pa_nil)) pa_nil)))))
    (pss_one (ps_asg (pe_tup (pa_cons (pv 10) (pa_cons (pe_op op_mulW (pv 8) (pv 4)) pa_nil))) (pg_tup rfl (pgs_cons (pg_name (i := 7) sc_summed.nd rfl (Or.inr rfl)) (pgs_cons (pg_name (i := 8) sc_summed.nd rfl (Or.inr rfl)) pgs_nil))))))))
    (pss_one (ps_ret (pe_lc (own := [("own", 11)]) (g := gName 11) (tt := tYes) rfl sc_summed.nd (pi_list (pv 7)) (blkOk_by (N := ["die", "many", "most", "parts", "whole", "number", "used", "stand", "under", "turn", "fresh", "own"]) (sc := defScope s_summed) (by decide +kernel)) (fun _ _ _ _ _ => pg_name (i := 11) sc_summed.nd rfl (Or.inl rfl)) (fun _ _ _ _ _ => pts_nil) (fun _ _ _ _ _ => (pe_call (T.ok_frac) hr (by rfl) T.g_frac T.k_frac T.b_frac .nil pass0 (pa_cons (pv 11) (pa_cons (pv 8) pa_nil))))))))))), ?_⟩
    have Pb := DK.Pb ok hM
    have Ws := DK.Wsize ok hM
    have Wp := DK.Wpos ok M
    have nn : ∀ p ∈ tab (k.P M) M, 0 ≤ p.2 := fun p hp => by
      unfold tab at hp
      obtain ⟨j, hj, rfl⟩ := List.mem_map.mp hp
      have := List.mem_range.mp hj
      exact (Pb j (by omega)).1
    have wb : (wsum (tab (k.P M) M)).natAbs < 2 ^ 1400 := by
      have h1 := wsum_tab_le (p := k.P M) (B := 12 ^ 65) (by decide) M Pb
      have h2 : ((M : Int) + 1) * 12 ^ 65 ≤ 65 * 12 ^ 65 := Int.mul_le_mul_of_nonneg_right (by omega) (by decide)
      have h3 : ((65 : Int) * 12 ^ 65) < 2 ^ 300 := by decide +kernel
      have h4 : (2 : Nat) ^ 300 ≤ 2 ^ 1400 := Nat.pow_le_pow_right (by decide) (by decide)
      have h5 : (2 : Int) ^ 300 = ((2 ^ 300 : Nat) : Int) := by decide +kernel
      omega
    have psz : ∀ j n, (pw (tab (k.P M) M) j n).natAbs < 2 ^ (1400 * j + 1) := fun j n => pw_size nn wb j n
    have Psz : ∀ n, n ≤ M → (k.P M n).natAbs < 2 ^ 300 := fun n hn => by
      have h1 := Pb n hn
      have h3 : ((12 : Int) ^ 65) < 2 ^ 300 := by decide +kernel
      have h5 : (2 : Int) ^ 300 = ((2 ^ 300 : Nat) : Int) := by decide +kernel
      omega
    refine ⟨_, rfl, _, rfl, Z, v, k, M, rfl, ok, hd, hM, fun H1 p F sm1 nF hp hF => ⟨p, _, rfl, SqT.of hp, rfl, _, _, rfl, _, _, rfl, rfl, ?_⟩⟩
    generalize hW : k.W M = W at *
    generalize hP : k.P M = PF at *
    have eM : ((M : Int) + 1).toNat = M + 1 := by omega
    -- the parts that are not 0
    refine ⟨_, rfl, _, _, rfl, rfl, _, rfl, by omega, by omega, fun U hU => ?_⟩
    refine lc_it (walk_range (lo := 0) (n := ((M : Int) + 1).toNat)) (fun i H' => Same H1 H' ∧ H' U = some (.lst (natV (usedN PF i)))) ⟨same_new hU, upd_same⟩ (fun _ _ _ _ => trivial) ?_ ?_
    · rintro i x H5 H6 hi ⟨sm5, hL⟩ ⟨rfl, rfl⟩
      have hi' : i ≤ M := by omega
      have at5 : ((rowsI PF (M + 1)).map V.int)[i]? = some (.int (PF i)) := by rw [List.getElem?_map, rowsI_at (by omega)]; rfl
      refine ⟨rfl, ⟨_, rfl, _, rfl, F, _, _, _, rfl, rfl, SqL.of (sm5 _ _ hF), at_of (j := i) (by omega) at5, rfl, _, rfl, ite2 (fun e2 => ?_) (fun e2 => ?_)⟩⟩
      · have ne : PF i ≠ 0 := fun z => vne e2 (by rw [z])
        refine ⟨_, rfl, _, hL, ?_, same_put sm5 hU, ?_⟩
        · unfold natV
          rw [List.length_map]
          have := used_len PF i
          exact small1000 (by omega)
        · rw [upd_same, used_succ, if_pos ne]
          unfold natV
          rw [List.map_append]
          have : (0 + (i : Int)) = (i : Int) := by omega
          show some (HO.lst (_ ++ [V.int (0 + (i : Int))])) = _
          rw [this]
          rfl
      · have ez : PF i = 0 := V.int.inj (veq e2)
        refine ⟨sm5, ?_⟩
        rw [hL, used_succ, if_neg (fun z => z ez), List.append_nil]
    rintro H2 ⟨sm2, hUL⟩
    rw [eM] at hUL
    have hF2 := sm2 _ _ hF
    -- none thrown
    refine ⟨(by show 1 ≤ sizeLine; decide), fun A1 k1 => ⟨(by show 1 ≤ sizeLine; decide), fun A2 k2 => ⟨_, rfl, A2, _, _, rfl, rfl, upd_same, by omega, by omega, ?_, fun A3 k3 => ?_⟩⟩⟩
    · show 1 * ((M : Int)).toNat ≤ sizeLine
      have : (1000 : Nat) ≤ sizeLine := by decide
      omega
    have s1 := same_new (o := .lst [.int 1]) k1
    have s2 := same_new (o := .lst [.int 0]) k2
    have s3 := same_new (o := .lst (List.replicate ((M : Int)).toNat ([V.int 0] : List V)).flatten) k3
    refine ⟨A1, A3, _, _, rfl, rfl, s3 _ _ (s2 _ _ upd_same), upd_same, ?_, fun S0 k4 => ?_⟩
    · have e : ((M : Int)).toNat = M := by omega
      rw [e]
      have := congrArg List.length (delta_rows M)
      rw [List.length_append, List.length_map, rowsI_len] at this
      have l1 : (1000 : Nat) ≤ sizeLine := by decide
      omega
    rw [show ((M : Int)).toNat = M by omega, delta_rows]
    refine ⟨(by show 2 ≤ sizeLine; decide), fun t5 k5 => ⟨t5, _, rfl, SqT.of upd_same, rfl, _, _, rfl, _, _, rfl, rfl, ?_⟩⟩
    rw [show ((M : Int)).toNat = M by omega] at s3 k4
    have s4 := same_new (o := .lst ((rowsI delta (M + 1)).map V.int)) k4
    have s5 := same_new (o := .tup [.ref S0, .int 1]) k5
    have smG := ((((sm2.trans s1).trans s2).trans s3).trans s4).trans s5
    have eS := s5 _ _ (upd_same (a := S0) (o := .lst ((rowsI delta (M + 1)).map V.int)))
    have smU := (((s1.trans s2).trans s3).trans s4).trans s5
    have hUG := smU _ _ hUL
    revert eS smG hUG
    clear s1 s2 s3 s4 s5 smU k5
    generalize upd _ t5 (HO.tup [.ref S0, .int 1]) = G
    intro smG eS hUG
    have hFG := smG _ _ hF
    -- throw by throw
    refine ⟨_, rfl, _, rfl, by omega, by omega, for_range (lo := 0) (n := ((m : Int)).toNat) (fun j σ H' => Same G H' ∧ ∃ (S : Addr) (y5 y9 y10 : Option V), σ = [some v, some (.int (m : Int)), some (.int (M : Int)), some (.ref F), some (.int W), y5, some (.ref U), some (.ref S), some (.int (W ^ j)), y9, y10, none] ∧ H' S = some (.lst ((rowsI (pw (tab PF M) j) (M + 1)).map V.int)))
      ⟨Same.refl _, S0, none, none, none, by rw [Int.pow_zero]; rfl, eS⟩ ?_ ?_⟩
    · rintro j σ H3 hj ⟨sm3, S, y5, y9, y10, rfl, hS⟩
      have jm : j < m := by omega
      have wj : (W ^ j).natAbs < 2 ^ (262 * j + 1) := pow_lt Ws j
      refine ⟨(by show 0 ≤ sizeLine; decide), fun R hR => ?_⟩
      have eR : (upd H3 R (.lst [])) R = some (.lst []) := upd_same
      have smR : Same H3 (upd H3 R (.lst [])) := same_new hR
      revert eR smR
      generalize upd H3 R (HO.lst []) = G3
      intro eR smR
      refine ⟨_, rfl, _, _, rfl, rfl, _, rfl, by omega, by omega, for_range (lo := 0) (n := ((M : Int) + 1).toNat) (fun i σ H' => Same H3 H' ∧ H' R = some (.lst ((rowsI (pw (tab PF M) (j + 1)) i).map V.int)) ∧ ∃ y5 : Option V, σ = [some v, some (.int (m : Int)), some (.int (M : Int)), some (.ref F), some (.int W), y5, some (.ref U), some (.ref S), some (.int (W ^ j)), some (.int (0 + (j : Int))), some (.ref R), none])
        ⟨smR, eR, y5, rfl⟩ ?_ ?_⟩
      · rintro i σ H4 hi ⟨sm4, hRL, y5, rfl⟩
        have hi' : i ≤ M := by omega
        have hU4 := (sm3.trans sm4) _ _ hUG
        have hF4 := (sm3.trans sm4) _ _ hFG
        have hS4 := sm4 _ _ hS
        refine ⟨_, rfl, .inl ⟨rfl, _, SqL.of hRL⟩, _, rfl, U, rfl, ⟨_, SqL.of hU4⟩, fun D1 hD1 => ?_⟩
        refine lc_it walk_list (fun a H' => Same H4 H' ∧ ∃ ns : List Int, H' D1 = some (.lst (ns.map V.int)) ∧ ns.length ≤ a ∧ ns.sum = psum PF (pw (tab PF M) j) i ((usedN PF (M + 1)).take a)) ⟨same_new hD1, [], upd_same, Nat.le_refl _, rfl⟩ (fun a H' _ z => SqL.of (z.1 _ _ hU4)) ?_ ?_
        · rintro a x H5 H6 ha ⟨sm5, ns, hns, ln, es⟩ ⟨rfl, hx⟩
          unfold natV at hx ha
          rw [List.getElem?_map] at hx
          rw [List.length_map] at ha
          have hu : (usedN PF (M + 1))[a]? = some (usedN PF (M + 1))[a] := List.getElem?_eq_getElem ha
          rw [hu] at hx
          generalize (usedN PF (M + 1))[a] = o at hu hx
          obtain rfl : V.int (o : Int) = x := Option.some.inj hx
          have om := used_mem (List.mem_of_getElem? hu)
          have nxt : psum PF (pw (tab PF M) j) i ((usedN PF (M + 1)).take (a + 1)) = psum PF (pw (tab PF M) j) i ((usedN PF (M + 1)).take a) + (if o ≤ i then PF o * pw (tab PF M) j (i - o) else 0) := by
            rw [List.take_add_one, hu, psum_app]
            congr 1
            simp [psum]
          refine ⟨rfl, ⟨_, rfl, _, rfl, _, _, rfl, rfl, _, rfl, ite2 (fun e => ?_) (fun e => ?_)⟩⟩
          · have le : o ≤ i := by
              have : (o : Int) ≤ 0 + (i : Int) := by simpa using e
              omega
            have atF : ((rowsI PF (M + 1)).map V.int)[o]? = some (.int (PF o)) := by rw [List.getElem?_map, rowsI_at om]; rfl
            have atS : ((rowsI (pw (tab PF M) j) (M + 1)).map V.int)[i - o]? = some (.int (pw (tab PF M) j (i - o))) := by rw [List.getElem?_map, rowsI_at (by omega)]; rfl
            refine ⟨_, rfl, _, rfl, F, _, _, _, rfl, rfl, SqL.of (sm5 _ _ hF4), at_of (j := o) rfl atF, _, rfl, _, rfl, _, rfl, _, _, rfl, rfl, S, _, _, _, rfl, rfl, SqL.of (sm5 _ _ hS4), at_of (j := i - o) (by omega) atS, _, _, rfl, rfl, wide_mul (Psz o (by omega)) (psz j (i - o)) (by decide) (Nat.succ_pos _) (by omega), ?_⟩
            refine ⟨ns.map V.int, hns, ?_, same_put sm5 hD1, ns ++ [PF o * pw (tab PF M) j (i - o)], ?_, ?_, ?_⟩
            · rw [List.length_map]
              have := used_len PF (M + 1)
              exact small1000 (by omega)
            · rw [upd_same, List.map_append]
              rfl
            · rw [List.length_append, List.length_singleton]
              omega
            · rw [List.sum_append, es, nxt, if_pos le]
              simp
          · have gt : ¬ o ≤ i := fun z => e (by
              have : (o : Int) ≤ 0 + (i : Int) := by omega
              simpa using this)
            refine ⟨sm5, ns, hns, by omega, ?_⟩
            rw [es, nxt, if_neg gt, Int.add_zero]
        · rintro H5 ⟨sm5, ns, hns, ln, es⟩
          unfold natV at es
          rw [List.length_map, List.take_length, psum_tab] at es
          have hR5 := sm5 _ _ hRL
          refine ⟨D1, ns, rfl, SqL.of hns, R, _, _, rfl, rfl, hR5, ?_, ?_⟩
          · rw [List.length_map, rowsI_len]
            exact small1000 (by omega)
          · refine ⟨same_put (sm4.trans sm5) hR, ?_, some (.int (0 + (i : Int))), rfl⟩
            rw [upd_same, rowsI_succ, List.map_append, es]
            rfl
      · rintro σ H4 ⟨sm4, hRL, y5, rfl⟩
        rw [eM] at hRL
        refine ⟨_, rfl, _, rfl, _, rfl, _, _, rfl, rfl, wide_mul wj Ws (Nat.succ_pos _) (by decide) (by omega), (by show 2 ≤ sizeLine; decide), fun t6 k6 => ⟨t6, _, rfl, SqT.of upd_same, rfl, _, _, rfl, _, _, rfl, rfl, ?_⟩⟩
        refine ⟨sm3.trans (sm4.trans (same_new k6)), R, y5, some (.int (0 + (j : Int))), some (.ref R), ?_, same_new k6 _ _ hRL⟩
        rw [Int.pow_succ]
        rfl
    · rintro σ H3 ⟨sm3, S, y5, y9, y10, rfl, hS⟩
      rw [show ((m : Int)).toNat = m by omega] at hS ⊢
      refine ⟨_, rfl, S, rfl, ⟨_, SqL.of hS⟩, fun D1 hD1 => ?_⟩
      have wmp : 0 < W ^ m := ypos Wp m
      refine lc_it walk_list (fun i H' => Same H3 H' ∧ ∃ ys : List V, H' D1 = some (.lst ys) ∧ DxAll K NoP H' ys ((List.range i).map fun n => frD5 k m n)) ⟨same_new hD1, [], upd_same, .nil⟩ (fun i H' _ z => SqL.of (z.1 _ _ hS)) ?_ ?_
      · rintro i x H5 H6 hi ⟨sm5, ys, hY, dY⟩ ⟨rfl, hx⟩
        rw [List.length_map, rowsI_len] at hi
        rw [List.getElem?_map, rowsI_at hi] at hx
        obtain rfl : V.int (pw (tab PF M) m i) = x := Option.some.inj hx
        refine ⟨rfl, yes_of ?_⟩
        refine ⟨_, rfl, _, rfl, pw (tab PF M) m i, W ^ m, rfl, by omega, hb, fun H7 t7 sm7 ht7 e7 => ?_⟩
        have same := DK.same ok (M := M) (m := m) (n := i) (by omega)
        rw [hP, hW] at same
        obtain ⟨f1, f2⟩ := frac_same wmp (DK.bpos ok m i) same
        refine ⟨ys, sm7 _ _ hY, ?_, same_put (sm5.trans sm7) hD1, ys ++ [.ref t7], upd_same, ?_⟩
        · have h1 := dxAll_len dY
          rw [List.length_map, List.length_range] at h1
          exact small1000 (by omega)
        · rw [List.range_succ, List.map_append]
          rw [f1, f2] at e7
          have d1 : DxAll K NoP H7 (ys ++ [.ref t7]) _ := dxAll_app (dxAll_same sm7 dY) (.cons (prD_dx (SqT.of e7)) .nil)
          refine dxAll_keep (fun a' zs e => ?_) (fun a' o z e => z.elim) d1
          rcases e with (e | ⟨ob, e⟩) | e
          · exact .inl (.inl (by rw [upd_ne (ne_of e (sm7 _ _ hY) (by intro z; cases z))]; exact e))
          · exact .inl (.inr ⟨ob, by rw [upd_ne (ne_of e (sm7 _ _ hY) (by intro z; cases z))]; exact e⟩)
          · exact .inr e
      · rintro H5 ⟨sm5, ys, hY, dY⟩
        rw [List.length_map, rowsI_len] at dY
        refine q H5 D1 ys (((sm1.trans smG).trans sm3).trans sm5) ?_ hY dY
        cases e : H D1 with
        | none => rfl
        | some o =>
          have := ((sm1.trans smG).trans sm3) _ _ e
          rw [hD1] at this
          cases this
end
end Ev

set_option exponentiation.threshold 20000
namespace Ev
open PySem PySem.Spec PyProof.Rows L2
theorem Bg.mulW {a b : Int} (ha : Bg a) (hb : Bg b) : CMulW a b := wide_mul ha hb (by decide) (by decide) (by decide)
theorem Cc_B {m : Nat} (hA : ∀ i : Nat, ((i : Int) + 1) * Cc m (i + 1) = ((m : Int) + i) * Cc m i) : ∀ i : Nat, (m : Int) * Cc (m + 1) i = ((m : Int) + i) * Cc m i
  | 0 => by
    rw [Cc_zero, Cc_zero]
    show (m : Int) * 1 = ((m : Int) + 0) * 1
    omega
  | i + 1 => by
    have ih := Cc_B hA i
    have h1 := hA i
    rw [Cc_pascal, Int.mul_add, ih]
    have e : ((i + 1 : Nat) : Int) = (i : Int) + 1 := by omega
    rw [e]
    grind
theorem Cc_A : ∀ (m i : Nat), ((i : Int) + 1) * Cc m (i + 1) = ((m : Int) + i) * Cc m i
  | 0, i => by
    show ((i : Int) + 1) * delta (i + 1) = (((0 : Nat) : Int) + i) * delta i
    rw [delta_succ, Int.mul_zero]
    cases i with
    | zero => simp
    | succ i => rw [delta_succ, Int.mul_zero]
  | m + 1, i => by
    have hA := Cc_A m i
    have hB := Cc_B (Cc_A m) i
    rw [Cc_pascal, Int.mul_add, hA]
    have e : ((m + 1 : Nat) : Int) = (m : Int) + 1 := by omega
    rw [e]
    grind
theorem Cc_le : ∀ m n, Cc m n ≤ 2 ^ (m + n)
  | 0, n => by
    have h : Cc 0 n ≤ 1 := by
      show (if n = 0 then (1 : Int) else 0) ≤ 1
      split <;> decide
    have h2 : 0 < (2 : Int) ^ (0 + n) := Int.pow_pos (by decide)
    omega
  | m + 1, 0 => by
    rw [Cc_zero]
    have h2 : 0 < (2 : Int) ^ (m + 1 + 0) := Int.pow_pos (by decide)
    omega
  | m + 1, n + 1 => by
    have h1 := Cc_le m (n + 1)
    have h2 := Cc_le (m + 1) n
    rw [Cc_pascal]
    have e1 : m + 1 + (n + 1) = (m + (n + 1)) + 1 := by omega
    have e2 : m + 1 + n = m + (n + 1) := by omega
    rw [e2] at h2
    rw [e1, Int.pow_succ]
    omega
theorem Cc_size (m n : Nat) : (Cc m n).natAbs < 2 ^ (m + n + 1) := by
  have h1 := Cc_le m n
  have h2 := Cc_nn m n
  have h3 : ((2 : Int) ^ (m + n)) = ((2 ^ (m + n) : Nat) : Int) := by
    rw [Int.natCast_pow]
    rfl
  rw [Nat.pow_succ]
  have := Nat.two_pow_pos (m + n)
  omega
theorem DK.csize {k : DK} (ok : k.ok) {m n : Nat} (hm : m ≤ 61) (hn : n ≤ 61) : (k.c m n).natAbs < 2 ^ 1390 := by
  cases k with
  | till x y =>
    have h1 := ok.1.pos
    have h2 := ok.1.lt
    have h3 := ok.2
    have a1 := Cc_size m n
    have a2 := pow_lt (b := x) (s := 4) (by show x.natAbs < 16; omega) m
    have a3 := pow_lt (b := y - x) (s := 4) (by show (y - x).natAbs < 16; omega) n
    exact Nat.lt_of_lt_of_le (wide_lt a1 (wide_lt a2 a3)) (Nat.pow_le_pow_right (by decide) (by omega))
  | die l s =>
    have tl := trip_low ok
    obtain ⟨w1, w2⟩ := trip_whole ok
    have nb := natW_bound rfl w2 fun q hq => ⟨(tl q hq).2.2.1, (tl q hq).2.2.2.1, (tl q hq).2.2.2.2.1⟩
    have hl : (natW (trip l s)).length ≤ 6 := by
      unfold natW wts trip
      rw [List.length_map, List.length_map, List.length_map]
      exact ok.len.2
    have h1 := wsum_nn (l := natW (trip l s)) fun p hp => (nb p hp).1
    have h2 := wsum_le (natW (trip l s)) fun p hp => (nb p hp).2
    have h3 := pw_nn (l := natW (trip l s)) (fun p hp => (nb p hp).1) m n
    have h4 := pw_le (l := natW (trip l s)) (fun p hp => (nb p hp).1) m n
    have h5 := pow_lt (b := wsum (natW (trip l s))) (s := 10) (by show _ < 1024; omega) m
    have h6 : (2 : Nat) ^ (10 * m + 1) ≤ 2 ^ 1390 := Nat.pow_le_pow_right (by decide) (by omega)
    show (pw (natW (trip l s)) m n).natAbs < 2 ^ 1390
    omega
theorem fr_dt {k : DK} (ok : k.ok) {m n : Nat} (hm : m ≤ 61) (hn : n ≤ 61) : Dt 3 1 (frD5 k m n) := by
  have c1 := DK.csize ok hm hn
  have b1 := DK.bsize ok (m := m) (n := n) (by omega)
  have bp := DK.bpos ok m n
  have big : (2 : Nat) ^ 1390 ≤ 2 ^ 1400 := Nat.pow_le_pow_right (by decide) (by decide)
  have b0 : k.b m n ≠ 0 := by omega
  have f1 := fA_le (a := k.c m n) b0
  have f2 := fB_le (a := k.c m n) b0
  exact (Dts.tuple (Dts.cons (dt_int (by omega)) (Dts.cons (dt_int (by omega)) Dts.nil))).le (by decide) (by decide)
section
variable {P : Program} {w : World} {K : PySem.W.Frag} {mg : Str → Option Value} {base : Heap} {A : Nat → Addr} {D : Nat → FuncData}
def sp_plus (K : PySem.W.Frag) : Sp := fun vs H Q _ => ∃ (s t : Addr) (a b c d : Int), vs = [.ref s, .ref t] ∧ SqT K H s [.int a, .int b] ∧ SqT K H t [.int c, .int d] ∧ b * d ≠ 0 ∧ Bg a ∧ Bg b ∧ Bg c ∧ Bg d ∧ Bg (b * d) ∧
  ∀ (H' : Hp) (p : Addr), Same H H' → H p = none → H' p = some (.tup [.int (fA (a * d + c * b) (b * d)), .int (fB (a * d + c * b) (b * d))]) → Q (.ref p) H'
theorem Txt.ok_plus (T : Txt K mg A D) : FnOk P w K mg base CX0 3 (A 14) (D 14) ["one", "other"] (sp_plus K) := by
  refine T.F_plus.ok sc_plus (fun vs H Q E h => ?_) (fun cdv Ar outer s H vs Q E hr h => ?_)
  · obtain ⟨s, t, a, b, c, d, rfl, _⟩ := h
    rfl
  · obtain ⟨s1, t1, a, b, c, d, rfl, h1, h2, n0, ba, bb, bc, bd, bp, q⟩ := h
    refine ⟨_, (pss_one (ps_ret (pe_call (T.ok_frac) hr (by rfl) T.g_frac T.k_frac T.b_frac .nil pass0 (pa_cons (pe_op op_add (pe_op op_mulW (pe_ix ix_tup (pv 0) pe_int (fun _ _ => rfl)) (pe_ix ix_tup (pv 1) pe_int (fun _ _ => rfl))) (pe_op op_mulW (pe_ix ix_tup (pv 1) pe_int (fun _ _ => rfl)) (pe_ix ix_tup (pv 0) pe_int (fun _ _ => rfl)))) (pa_cons (pe_op op_mulW (pe_ix ix_tup (pv 0) pe_int (fun _ _ => rfl)) (pe_ix ix_tup (pv 1) pe_int (fun _ _ => rfl))) pa_nil))))), ?_⟩
    refine ⟨_, rfl, s1, _, _, _, rfl, rfl, h1, ix0, _, rfl, t1, _, _, _, rfl, rfl, h2, ix1, _, _, rfl, rfl, ba.mulW bd, ?_⟩
    refine ⟨_, rfl, t1, _, _, _, rfl, rfl, h2, ix0, _, rfl, s1, _, _, _, rfl, rfl, h1, ix1, _, _, rfl, rfl, bc.mulW bb, _, _, rfl, rfl, ?_⟩
    refine ⟨_, rfl, s1, _, _, _, rfl, rfl, h1, ix1, _, rfl, t1, _, _, _, rfl, rfl, h2, ix1, _, _, rfl, rfl, bb.mulW bd, ?_⟩
    exact ⟨a * d + c * b, b * d, rfl, n0, bp, fun H' p sm hp he => q H' p sm hp he⟩
def sp_times (K : PySem.W.Frag) : Sp := fun vs H Q _ => ∃ (s t : Addr) (a b c d : Int), vs = [.ref s, .ref t] ∧ SqT K H s [.int a, .int b] ∧ SqT K H t [.int c, .int d] ∧ b * d ≠ 0 ∧ Bg a ∧ Bg b ∧ Bg c ∧ Bg d ∧ Bg (b * d) ∧
  ∀ (H' : Hp) (p : Addr), Same H H' → H p = none → H' p = some (.tup [.int (fA (a * c) (b * d)), .int (fB (a * c) (b * d))]) → Q (.ref p) H'
theorem Txt.ok_times (T : Txt K mg A D) : FnOk P w K mg base CX0 3 (A 15) (D 15) ["one", "other"] (sp_times K) := by
  refine T.F_times.ok sc_times (fun vs H Q E h => ?_) (fun cdv Ar outer s H vs Q E hr h => ?_)
  · obtain ⟨s, t, a, b, c, d, rfl, _⟩ := h
    rfl
  · obtain ⟨s1, t1, a, b, c, d, rfl, h1, h2, n0, ba, bb, bc, bd, bp, q⟩ := h
    refine ⟨_, (pss_one (ps_ret (pe_call (T.ok_frac) hr (by rfl) T.g_frac T.k_frac T.b_frac .nil pass0 (pa_cons (pe_op op_mulW (pe_ix ix_tup (pv 0) pe_int (fun _ _ => rfl)) (pe_ix ix_tup (pv 1) pe_int (fun _ _ => rfl))) (pa_cons (pe_op op_mulW (pe_ix ix_tup (pv 0) pe_int (fun _ _ => rfl)) (pe_ix ix_tup (pv 1) pe_int (fun _ _ => rfl))) pa_nil))))), ?_⟩
    refine ⟨_, rfl, s1, _, _, _, rfl, rfl, h1, ix0, _, rfl, t1, _, _, _, rfl, rfl, h2, ix0, _, _, rfl, rfl, ba.mulW bc, ?_⟩
    refine ⟨_, rfl, s1, _, _, _, rfl, rfl, h1, ix1, _, rfl, t1, _, _, _, rfl, rfl, h2, ix1, _, _, rfl, rfl, bb.mulW bd, ?_⟩
    exact ⟨a * c, b * d, rfl, n0, bp, fun H' p sm hp he => q H' p sm hp he⟩
def sp_till_sum (K : PySem.W.Frag) : Sp := fun vs H Q _ => ∃ (Z : Addr → Prop) (v : V) (x y : Int) (m n : Nat), vs = [v, .int (m : Int), .int (n : Int)] ∧ (DK.till x y).ok ∧ Dx K Z H v (tillD x y) ∧ m ≤ 61 ∧ n ≤ 61 ∧
  ∀ (H' : Hp) (p : Addr), Same H H' → H' p = some (.tup [.int (fA ((DK.till x y).c m n) ((DK.till x y).b m n)), .int (fB ((DK.till x y).c m n) ((DK.till x y).b m n))]) → Q (.ref p) H'
theorem Txt.ok_till_sum (T : Txt K mg A D) : FnOk P w K mg base CX0 3 (A 20) (D 20) ["die", "many", "number"] (sp_till_sum K) := by
  refine T.F_till_sum.ok sc_till_sum (fun vs H Q E h => ?_) (fun cdv Ar outer s H vs Q E hr h => ?_)
  · obtain ⟨Z, v, x, y, m, n, rfl, _⟩ := h
    rfl
  · obtain ⟨Z, v, x, y, m, n, rfl, ok, hd, hm, hn, q⟩ := h
    refine ⟨_, (pss_cons (ps_asg (pe_ix ix_tup (pv 0) pe_int (fun _ _ => rfl)) (pg_tup rfl (pgs_cons (pg_name (i := 3) sc_till_sum.nd rfl (Or.inl rfl)) (pgs_cons (pg_name (i := 4) sc_till_sum.nd rfl (Or.inl rfl)) pgs_nil))))
    (pss_cons (ps_asg (pe_tup (pa_cons pe_int (pa_cons pe_int pa_nil))) (pg_tup rfl (pgs_cons (pg_name (i := 5) sc_till_sum.nd rfl (Or.inl rfl)) (pgs_cons (pg_name (i := 6) sc_till_sum.nd rfl (Or.inl rfl)) pgs_nil))))
    (pss_cons (ps_for PassesOwn.never rfl (pi_range2 rfl T.range (pa_cons pe_int (pa_cons (pe_op op_add (pv 2) pe_int) pa_nil))) (pg_name (i := 7) sc_till_sum.nd rfl (Or.inl rfl)) (pss_one (ps_set (i := 5) sc_till_sum.nd rfl (Or.inl rfl) (pe_op op_fdivN (pe_op op_mulW (pv 5) (pe_op op_add (pe_op op_sub (pv 1) pe_int) (pv 7))) (pv 7)))))
    (pss_cons (ps_for PassesOwn.never rfl (pi_range1 rfl T.range (pa_cons (pv 1) pa_nil)) (pg_name (i := 7) sc_till_sum.nd rfl (Or.inl rfl)) (pss_one (ps_par (i := 5) (j := 6) rfl sc_till_sum.nd rfl rfl (by decide) rfl rfl (pa_cons (pe_op op_mulW (pv 5) (pv 3)) (pa_cons (pe_op op_mulW (pv 6) (pv 4)) pa_nil)) (by rfl))))
    (pss_cons (ps_for PassesOwn.never rfl (pi_range1 rfl T.range (pa_cons (pv 2) pa_nil)) (pg_name (i := 7) sc_till_sum.nd rfl (Or.inl rfl)) (pss_one (ps_par (i := 5) (j := 6) rfl sc_till_sum.nd rfl rfl (by decide) rfl rfl (pa_cons (pe_op op_mulW (pv 5) (pe_op op_sub (pv 4) (pv 3))) (pa_cons (pe_op op_mulW (pv 6) (pv 4)) pa_nil)) (by rfl))))
    (pss_one (ps_ret (pe_call (T.ok_frac) hr (by rfl) T.g_frac T.k_frac T.b_frac .nil pass0 (pa_cons (pv 5) (pa_cons (pv 6) pa_nil)))))))))), ?_⟩
    obtain ⟨a, u, rfl, hA, hu⟩ := dx_word hd
    obtain ⟨b, rfl, hB⟩ := dx_prD hu
    have x1 := ok.1.pos
    have x2 := ok.1.lt
    have y2 := ok.2
    have xb : x.natAbs < 2 ^ 4 := by show x.natAbs < 16; omega
    have yb : y.natAbs < 2 ^ 4 := by show y.natAbs < 16; omega
    have zb : (y - x).natAbs < 2 ^ 4 := by show (y - x).natAbs < 16; omega
    refine ⟨_, rfl, a, _, _, _, rfl, rfl, hA, ix1, b, _, rfl, hB, rfl, _, _, rfl, _, _, rfl, rfl, ?_⟩
    refine ⟨(by show 2 ≤ sizeLine; decide), fun t0 k0 => ⟨t0, _, rfl, SqT.of upd_same, rfl, _, _, rfl, _, _, rfl, rfl, ?_⟩⟩
    have s0 := same_new (o := .tup [.int 1, .int 1]) k0
    revert s0
    generalize upd H t0 (HO.tup [.int 1, .int 1]) = H0
    intro s0
    have en : ((n : Int) + 1 - 1).toNat = n := by omega
    refine ⟨_, rfl, _, _, rfl, rfl, 1, (n : Int) + 1, rfl, ⟨by decide, by decide, by omega, by omega⟩, for_range (lo := 1) (n := ((n : Int) + 1 - 1).toNat) (fun i σ H' => H' = H0 ∧ ∃ y7 : Option V, σ = [some (.ref a), some (.int (m : Int)), some (.int (n : Int)), some (.int x), some (.int y), some (.int (Cc m i)), some (.int 1), y7]) ⟨rfl, none, by rw [Cc_zero]; rfl⟩ ?_ ?_⟩
    · rintro i σ H2 hi ⟨rfl, y7, rfl⟩
      have cs := Cc_size m i
      refine ⟨_, rfl, _, rfl, _, _, rfl, rfl, _, rfl, _, _, rfl, rfl, _, _, rfl, rfl, wide_mul (b := 10) cs (by show ((m : Int) - 1 + (1 + (i : Int))).natAbs < 1024; omega) (Nat.succ_pos _) (by decide) (by omega), _, rfl, _, _, rfl, rfl, ⟨by omega, by omega⟩, rfl, some (.int (1 + (i : Int))), ?_⟩
      have e : (Cc m i * ((m : Int) - 1 + (1 + (i : Int)))).fdiv (1 + (i : Int)) = Cc m (i + 1) := by
        have h := Cc_A m i
        have e1 : (m : Int) - 1 + (1 + (i : Int)) = (m : Int) + i := by omega
        have e2 : (1 + (i : Int)) = (i : Int) + 1 := by omega
        rw [e1, e2, Int.mul_comm, ← h, Int.mul_fdiv_cancel_left _ (by omega)]
      rw [← e]
      rfl
    rintro σ H2 ⟨rfl, y7, rfl⟩
    rw [en]
    have cn := Cc_size m n
    refine ⟨_, rfl, _, rfl, by omega, by omega, for_range (lo := 0) (n := ((m : Int)).toNat) (fun i σ H' => H' = H2 ∧ ∃ y7 : Option V, σ = [some (.ref a), some (.int (m : Int)), some (.int (n : Int)), some (.int x), some (.int y), some (.int (Cc m n * x ^ i)), some (.int (y ^ i)), y7]) ⟨rfl, y7, by rw [Int.pow_zero, Int.pow_zero, Int.mul_one]⟩ ?_ ?_⟩
    · rintro i σ H3 hi ⟨rfl, y7, rfl⟩
      refine ⟨_, rfl, _, rfl, _, _, rfl, rfl, wide_mul (wide_lt cn (pow_lt xb i)) xb (by omega) (by decide) (by omega), _, rfl, _, rfl, _, _, rfl, rfl, wide_mul (pow_lt yb i) yb (Nat.succ_pos _) (by decide) (by omega), _, _, rfl, rfl, some (.int (0 + (i : Int))), ?_⟩
      rw [Int.pow_succ, Int.pow_succ, ← Int.mul_assoc]
      rfl
    rintro σ H3 ⟨rfl, y7, rfl⟩
    rw [show ((m : Int)).toNat = m by omega]
    refine ⟨_, rfl, _, rfl, by omega, by omega, for_range (lo := 0) (n := ((n : Int)).toNat) (fun i σ H' => H' = H3 ∧ ∃ y7 : Option V, σ = [some (.ref a), some (.int (m : Int)), some (.int (n : Int)), some (.int x), some (.int y), some (.int (Cc m n * x ^ m * (y - x) ^ i)), some (.int (y ^ (m + i))), y7]) ⟨rfl, y7, by rw [Int.pow_zero, Int.mul_one, Nat.add_zero]⟩ ?_ ?_⟩
    · rintro i σ H4 hi ⟨rfl, y7, rfl⟩
      refine ⟨_, rfl, _, rfl, _, rfl, _, _, rfl, rfl, _, _, rfl, rfl, wide_mul (wide_lt (wide_lt cn (pow_lt xb m)) (pow_lt zb i)) zb (by omega) (by decide) (by omega), _, rfl, _, rfl, _, _, rfl, rfl, wide_mul (pow_lt yb (m + i)) yb (Nat.succ_pos _) (by decide) (by omega), _, _, rfl, rfl, some (.int (0 + (i : Int))), ?_⟩
      rw [Int.pow_succ, ← Nat.add_assoc, Int.pow_succ, ← Int.mul_assoc]
      rfl
    rintro σ H4 ⟨rfl, y7, rfl⟩
    rw [show ((n : Int)).toNat = n by omega]
    have bp := DK.bpos ok m n
    have bs := DK.bsize ok (m := m) (n := n) (by omega)
    refine ⟨_, rfl, _, rfl, _, _, rfl, ?_, ?_, fun H' p sm hp e => q H' p (s0.trans sm) ?_⟩
    · have : 0 < y ^ (m + n) := bp
      omega
    · exact Nat.lt_trans bs (Nat.pow_lt_pow_right (by decide) (by decide))
    · rw [Int.mul_assoc] at e
      exact e
theorem Txt.kb_sum_share (T : Txt K mg A D) : KB0 K (D 6) ["die", "many", "number"] ["number", "many", "die"] [2, 1, 0] := by
  obtain ⟨c1, c2, c3, c4, c5, c6, c7, c8, c9, e, lk, hcd⟩ := T.F_sum_share.ex
  rw [e]
  refine ⟨fun s ws _ hl => ?_⟩
  match ws, hl with
  | [x, y, z], _ => exact .of_eq rfl
def sp_is_told (K : PySem.W.Frag) : Sp := fun vs H Q _ => ∃ (Z Z2 : Addr → Prop) (v u : V) (k : DK) (m n : Nat) (b : Bool), vs = [v, .int (m : Int), .int (n : Int), u, .bl b] ∧ k.ok ∧ Dx K Z H v k.data ∧ Dx K Z2 H u (frD5 k m n) ∧ m ≤ 61 ∧ n ≤ 61 ∧
  ∀ H', Same H H' → Q (.bl true) H'
theorem Txt.ok_is_told (T : Txt K mg A D) : FnG P w K mg base CX0 5 (A 22) (D 22) ["die", "many", "number", "due", "is_named"] (sp_is_told K) := by
  refine okG T.F_is_told sc_is_told (fun vs H Q E h => ?_) (fun cdv Ar outer s H vs Q E hA hr h => ?_)
  · obtain ⟨Z, Z2, v, u, k, m, n, b, rfl, _⟩ := h
    rfl
  · obtain ⟨Z, Z2, v, u, k, m, n, b, rfl, ok, hd, hu, hm, hn, q⟩ := h
    have hG : (Ar.deeper (envOfC (Str.ofString "_law_is_told") (defScope s_is_told) s.heap.objs.size (A 22) cdv)).guards = some [] := hA
    refine ⟨_, (C8.pss_cut (ps_set (i := 5) sc_is_told.nd rfl (Or.inl rfl) (pe_ifExp (pt_val (pv 4)) (pe_callK0 T.ok_sum_share hr (by rfl) T.g_sum_share T.k_sum_share T.kb_sum_share pass0 (pk_cons (pv 2) (pk_cons (pv 1) (pk_cons (pv 0) pk_nil)))) (pe_call (T.ok_sum_share) hr (by rfl) T.g_sum_share T.k_sum_share T.b_sum_share .nil pass0 (pa_cons (pv 0) (pa_cons (pv 1) (pa_cons (pv 2) pa_nil))))))
    (pss_one (ps_ret (pe_cmpR op_eq (pe_callB (call_reprX hG hr.units) (by rfl) T.z_repr (by decide +kernel) (pa_cons (pe_lst (pa_cons (pv 5) (pa_cons (pe_call (T.ok_sum_share) hr (by rfl) T.g_sum_share T.k_sum_share T.b_sum_share .nil pass0 (pa_cons (pv 0) (pa_cons (pv 1) (pa_cons (pv 2) pa_nil)))) pa_nil))) pa_nil)) (pe_callB (call_reprX hG hr.units) (by rfl) T.z_repr (by decide +kernel) (pa_cons (pe_lst (pa_cons (pv 3) (pa_cons (pv 3) pa_nil))) pa_nil)) (nomark _))))), ?_⟩
    have dt := fr_dt ok hm hn
    have dtl : Dt 10 3 (.list [frD5 k m n, frD5 k m n]) := (Dts.list (Dts.cons dt (Dts.cons dt Dts.nil))).le (by decide) (by decide)
    obtain ⟨sh1, sh2, sh3⟩ := dtl.show (by decide) (by decide)
    refine ⟨fun σ' H' => ∃ p : Addr, σ' = [some v, some (.int (m : Int)), some (.int (n : Int)), some u, some (.bl b), some (.ref p)] ∧ Same H H' ∧ Dx K NoP H' (.ref p) (frD5 k m n), ?_, ?_⟩
    · refine ⟨_, rfl, _, rfl, ite2 (fun _ => ?_) (fun _ => ?_)⟩
      · refine ⟨_, rfl, _, rfl, _, rfl, rfl, ?_⟩
        show sp_sum_share K [v, .int (m : Int), .int (n : Int)] H _ E0
        exact sum_dk ok hd m n (by omega) fun H' p sm e => ⟨p, rfl, sm, prD_dx (SqT.of e)⟩
      · refine ⟨_, rfl, _, rfl, _, rfl, ?_⟩
        dsimp only [tNil]
        show sp_sum_share K [v, .int (m : Int), .int (n : Int)] H _ E0
        exact sum_dk ok hd m n (by omega) fun H' p sm e => ⟨p, rfl, sm, prD_dx (SqT.of e)⟩
    rintro σ' H1 ⟨p, rfl, sm1, d1⟩
    refine ⟨_, rfl, _, rfl, _, rfl, _, rfl, ?_⟩
    dsimp only [tNil]
    show sp_sum_share K [v, .int (m : Int), .int (n : Int)] H1 _ E0
    refine sum_dk ok (dx_same sm1 hd) m n (by omega) fun H2 p2 sm2 e2 => ?_
    refine ⟨(by show 2 ≤ sizeLine; decide), fun l1 k1 => ⟨_, .list [frD5 k m n, frD5 k m n], fun a => a = l1, rfl, ?_, sh1, sh2, sh3, ?_⟩⟩
    · have s1 := same_new (o := .lst [.ref p, .ref p2]) k1
      exact .lst upd_same rfl (.cons (dx_monoL (fun _ z => z.elim) (dx_same (sm2.trans s1) d1)) (.cons (dx_monoL (Z := NoP) (fun _ z => z.elim) (prD_dx (SqT.of (s1 _ _ e2)))) .nil))
    · have s1 := same_new (o := .lst [.ref p, .ref p2]) k1
      refine ⟨_, rfl, _, rfl, (by show 2 ≤ sizeLine; decide), fun l2 k2 => ⟨_, .list [frD5 k m n, frD5 k m n], fun a => a = l2 ∨ Z2 a, rfl, ?_, sh1, sh2, sh3, rfl, ?_⟩⟩
      · have s2 := same_new (o := .lst [u, u]) k2
        have du := dx_monoL (Z' := fun a => a = l2 ∨ Z2 a) (fun _ z => .inr z) (dx_same (((sm1.trans sm2).trans s1).trans s2) hu)
        exact .lst upd_same (.inl rfl) (.cons du (.cons du .nil))
      · rw [decide_eq_true rfl]
        exact q _ (((sm1.trans sm2).trans s1).trans (same_new k2))
end
end Ev

set_option exponentiation.threshold 20000
namespace Ev
open PySem PySem.Spec PyProof.Rows L2
section
variable {P : Program} {w : World} {K : PySem.W.Frag} {mg : Str → Option Value} {base : Heap} {A : Nat → Addr} {D : Nat → FuncData}
def sp_are_many_told : Sp := fun vs H Q _ => ∃ (L F : Addr), vs = [.ref L] ∧ Lm H L F ∧ ∀ H', Kp L F H H' → Lm H' L F → Q (.bl true) H'
theorem Txt.ok_are_many_told (T : Txt K mg A D) : FnG P w K mg base CX0 6 (A 21) (D 21) ["loom"] sp_are_many_told := by
  refine okG T.F_are_many_told sc_are_many_told (fun vs H Q E h => ?_) (fun cdv Ar outer s H vs Q E hA hr h => ?_)
  · obtain ⟨L, F, rfl, _⟩ := h
    rfl
  · obtain ⟨L, F, rfl, hM, q⟩ := h
    have hG : (Ar.deeper (envOfC (Str.ofString "_law_are_many_told") (defScope s_are_many_told) s.heap.objs.size (A 21) cdv)).guards = some [] := hA
    refine ⟨_, (pss_cons (ps_set (i := 1) sc_are_many_told.nd rfl (Or.inl rfl) (pe_tup (pa_cons pe_str (pa_cons (pe_call (T.ok_share) (hr.mono (by decide)) (by rfl) T.g_share T.k_share T.b_share .nil pass0 (pa_cons (pv 0) (pa_cons (pe_call (T.ok_pick) (hr.mono (by decide)) (by rfl) T.g_pick T.k_pick T.b_pick .nil pass0 (pa_cons (pv 0) (pa_cons (pe_lst (pa_cons pe_int (pa_cons pe_int (pa_cons pe_int (pa_cons pe_int pa_nil))))) pa_nil))) pa_nil))) pa_nil))))
    (pss_cons (ps_set (i := 2) sc_are_many_told.nd rfl (Or.inl rfl) (pe_call (T.ok_pick) (hr.mono (by decide)) (by rfl) T.g_pick T.k_pick T.b_pick .nil pass0 (pa_cons (pv 0) (pa_cons (pe_lst (pa_cons pe_int (pa_cons pe_int (pa_cons pe_int (pa_cons pe_int (pa_cons pe_int (pa_cons (pe_call (T.ok_draw) (hr.mono (by decide)) (by rfl) T.g_draw T.k_draw T.b_draw .nil pass0 (pa_cons (pv 0) (pa_cons pe_int pa_nil))) pa_nil))))))) pa_nil))))
    (pss_cons (ps_set (i := 3) sc_are_many_told.nd rfl (Or.inl rfl) (pe_call (T.ok_pick) (hr.mono (by decide)) (by rfl) T.g_pick T.k_pick T.b_pick .nil pass0 (pa_cons (pv 0) (pa_cons (pe_lst (pa_cons pe_int (pa_cons pe_int (pa_cons pe_int (pa_cons pe_int (pa_cons pe_int (pa_cons (pe_call (T.ok_draw) (hr.mono (by decide)) (by rfl) T.g_draw T.k_draw T.b_draw .nil pass0 (pa_cons (pv 0) (pa_cons pe_int pa_nil))) pa_nil))))))) pa_nil))))
    (pss_cons (ps_if (pt_not (pt_val (pe_callG (T.ok_is_told) hG hr (by rfl) T.g_is_told T.k_is_told T.b_is_told pass0 (pa_cons (pv 1) (pa_cons (pv 2) (pa_cons (pv 3) (pa_cons (pe_call (T.ok_till_sum) (hr.mono (by decide)) (by rfl) T.g_till_sum T.k_till_sum T.b_till_sum .nil pass0 (pa_cons (pv 1) (pa_cons (pv 2) (pa_cons (pv 3) pa_nil)))) (pa_cons pe_bl pa_nil)))))))) (pss_one (ps_ret pe_bl)) pss_nil)
    (pss_cons (ps_if (pt_cmpR op_gt (pe_call (T.ok_draw) (hr.mono (by decide)) (by rfl) T.g_draw T.k_draw T.b_draw .nil pass0 (pa_cons (pv 0) (pa_cons pe_int pa_nil))) pe_int (nomark _)) (pss_one (ps_ret pe_bl)) pss_nil)
    (pss_cons (ps_set (i := 4) sc_are_many_told.nd rfl (Or.inl rfl) (pe_callB cr_sorted (by rfl) T.z_sorted (by decide +kernel) (pa_cons (pe_slice sl_list (pe_call (T.ok_mixed) (hr.mono (by decide)) (by rfl) T.g_mixed T.k_mixed T.b_mixed .nil pass0 (pa_cons (pv 0) (pa_cons (pe_listRg rfl (by rfl) T.z_list (prg_1 (by rfl) T.range pe_int)) pa_nil))) po_none (po_some (pe_op op_add pe_int (pe_call (T.ok_draw) (hr.mono (by decide)) (by rfl) T.g_draw T.k_draw T.b_draw .nil pass0 (pa_cons (pv 0) (pa_cons pe_int pa_nil)))))) pa_nil)))
    (pss_cons (ps_set (i := 5) sc_are_many_told.nd rfl (Or.inr rfl) (pe_lc (own := [("own", 7)]) (g := gName 7) (tt := tYes) rfl sc_are_many_told.nd (pi_list (pv 4)) (blkOk_by (N := ["loom", "till", "many", "number", "shown", "parts", "die", "own", "part"]) (sc := defScope s_are_many_told) (by decide +kernel)) (fun _ _ _ _ _ => pg_name (i := 7) sc_are_many_told.nd rfl (Or.inl rfl)) (fun _ _ _ _ _ => pts_nil) (fun _ _ _ _ _ => (pe_op op_add pe_int (pe_call (T.ok_draw) (hr.mono (by decide)) (by rfl) T.g_draw T.k_draw T.b_draw .nil pass0 (pa_cons (pv 0) (pa_cons pe_int pa_nil)))))))
    (pss_cons (ps_set (i := 6) sc_are_many_told.nd rfl (Or.inl rfl) (pe_tup (pa_cons pe_str (pa_cons (pe_callTy call_tuple_of (by rfl) T.z_tuple (by decide +kernel) (pa_cons (pe_lc (own := [("own", 7), ("part", 8)]) (g := gTup K 2 (gCons (gName 7) (gCons (gName 8) gNil))) (tt := tYes) rfl sc_are_many_told.nd (pi_zip (by rfl) T.zip (pa_cons (pv 4) (pa_cons (pv 5) pa_nil))) (blkOk_by (N := ["loom", "till", "many", "number", "shown", "parts", "die", "own", "part"]) (sc := defScope s_are_many_told) (by decide +kernel)) (fun _ _ _ _ _ => (pg_tup rfl (pgs_cons (pg_name (i := 7) sc_are_many_told.nd rfl (Or.inl rfl)) (pgs_cons (pg_name (i := 8) sc_are_many_told.nd rfl (Or.inl rfl)) pgs_nil)))) (fun _ _ _ _ _ => pts_nil) (fun _ _ _ _ _ => (pe_tup (pa_cons (pv 7) (pa_cons (pe_call (T.ok_frac) (hr.mono (by decide)) (by rfl) T.g_frac T.k_frac T.b_frac .nil pass0 (pa_cons (pv 8) (pa_cons (pe_callB (show CallR _ _ (rSum K) from cr_sum rfl) (by rfl) T.z_sum (by decide +kernel) (pa_cons (pv 5) pa_nil)) pa_nil))) pa_nil))))) pa_nil)) pa_nil))))
    (pss_cons (ps_par (i := 2) (j := 3) rfl sc_are_many_told.nd rfl rfl (by decide) rfl rfl (pa_cons (pe_op op_add pe_int (pe_call (T.ok_draw) (hr.mono (by decide)) (by rfl) T.g_draw T.k_draw T.b_draw .nil pass0 (pa_cons (pv 0) (pa_cons pe_int pa_nil)))) (pa_cons (pe_call (T.ok_draw) (hr.mono (by decide)) (by rfl) T.g_draw T.k_draw T.b_draw .nil pass0 (pa_cons (pv 0) (pa_cons pe_int pa_nil))) pa_nil)) (by rfl))
    (pss_one (ps_ret (pe_callG (T.ok_is_told) hG hr (by rfl) T.g_is_told T.k_is_told T.b_is_told pass0 (pa_cons (pv 6) (pa_cons (pv 2) (pa_cons (pv 3) (pa_cons (pe_ix ix_list (pe_call (T.ok_summed) (hr.mono (by decide)) (by rfl) T.g_summed T.k_summed T.b_summed .nil pass0 (pa_cons (pv 6) (pa_cons (pv 2) (pa_cons (pv 3) pa_nil)))) (pv 3) (fun _ _ => rfl)) (pa_cons pe_bl pa_nil))))))))))))))))), ?_⟩
    -- a till
    refine ⟨_, rfl, _, rfl, (by show 4 ≤ sizeLine; decide), fun a1 b1 => ?_⟩
    have n1 := hM.ne b1
    refine ⟨L, F, a1, _, rfl, hM.new b1, SqL.of upd_same, n1.1, n1.2, (by show 0 < 4; decide), (by show 4 < 1073741824; decide), fun Ha i0 x0 kpa hMa hx => ?_⟩
    have kp3 := (Kp.new b1).trans kpa
    obtain ⟨m0, rfl, m2, m12⟩ : ∃ m : Int, x0 = .int m ∧ 2 ≤ m ∧ m ≤ 12 := by
      have hx' := List.mem_of_getElem? hx
      simp only [List.mem_cons, List.not_mem_nil, or_false] at hx'
      rcases hx' with rfl | rfl | rfl | rfl
      · exact ⟨2, rfl, by decide, by decide⟩
      · exact ⟨3, rfl, by decide, by decide⟩
      · exact ⟨5, rfl, by decide, by decide⟩
      · exact ⟨12, rfl, by decide, by decide⟩
    refine ⟨L, F, m0, rfl, hMa, by omega, m2, fun Hb t x y kpb hMb ht sh hy => ⟨(by show 2 ≤ sizeLine; decide), fun p2 hp2 => ?_⟩⟩
    have dxt : Dx K (ZL L F) (upd Hb p2 (.tup [.str "till", .ref t])) (.ref p2) (tillD x y) := by
      refine .tup (SqT.of upd_same) (.cons (.str _) (.cons (.tup (xs := [.int x, .int y]) (SqT.of ?_) (.cons (.int _) (.cons (.int _) .nil))) .nil))
      rw [upd_ne (ne_of_none ht hp2)]
      exact ht
    have ok0 : (DK.till x y).ok := ⟨sh, by omega⟩
    have hMc := hMb.new (o := .tup [.str "till", .ref t]) hp2
    have kpc := (kp3.trans kpb).trans (Kp.new (o := .tup [.str "till", .ref t]) hp2)
    revert dxt hMc kpc
    generalize upd Hb p2 (HO.tup [.str "till", .ref t]) = Hc
    intro dxt hMc kpc
    -- how many, which number
    refine ⟨_, rfl, _, rfl, L, F, 61, rfl, hMc, by decide, fun Hd c1 kpd hMd c10 c11 => ⟨(by show 6 ≤ sizeLine; decide), fun a2 b2 => ?_⟩⟩
    have n2 := hMd.ne b2
    refine ⟨L, F, a2, _, rfl, hMd.new b2, SqL.of upd_same, n2.1, n2.2, (by show 0 < 6; decide), (by show 6 < 1073741824; decide), fun He i1 x1 kpe hMe hx1 => ?_⟩
    obtain ⟨mm, rfl, mm60⟩ : ∃ mm : Nat, x1 = .int (mm : Int) ∧ mm ≤ 60 := by
      have hx' := List.mem_of_getElem? hx1
      simp only [List.mem_cons, List.not_mem_nil, or_false] at hx'
      rcases hx' with rfl | rfl | rfl | rfl | rfl | rfl
      · exact ⟨2, rfl, by decide⟩
      · exact ⟨9, rfl, by decide⟩
      · exact ⟨20, rfl, by decide⟩
      · exact ⟨40, rfl, by decide⟩
      · exact ⟨60, rfl, by decide⟩
      · exact ⟨c1.toNat, by rw [Int.toNat_of_nonneg c10], by omega⟩
    refine ⟨_, rfl, _, rfl, L, F, 61, rfl, hMe, by decide, fun Hf c2 kpf hMf c20 c21 => ⟨(by show 6 ≤ sizeLine; decide), fun a3 b3 => ?_⟩⟩
    have n3 := hMf.ne b3
    refine ⟨L, F, a3, _, rfl, hMf.new b3, SqL.of upd_same, n3.1, n3.2, (by show 0 < 6; decide), (by show 6 < 1073741824; decide), fun Hg i2 x2 kpg hMg hx2 => ?_⟩
    obtain ⟨nn, rfl, nn60⟩ : ∃ nn : Nat, x2 = .int (nn : Int) ∧ nn ≤ 60 := by
      have hx' := List.mem_of_getElem? hx2
      simp only [List.mem_cons, List.not_mem_nil, or_false] at hx'
      rcases hx' with rfl | rfl | rfl | rfl | rfl | rfl
      · exact ⟨17, rfl, by decide⟩
      · exact ⟨20, rfl, by decide⟩
      · exact ⟨30, rfl, by decide⟩
      · exact ⟨59, rfl, by decide⟩
      · exact ⟨60, rfl, by decide⟩
      · exact ⟨c2.toNat, by rw [Int.toNat_of_nonneg c20], by omega⟩
    have kpg' := (((kpd.trans (Kp.new b2)).trans kpe).trans kpf).trans ((Kp.new b3).trans kpg)
    have dxg := dx_kp kpg' hMc dxt
    refine ⟨_, rfl, _, rfl, _, rfl, _, rfl, _, rfl, _, rfl, ZL L F, .ref p2, x, y, mm, nn, rfl, ok0, dxg, by omega, by omega, fun Hh ph smh eh => ?_⟩
    refine ⟨ZL L F, NoP, .ref p2, .ref ph, .till x y, mm, nn, false, rfl, ok0, dx_same smh dxg, prD_dx (SqT.of eh), by omega, by omega, fun Hi smi => ⟨_, rfl, ite2 (fun e => absurd e (by decide)) (fun _ => ?_)⟩⟩
    have hMi := hMg.same (smh.trans smi)
    have kpi := (kpc.trans kpg').trans (kp_same (smh.trans smi))
    refine ⟨_, rfl, L, F, 3, rfl, hMi, by decide, fun H1 c3 kp1' hM1 c30 c31 => ⟨_, _, rfl, rfl, _, rfl, ite2 (fun _ => q _ (kpi.trans kp1') hM1) (fun _ => ?_)⟩⟩
    have kp1 := kpi.trans kp1'
    clear kpi kp1' hMi dxg kpg' dxt kpc hMc
    refine ⟨_, rfl, 10, rfl, RgOk.of_le (by decide) (by decide) (by decide) (by decide), fun p hp => ?_⟩
    have np := hM1.ne hp
    have e10 : rgV 0 10 = ([0, 1, 2, 3, 4, 5, 6, 7, 8, 9] : List Int).map V.int := rfl
    rw [e10]
    refine ⟨L, F, p, _, (([0, 1, 2, 3, 4, 5, 6, 7, 8, 9] : List Int).map PyData.int), rfl, hM1.new hp, .inl (SqL.of upd_same), (by decide), dx_ints _, by decide, by decide, fun H2 p2 ys es kp2 hM2 _ hp2 n1 n2 dx pm => ?_⟩
    obtain ⟨ns, rfl, pmn⟩ := perm_ints pm
    have ey := ints_of_dx dx
    subst ey
    have kp3 := (kp1.trans (Kp.new hp)).trans kp2
    -- how many
    refine ⟨_, rfl, L, F, 4, rfl, hM2, by decide, fun H3 dr kp_draw hM3 dr0 drl => ⟨_, _, rfl, rfl, ?_⟩⟩
    have kp5 := kp3.trans kp_draw
    obtain ⟨m, hm3, m1, m6⟩ : ∃ m : Int, 3 + dr = m ∧ 1 ≤ m ∧ m ≤ 6 := ⟨3 + dr, rfl, by omega, by omega⟩
    have hp2' : H3 p2 = some (.lst (ns.map V.int)) := (kp_draw) _ _ n1 n2 hp2
    refine ⟨m, congrArg V.int hm3, p2, _, rfl, SqL.of hp2', fun p4 hp4 => ?_⟩
    rw [cut_take (show (0 : Int) ≤ m by omega), ← List.map_take]
    have hl10 : ns.length = 10 := pmn.length_eq
    have hlt : (ns.take m.toNat).length = m.toNat := by rw [List.length_take, hl10]; omega
    refine ⟨p4, ns.take m.toNat, rfl, SqL.of upd_same, by omega, fun sh p5 pms hs hp5 => ?_⟩
    have nd : ([0, 1, 2, 3, 4, 5, 6, 7, 8, 9] : List Int).Nodup := by decide
    have ndn : ns.Nodup := pmn.nodup_iff.mpr nd
    have ndt : (ns.take m.toNat).Nodup := ndn.sublist (List.take_sublist _ _)
    have nds : sh.Nodup := pms.nodup_iff.mpr ndt
    have lsh : sh.length = m.toNat := by rw [pms.length_eq, hlt]
    have up : sh.Pairwise (· < ·) := (hs.and nds).imp fun h => Int.lt_iff_le_and_ne.mpr h
    have rng : ∀ q ∈ sh, 0 ≤ q ∧ q ≤ 9 := fun q hq => by
      have h1 := List.mem_of_mem_take (pms.subset hq)
      have h2 := pmn.subset h1
      simp only [List.mem_cons, List.not_mem_nil, or_false] at h2
      omega
    have hM4 := hM3.new (o := .lst ((ns.take m.toNat).map V.int)) hp4
    have n5 := hM4.ne hp5
    have M5 := hM4.new (o := .lst (sh.map V.int)) hp5
    have kp6 := (kp5.trans (Kp.new hp4)).trans (Kp.new (o := .lst (sh.map V.int)) hp5)
    have e5 : (upd (upd H3 p4 (.lst ((ns.take m.toNat).map V.int))) p5 (.lst (sh.map V.int))) p5 = some (.lst (sh.map V.int)) := upd_same
    revert M5 kp6 e5
    generalize upd (upd H3 p4 (HO.lst ((ns.take m.toNat).map V.int))) p5 (HO.lst (sh.map V.int)) = G
    intro M5 kp6 e5
    -- the parts
    refine ⟨.ref p5, rfl, p5, rfl, ⟨_, SqL.of e5⟩, fun D1 hD1 => ?_⟩
    have nD := M5.ne hD1
    refine lc_list (K := K) (a := p5) (xs := sh.map V.int) (fun i H' => Kp L F G H' ∧ Lm H' L F ∧ ∃ acc : List Int, H' D1 = some (.lst (acc.map V.int)) ∧ acc.length = i ∧ ∀ x ∈ acc, 1 ≤ x ∧ x ≤ 4)
      ⟨Kp.new hD1, M5.new hD1, [], upd_same, rfl, fun x hx => nomatch hx⟩ (fun i H' _ z => SqL.of (z.1 _ _ n5.1 n5.2 e5)) ?_ ?_
    · rintro i x H4 hx ⟨kp7, hM7, acc, hA, la, hb⟩
      have hi : i < sh.length := by
        have := (List.getElem?_eq_some_iff.mp hx).1
        rw [List.length_map] at this
        exact this
      refine ⟨rfl, yes_of ?_⟩
      refine ⟨_, rfl, L, F, 4, rfl, hM7, by decide, fun H5 k2 kp8 hM8 k20 k2l => ⟨_, _, rfl, rfl, _, kp8 _ _ nD.1 nD.2 hA, small1000 (by rw [List.length_map]; omega), kp_put (kp7.trans kp8) hD1, lm_put hM8 nD.1 nD.2, acc ++ [1 + k2], ?_, ?_, ?_⟩⟩
      · rw [upd_same, List.map_append]
        rfl
      · rw [List.length_append, List.length_singleton, la]
      · intro y hy
        rcases List.mem_append.mp hy with z | z
        · exact hb y z
        · rw [List.mem_singleton.mp z]
          omega
    · rintro H4 ⟨kp7, hM7, parts, hA, la, hb⟩
      rw [List.length_map] at la
      have e6 := kp7 _ _ n5.1 n5.2 e5
      have s0 := sum_bounds hb
      have s1 : 1 ≤ parts.sum ∧ parts.sum ≤ 4 * parts.length := by omega
      have sb : Bg parts.sum := by
        show (parts.sum).natAbs < 2 ^ 8900
        exact Nat.lt_of_lt_of_le (show (parts.sum).natAbs < 2 ^ 20 by omega) (Nat.pow_le_pow_right (by decide) (by decide))
      refine ⟨_, rfl, _, rfl, p5, D1, _, _, rfl, SqL.of e6, SqL.of hA, fun D2 hD2 => ?_⟩
      refine lc_it (walk_zip rfl) (fun i H' => Same H4 H' ∧ ∃ ys : List V, H' D2 = some (.lst ys) ∧ DxAll K (fun _ => False) H' ys ((sidesD (sh.zip parts) parts.sum).take i)) ⟨same_new hD2, [], upd_same, .nil⟩ (fun i H' _ z => ⟨SqL.of (z.1 _ _ e6), SqL.of (z.1 _ _ hA)⟩) ?_ ?_
      · rintro i x H5 H6 hi ⟨sm, ys, hY, dY⟩ ⟨t, x1, y1, rfl, ht, rfl, hx1, hy1⟩
        obtain ⟨n0, hn0, rfl⟩ := int_at hx1
        obtain ⟨q0, hq0, rfl⟩ := int_at hy1
        have sm6 := sm.trans (same_new (o := .tup [.int n0, .int q0]) ht)
        have hY6 : (upd H5 t (.tup [.int n0, .int q0])) D2 = some (.lst ys) := same_new ht _ _ hY
        have dY6 := dxAll_same (same_new (o := .tup [.int n0, .int q0]) ht) dY
        have hz : (sidesD (sh.zip parts) parts.sum)[i]? = some (sideD n0 (fA q0 parts.sum) (fB q0 parts.sum)) := by
          unfold sidesD
          rw [List.getElem?_map, (List.getElem?_zip_eq_some (z := (n0, q0))).mpr ⟨hn0, hq0⟩]
          rfl
        refine ⟨t, _, rfl, SqT.of upd_same, rfl, _, _, rfl, _, _, rfl, rfl, ?_⟩
        refine ⟨rfl, yes_of ?_⟩
        refine ⟨_, rfl, _, rfl, _, rfl, D1, parts, rfl, SqL.of (sm6 _ _ hA), q0, parts.sum, rfl, by omega, sb, fun H7 t7 sm7 ht7 e7 => ⟨(by show 2 ≤ sizeLine; decide), fun p8 hp8 => ?_⟩⟩
        have sm8 := sm7.trans (same_new (o := .tup [.int n0, .ref t7]) hp8)
        refine ⟨ys, sm8 _ _ hY6, ?_, same_put (sm6.trans sm8) hD2, ys ++ [.ref p8], upd_same, ?_⟩
        · have := dxAll_len dY
          rw [List.length_take] at this
          have hi' : i < sh.length := by
            have h1 := hi
            rw [List.length_map, List.length_map] at h1
            omega
          have h2 : ys.length ≤ i := by
            rw [this]
            exact Nat.min_le_left _ _
          exact small1000 (by omega)
        · rw [List.take_add_one, hz]
          refine dxAll_upd (sm8 _ _ hY6) (fun _ z => z.elim) (dxAll_app (dxAll_same sm8 dY6) (.cons ?_ .nil))
          refine .tup (SqT.of upd_same) (.cons (.int _) (.cons (.tup (xs := [.int (fA q0 parts.sum), .int (fB q0 parts.sum)]) (SqT.of ?_) (.cons (.int _) (.cons (.int _) .nil))) .nil))
          rw [upd_ne (ne_of_none e7 hp8)]
          exact e7
      · rintro H5 ⟨sm, ys, hY, dY⟩
        have lz : (sh.zip parts).length = sh.length := by rw [List.length_zip]; omega
        have full : (sidesD (sh.zip parts) parts.sum).take (min (sh.map V.int).length (parts.map V.int).length) = sidesD (sh.zip parts) parts.sum := by
          refine List.take_of_length_le ?_
          unfold sidesD
          rw [List.length_map, lz, List.length_map, List.length_map]
          omega
        rw [full] at dY
        refine ⟨D2, ys, rfl, .inl ⟨SqL.of hY, fun p9 hp9 => ⟨(by show 2 ≤ sizeLine; decide), fun p10 hp10 => ?_⟩⟩⟩
        have sm9 := same_new (o := .tup ys) hp9
        have hM5 := hM7.same sm
        have sm10 := same_new (o := .tup [.str "die", .ref p9]) hp10
        have dxd : Dx K (ZL L F) (upd (upd H5 p9 (.tup ys)) p10 (.tup [.str "die", .ref p9])) (.ref p10) (DK.die (sh.zip parts) parts.sum).data := by
          refine .tup (SqT.of upd_same) (.cons (.str _) (.cons (.tup (SqT.of (sm10 _ _ upd_same)) ?_) .nil))
          exact dxAll_mono (fun _ _ _ z => z.elim) (dxAll_same (sm9.trans sm10) dY)
        have okd : (DK.die (sh.zip parts) parts.sum).ok := by
          have m1' : (sh.zip parts).map (·.1) = sh := by rw [List.map_fst_zip]; omega
          have m2' : (sh.zip parts).map (·.2) = parts := by rw [List.map_snd_zip]; omega
          refine ⟨by rw [m1']; exact up, fun r hr' => ?_, fun r hr' => ?_, by rw [m2'], by rw [lz]; omega⟩
          · exact rng _ (by rw [← m1']; exact List.mem_map_of_mem hr')
          · exact hb _ (by rw [← m2']; exact List.mem_map_of_mem hr')
        have kpE := ((kp6.trans kp7).trans (kp_same sm)).trans (kp_same (sm9.trans sm10))
        have hME := hM5.same (sm9.trans sm10)
        revert dxd okd kpE hME
        generalize DK.die (sh.zip parts) parts.sum = kd
        generalize upd (upd H5 p9 (HO.tup ys)) p10 (HO.tup [.str "die", .ref p9]) = HE
        intro dxd okd kpE hME
        refine ⟨_, rfl, L, F, 8, rfl, hME, by decide, fun H10 r1 kp10 hM10 r10 r11 => ⟨_, _, rfl, rfl, _, rfl, L, F, 31, rfl, hM10, by decide, fun H11 r2 kp11 hM11 r20 r21 => ⟨_, _, rfl, ?_⟩⟩⟩
        obtain ⟨mm, hmm, mm1⟩ : ∃ mm : Nat, 5 + r1 = (mm : Int) ∧ mm ≤ 12 := ⟨(5 + r1).toNat, by omega, by omega⟩
        obtain ⟨nn, hnn, nn1⟩ : ∃ nn : Nat, r2 = (nn : Int) ∧ nn ≤ 30 := ⟨r2.toNat, by omega, by omega⟩
        dsimp only; rw [hmm, hnn]
        have dx11 := dx_kp (kp10.trans kp11) hME dxd
        have bgd : Bg ((kd.W nn) ^ mm) := by
          have h1 := DK.Wsize okd (M := nn) (by omega)
          exact Nat.lt_of_lt_of_le (pow_lt h1 mm) (Nat.pow_le_pow_right (by decide) (by omega))
        refine ⟨_, rfl, _, rfl, _, rfl, _, rfl, _, rfl, _, rfl, ZL L F, .ref p10, kd, mm, nn, rfl, okd, dx11, by omega, by omega, bgd, fun H12 D12 ys12 sm12 nD12 hD12 dD12 => ?_⟩
        obtain ⟨u12, hu12, du12⟩ := dxAll_at dD12 (i := nn) (d := frD5 kd mm nn) (by rw [List.getElem?_map, List.getElem?_range (by omega)]; rfl)
        refine ⟨_, rfl, D12, _, _, _, rfl, rfl, SqL.of hD12, atI_nat hu12, ?_⟩
        refine ⟨ZL L F, NoP, .ref p10, u12, kd, mm, nn, false, rfl, okd, dx_same sm12 dx11, du12, by omega, by omega, fun H13 sm13 => ?_⟩
        exact q _ (((kpE.trans kp10).trans kp11).trans (kp_same (sm12.trans sm13))) (hM11.same (sm12.trans sm13))
end
end Ev

set_option exponentiation.threshold 20000
namespace Ev
open PySem PySem.Spec PyProof.Rows L2
theorem sm21 {i : Int} (h : i.natAbs < 2 ^ 21) : i.natAbs < 2 ^ 1400 := Nat.lt_trans h (by decide +kernel)
theorem dk_dt {k : DK} (ok : k.ok) : Dt 700 8 k.data := by
  cases k with
  | till x y =>
    have h1 := ok.1.pos
    have h2 := ok.1.lt
    have h3 := ok.2
    exact (Dts.tuple (Dts.cons (dt_str (by decide +kernel)) (Dts.cons (Dts.tuple (Dts.cons (dt_small (by omega)) (Dts.cons (dt_small (by omega)) Dts.nil))) Dts.nil))).le (by decide +kernel) (by decide)
  | die l s =>
    have tl := trip_low ok
    have h2 := ok.len
    have h3 : (trip l s).length = l.length := List.length_map ..
    have h1 : ∀ d ∈ (trip l s).map sdD, Dt 30 4 d := fun d hd => by
      obtain ⟨q, hq, rfl⟩ := List.mem_map.mp hd
      have := tl q hq
      exact (Dts.tuple (Dts.cons (dt_small (by omega)) (Dts.cons (Dts.tuple (Dts.cons (dt_small (by omega)) (Dts.cons (dt_small (by omega)) Dts.nil))) Dts.nil))).le (by decide) (by decide)
    have e : (DK.die l s).data = dieE (trip l s) := dice_trip l s
    rw [e]
    exact (Dts.tuple (Dts.cons (dt_str (by decide +kernel)) (Dts.cons ((Dts.tuple (dts_all h1)).le (n' := 200) (k' := 6) (by rw [List.length_map, h3]; have := Nat.mul_le_mul_right 30 h2.2; omega) (by decide)) Dts.nil))).le (by decide +kernel) (by decide)
/-- none thrown -/
theorem none_c {k : DK} (ok : k.ok) : frD5 k 0 0 = prD 1 1 := by
  unfold frD5
  have e1 : k.c 0 0 = 1 := by
    cases k with
    | till x y =>
      show delta 0 * (x ^ 0 * (y - x) ^ 0) = 1
      simp [delta]
    | die l s => rfl
  have e2 : k.b 0 0 = 1 := by
    cases k with
    | till x y => exact Int.pow_zero _
    | die l s => exact Int.pow_zero _
  rw [e1, e2, fA_one, fB_one]
theorem none_s {k : DK} (ok : k.ok) (n : Nat) : frD5 k 0 (1 + n) = prD 0 1 := by
  unfold frD5
  have e1 : k.c 0 (1 + n) = 0 := by
    rw [Nat.add_comm]
    cases k with
    | till x y =>
      show delta (n + 1) * _ = 0
      rw [delta_succ, Int.zero_mul]
    | die l s => rfl
  rw [e1, fA_zero, fB_zero (DK.bpos ok 0 (1 + n))]
theorem rg3 {M : Nat} (h : M = 7 ∨ M = 8 ∨ M = 9 ∨ M = 10) : ∃ n : Nat, RgC 0 ((M : Int) + 1) 3 n ∧ ∀ i : Nat, i < n → 3 * i ≤ M := by
  rcases h with rfl | rfl | rfl | rfl
  · exact ⟨3, ⟨by decide, by decide, by decide +kernel, by decide +kernel⟩, fun i hi => by omega⟩
  · exact ⟨3, ⟨by decide, by decide, by decide +kernel, by decide +kernel⟩, fun i hi => by omega⟩
  · exact ⟨4, ⟨by decide, by decide, by decide +kernel, by decide +kernel⟩, fun i hi => by omega⟩
  · exact ⟨4, ⟨by decide, by decide, by decide +kernel, by decide +kernel⟩, fun i hi => by omega⟩
/-- the products of the first so many -/
def firstS (k : DK) (a b N i : Nat) : Int := opL ((List.range i).map fun j => (j, k.c a j)) (k.c b) N
theorem first_succ {k : DK} {a b N i : Nat} (h : i ≤ N) : firstS k a b N (i + 1) = firstS k a b N i + k.c a i * k.c b (N - i) := by
  unfold firstS
  rw [List.range_succ, List.map_append, opL_app]
  congr 1
  show (if i ≤ N then k.c a i * k.c b (N - i) else 0) + 0 = _
  rw [if_pos h, Int.add_zero]
theorem first_all {k : DK} (ok : k.ok) (a b N : Nat) : firstS k a b N (N + 1) = k.c (a + b) N := (DK.split ok a b N).1
theorem first_nn {k : DK} (ok : k.ok) (a b N : Nat) : ∀ i, 0 ≤ firstS k a b N i := fun i => by
  unfold firstS
  exact opL_nn (DK.cnn ok b) _ _ fun p hp => by
    obtain ⟨j, _, rfl⟩ := List.mem_map.mp hp
    exact DK.cnn ok a j
theorem first_le {k : DK} (ok : k.ok) (a b N : Nat) : ∀ d i, i + d = N + 1 → firstS k a b N i ≤ k.c (a + b) N
  | 0, i, h => by
    have : i = N + 1 := by omega
    rw [this, first_all ok]
    exact Int.le_refl _
  | d + 1, i, h => by
    have h1 := first_le ok a b N d (i + 1) (by omega)
    rw [first_succ (by omega)] at h1
    have := Int.mul_nonneg (DK.cnn ok a i) (DK.cnn ok b (N - i))
    omega
def menuN : DK → Nat
  | .till _ _ => 16
  | .die _ _ => 60
def menuM : DK → Nat
  | .till _ _ => 8
  | .die _ _ => 60
theorem menu_bg {k : DK} (ok : k.ok) {m N : Nat} (hm : m ≤ menuM k) (hN : N ≤ menuN k) : Bg ((k.W N) ^ m) := by
  cases k with
  | till x y =>
    have h1 := ok.1.pos
    have h2 := ok.1.lt
    have h3 := ok.2
    have hm' : m ≤ 8 := hm
    have hN' : N ≤ 16 := hN
    have w : (y ^ (N + 1)).natAbs < 2 ^ 70 := Nat.lt_of_lt_of_le (pow_lt (b := y) (s := 4) (by show y.natAbs < 16; omega) (N + 1)) (Nat.pow_le_pow_right (by decide) (by omega))
    exact Nat.lt_of_lt_of_le (pow_lt w m) (Nat.pow_le_pow_right (by decide) (by omega))
  | die l s =>
    have := (trip_whole ok).2
    have hm' : m ≤ 60 := hm
    exact Nat.lt_of_lt_of_le (pow_lt (b := (wholeN (trip l s) : Int)) (s := 5) (by show _ < 32; omega) m) (Nat.pow_le_pow_right (by decide) (by omega))
theorem menu_le (k : DK) : menuN k ≤ 60 ∧ menuM k ≤ 60 := by cases k <;> refine ⟨?_, ?_⟩ <;> first | (show 16 ≤ 60; decide) | (show 60 ≤ 60; decide) | (show 8 ≤ 60; decide)
theorem fA_12 : fA 1 2 = 1 := by decide
theorem fB_12 : fB 1 2 = 2 := by decide
theorem fA_13 : fA 1 3 = 1 := by decide
theorem fB_13 : fB 1 3 = 3 := by decide
theorem fA_23 : fA 2 3 = 2 := by decide
theorem fB_23 : fB 2 3 = 3 := by decide
theorem two_data (n0 n1 : Int) : (DK.die [(n0, 1), (n1, 1)] 2).data = .tuple [.str "die", .tuple [sideD n0 1 2, sideD n1 1 2]] := by
  show PyData.tuple [.str "die", .tuple [sideD n0 (fA 1 2) (fB 1 2), sideD n1 (fA 1 2) (fB 1 2)]] = _
  rw [fA_12, fB_12]
theorem one_data : (DK.die [(1, 1)] 1).data = .tuple [.str "die", .tuple [sideD 1 1 1]] := by
  show PyData.tuple [.str "die", .tuple [sideD 1 (fA 1 1) (fB 1 1)]] = _
  rw [fA_one, fB_one]
theorem nine_data : (DK.die [(0, 1), (9, 2)] 3).data = .tuple [.str "die", .tuple [sideD 0 1 3, sideD 9 2 3]] := by
  show PyData.tuple [.str "die", .tuple [sideD 0 (fA 1 3) (fB 1 3), sideD 9 (fA 2 3) (fB 2 3)]] = _
  rw [fA_13, fB_13, fA_23, fB_23]
theorem two_ok {n0 n1 : Int} (h0 : 0 ≤ n0) (h : n0 < n1) (h9 : n1 ≤ 9) : (DK.die [(n0, 1), (n1, 1)] 2).ok := by
  refine ⟨?_, fun q hq => ?_, fun q hq => ?_, rfl, by show 1 ≤ 2; decide, by show 2 ≤ 6; decide⟩
  · exact .cons (fun x hx => by rw [List.mem_singleton.mp hx]; exact h) (.cons (fun x hx => nomatch hx) .nil)
  · simp only [List.mem_cons, List.not_mem_nil, or_false] at hq
    rcases hq with rfl | rfl
    · exact ⟨h0, by show n0 ≤ 9; omega⟩
    · exact ⟨by show 0 ≤ n1; omega, h9⟩
  · simp only [List.mem_cons, List.not_mem_nil, or_false] at hq
    rcases hq with rfl | rfl <;> exact ⟨by show (1 : Int) ≤ 1; decide, by show (1 : Int) ≤ 4; decide⟩
theorem one_ok : (DK.die [(1, 1)] 1).ok := ⟨by decide, by decide, by decide, rfl, by decide, by decide⟩
theorem nine_ok : (DK.die [(0, 1), (9, 2)] 3).ok := ⟨by decide, by decide, by decide, rfl, by decide, by decide⟩
theorem half_ok : (DK.till 1 2).ok := ⟨⟨⟨by decide, by decide⟩, by decide, by decide⟩, by decide⟩

theorem nat_le {a b : Int} (h : 0 ≤ a) (h2 : a ≤ b) : a.natAbs ≤ b.natAbs := by omega
theorem wide_bg {a b : Int} {s t : Nat} (ha : a.natAbs < 2 ^ s) (hb : b.natAbs < 2 ^ t) (h : s + t ≤ 8900) : Bg (a * b) :=
  Nat.lt_of_lt_of_le (wide_lt ha hb) (Nat.pow_le_pow_right (by decide) h)
theorem conv_step {k : DK} (ok : k.ok) {a b m N c : Nat} (hb : a + b = m) (hm : m ≤ 4) (hN : N ≤ 10) (hc : c ≤ N) {x y x1 v1 x2 v2 x3 v3 : Int} (lo : Low x y)
    (ev : x * k.b m N = y * firstS k a b N c) (e1 : x1 = fA (k.c a c) (k.b a c)) (e2 : v1 = fB (k.c a c) (k.b a c)) (e3 : x2 = fA (k.c b (N - c)) (k.b b (N - c)))
    (e4 : v2 = fB (k.c b (N - c)) (k.b b (N - c))) (e5 : x3 = fA (x1 * x2) (v1 * v2)) (e6 : v3 = fB (x1 * x2) (v1 * v2)) :
    (v1 * v2 ≠ 0 ∧ Bg x1 ∧ Bg v1 ∧ Bg x2 ∧ Bg v2 ∧ Bg (v1 * v2)) ∧ (y * v3 ≠ 0 ∧ Bg x ∧ Bg y ∧ Bg x3 ∧ Bg v3 ∧ Bg (y * v3)) ∧
    Low (fA (x * v3 + x3 * y) (y * v3)) (fB (x * v3 + x3 * y) (y * v3)) ∧ fA (x * v3 + x3 * y) (y * v3) * k.b m N = fB (x * v3 + x3 * y) (y * v3) * firstS k a b N (c + 1) := by
  have bT := DK.bpos ok m N
  have bTs := DK.bsize ok (m := m) (n := N) (by omega)
  have sp := (DK.split ok a b N).2 c hc
  have cmx := DK.csize ok (m := m) (n := N) (by omega) (by omega)
  have bp1 := DK.bpos ok a c
  have bp2 := DK.bpos ok b (N - c)
  have cs1 := DK.csize ok (m := a) (n := c) (by omega) (by omega)
  have cs2 := DK.csize ok (m := b) (n := N - c) (by omega) (by omega)
  have bs1 := DK.bsize ok (m := a) (n := c) (by omega)
  have bs2 := DK.bsize ok (m := b) (n := N - c) (by omega)
  have l1 := low_f (a := k.c a c) (b := k.b a c) (by omega)
  have l2 := low_f (a := k.c b (N - c)) (b := k.b b (N - c)) (by omega)
  have p1 := low_part (c := k.c a c) bp1
  have p2 := low_part (c := k.c b (N - c)) bp2
  have f1 : x1.natAbs < 2 ^ 1390 := by
    rw [e1]
    exact Nat.lt_of_le_of_lt (fA_le (by omega)) cs1
  have f2 : v1.natAbs < 2 ^ 1390 := by
    rw [e2]
    exact Nat.lt_of_le_of_lt (fB_le (by omega)) bs1
  have f3 : x2.natAbs < 2 ^ 1390 := by
    rw [e3]
    exact Nat.lt_of_le_of_lt (fA_le (by omega)) cs2
  have f4 : v2.natAbs < 2 ^ 1390 := by
    rw [e4]
    exact Nat.lt_of_le_of_lt (fB_le (by omega)) bs2
  rw [← e1, ← e2] at l1 p1
  rw [← e3, ← e4] at l2 p2
  obtain ⟨q1, q2⟩ := low_same bT lo ev
  have r3 := first_nn ok a b N c
  have r4 := first_le ok a b N (N + 1 - c) c (by omega)
  rw [hb] at r4
  have xb : x.natAbs < 2 ^ 1390 := by
    rw [q1]
    refine Nat.lt_of_le_of_lt (fA_le (by omega)) (Nat.lt_of_le_of_lt (nat_le r3 r4) cmx)
  have yb : y.natAbs < 2 ^ 1390 := by
    rw [q2]
    exact Nat.lt_of_le_of_lt (fB_le (by omega)) bTs
  have lo1 := l1.1
  have lo2 := l2.1
  have lo3 := lo.1
  have v0 : v1 * v2 ≠ 0 := Int.mul_ne_zero (by omega) (by omega)
  have tp := times_part (A := x1) (B := v1) (x := x2) (y := v2) lo1 lo2 p1 p2
  rw [← e5, ← e6, sp, hb] at tp
  have f5 : x3.natAbs < 2 ^ (1390 + 1390) := by
    rw [e5]
    exact Nat.lt_of_le_of_lt (fA_le v0) (wide_lt f1 f3)
  have f6 : v3.natAbs < 2 ^ (1390 + 1390) := by
    rw [e6]
    exact Nat.lt_of_le_of_lt (fB_le v0) (wide_lt f2 f4)
  have lo4 := tp.1.1
  have pp := plus_part (A := x) (B := y) (x := x3) (y := v3) lo3 lo4 ev tp.2
  rw [← first_succ hc] at pp
  have le1 : (2 : Nat) ^ 1390 ≤ 2 ^ 8900 := Nat.pow_le_pow_right (by decide) (by decide)
  have le2 : (2 : Nat) ^ (1390 + 1390) ≤ 2 ^ 8900 := Nat.pow_le_pow_right (by decide) (by decide)
  exact ⟨⟨v0, Nat.lt_of_lt_of_le f1 le1, Nat.lt_of_lt_of_le f2 le1, Nat.lt_of_lt_of_le f3 le1, Nat.lt_of_lt_of_le f4 le1, wide_bg f2 f4 (by decide)⟩,
    ⟨Int.mul_ne_zero (by omega) (by omega), Nat.lt_of_lt_of_le xb le1, Nat.lt_of_lt_of_le yb le1, Nat.lt_of_lt_of_le f5 le2, Nat.lt_of_lt_of_le f6 le2, wide_bg yb f6 (by decide)⟩, pp⟩
theorem conv_end {k : DK} (ok : k.ok) {a b m N : Nat} (hb : a + b = m) {x y : Int} (lo : Low x y) (ev : x * k.b m N = y * firstS k a b N (N + 1)) :
    x = fA (k.c m N) (k.b m N) ∧ y = fB (k.c m N) (k.b m N) := by
  rw [first_all ok, hb] at ev
  exact low_same (DK.bpos ok m N) lo ev
end Ev

set_option exponentiation.threshold 20000
namespace Ev
open PySem PySem.Spec PyProof.Rows L2
theorem new_obj {H : Hp} {p L F : Addr} (hM : Lm H L F) (o : HO) (m : H p = none) : ∃ G, upd H p o = G ∧ Same H G ∧ Lm G L F ∧ G p = some o :=
  ⟨_, rfl, same_new m, hM.new m, upd_same⟩
theorem dx_pr {K : PySem.W.Frag} {Z : Addr → Prop} {H : Hp} {p : Addr} {x y : Int} (e : H p = some (.tup [.int x, .int y])) : Dx K Z H (.ref p) (prD x y) :=
  .tup (SqT.of e) (.cons (.int _) (.cons (.int _) .nil))
def headW : DK → Str
  | .till _ _ => .ofString "till"
  | .die _ _ => .ofString "die"
theorem die_head {K : PySem.W.Frag} {Z : Addr → Prop} {H : Hp} {v : V} {k : DK} (h : Dx K Z H v k.data) : ∃ a u, v = .ref a ∧ SqT K H a [.str (headW k), u] := by
  cases k with
  | till x y =>
    obtain ⟨a, u, e, h1, _⟩ := dx_word h
    exact ⟨a, u, e, h1⟩
  | die l s =>
    obtain ⟨a, u, e, h1, _⟩ := dx_word h
    exact ⟨a, u, e, h1⟩
section
variable {P : Program} {w : World} {K : PySem.W.Frag} {mg : Str → Option Value} {base : Heap} {A : Nat → Addr} {D : Nat → FuncData}
def sp_law (K : PySem.W.Frag) : Sp := fun vs H Q _ => ∃ (a : Addr) (ns : List Int), vs = [.ref a] ∧ SqL K H a (ns.map V.int) ∧ ns.length ≤ 63 ∧ ∀ H', Q (.bl true) H'
set_option maxHeartbeats 0 in
theorem Txt.ok_law (T : Txt K mg A D) : FnG P w K mg base CX0 7 (A 23) (D 23) ["script"] (sp_law K) := by
  refine okG T.F_law sc_law (fun vs H Q E h => ?_) (fun cdv Ar outer s H vs Q E hA hr h => ?_)
  · obtain ⟨a, ns, rfl, _⟩ := h
    rfl
  · obtain ⟨a0, ns, rfl, hS, hlen, q⟩ := h
    have hG : (Ar.deeper (envOfC (Str.ofString "law") (defScope s_law) s.heap.objs.size (A 23) cdv)).guards = some [] := hA
    have hu := hu_of hr
    refine ⟨_, (pss_cons (ps_set (i := 1) sc_law.nd rfl (Or.inl rfl) (pe_call (T.ok_loom) (hr.mono (by decide)) (by rfl) T.g_loom T.k_loom T.b_loom .nil pass0 (pa_cons (pv 0) pa_nil)))
    (pss_cons (ps_for PassesOwn.never rfl (pi_range1 rfl T.range (pa_cons pe_int pa_nil)) (pg_name (i := 2) sc_law.nd rfl (Or.inl rfl)) (pss_cons (ps_set (i := 3) sc_law.nd rfl (Or.inl rfl) (pe_call (T.ok_die) (hr.mono (by decide)) (by rfl) T.g_die T.k_die T.b_die .nil pass0 (pa_cons (pv 1) pa_nil)))
    (pss_cons (ps_par3 (i := 4) (j := 5) (l := 6) rfl sc_law.nd rfl rfl rfl (by decide) (by decide) (by decide) rfl rfl rfl (pa_cons (pe_call (T.ok_draw) (hr.mono (by decide)) (by rfl) T.g_draw T.k_draw T.b_draw .nil pass0 (pa_cons (pv 1) (pa_cons pe_int pa_nil))) (pa_cons (pe_op op_add pe_int (pe_call (T.ok_draw) (hr.mono (by decide)) (by rfl) T.g_draw T.k_draw T.b_draw .nil pass0 (pa_cons (pv 1) (pa_cons pe_int pa_nil)))) (pa_cons (pe_callB (call_reprX hG hr.units) (by rfl) T.z_repr (by decide +kernel) (pa_cons (pv 3) pa_nil)) pa_nil))) (by rfl))
    (pss_cons (ps_set (i := 7) sc_law.nd rfl (Or.inl rfl) (pe_call (T.ok_summed) (hr.mono (by decide)) (by rfl) T.g_summed T.k_summed T.b_summed .nil pass0 (pa_cons (pv 3) (pa_cons (pv 4) (pa_cons (pv 5) pa_nil)))))
    (pss_cons (ps_for PassesOwn.never rfl (pi_range1 rfl T.range (pa_cons (pe_op op_add (pv 5) pe_int) pa_nil)) (pg_name (i := 8) sc_law.nd rfl (Or.inl rfl)) (pss_one (ps_if (pt_not (pt_val (pe_callG (T.ok_is_told) hG (hr.mono (by decide)) (by rfl) T.g_is_told T.k_is_told T.b_is_told pass0 (pa_cons (pv 3) (pa_cons (pv 4) (pa_cons (pv 8) (pa_cons (pe_ix ix_list (pv 7) (pv 8) (fun _ _ => rfl)) (pa_cons (pe_cmpR op_eq (pv 8) (pv 2) (nomark _)) pa_nil)))))))) (pss_one (ps_ret pe_bl)) pss_nil)))
    (pss_cons (ps_set (i := 9) sc_law.nd rfl (Or.inl rfl) (pe_call (T.ok_draw) (hr.mono (by decide)) (by rfl) T.g_draw T.k_draw T.b_draw .nil pass0 (pa_cons (pv 1) (pa_cons (pe_op op_add (pv 4) pe_int) pa_nil))))
    (pss_cons (ps_par (i := 10) (j := 11) rfl sc_law.nd rfl rfl (by decide) rfl rfl (pa_cons (pe_call (T.ok_summed) (hr.mono (by decide)) (by rfl) T.g_summed T.k_summed T.b_summed .nil pass0 (pa_cons (pv 3) (pa_cons (pv 9) (pa_cons (pv 5) pa_nil)))) (pa_cons (pe_call (T.ok_summed) (hr.mono (by decide)) (by rfl) T.g_summed T.k_summed T.b_summed .nil pass0 (pa_cons (pv 3) (pa_cons (pe_op op_sub (pv 4) (pv 9)) (pa_cons (pv 5) pa_nil)))) pa_nil)) (by rfl))
    (pss_cons (ps_for PassesOwn.never rfl (pi_range3 rfl T.range (pa_cons pe_int (pa_cons (pe_op op_add (pv 5) pe_int) (pa_cons pe_int pa_nil)))) (pg_name (i := 8) sc_law.nd rfl (Or.inl rfl)) (pss_cons (ps_set (i := 12) sc_law.nd rfl (Or.inl rfl) (pe_tup (pa_cons pe_int (pa_cons pe_int pa_nil))))
    (pss_cons (ps_for PassesOwn.never rfl (pi_range1 rfl T.range (pa_cons (pe_op op_add (pv 8) pe_int) pa_nil)) (pg_name (i := 13) sc_law.nd rfl (Or.inl rfl)) (pss_one (ps_set (i := 12) sc_law.nd rfl (Or.inl rfl) (pe_call (T.ok_plus) (hr.mono (by decide)) (by rfl) T.g_plus T.k_plus T.b_plus .nil pass0 (pa_cons (pv 12) (pa_cons (pe_call (T.ok_times) (hr.mono (by decide)) (by rfl) T.g_times T.k_times T.b_times .nil pass0 (pa_cons (pe_ix ix_list (pv 10) (pv 13) (fun _ _ => rfl)) (pa_cons (pe_ix ix_list (pv 11) (pe_op op_sub (pv 8) (pv 13)) (fun _ _ => rfl)) pa_nil))) pa_nil))))))
    (pss_one (ps_if (pt_cmpR (op_neD hr.units) (pv 12) (pe_call (T.ok_sum_share) (hr.mono (by decide)) (by rfl) T.g_sum_share T.k_sum_share T.b_sum_share .nil pass0 (pa_cons (pv 3) (pa_cons (pv 4) (pa_cons (pv 8) pa_nil)))) (nomark _)) (pss_one (ps_ret pe_bl)) pss_nil)))))
    (pss_cons (ps_set (i := 8) sc_law.nd rfl (Or.inl rfl) (pe_call (T.ok_draw) (hr.mono (by decide)) (by rfl) T.g_draw T.k_draw T.b_draw .nil pass0 (pa_cons (pv 1) (pa_cons pe_int pa_nil))))
    (pss_cons (ps_set (i := 14) sc_law.nd rfl (Or.inl rfl) (pe_lst (pa_cons (pe_call (T.ok_sum_share) (hr.mono (by decide)) (by rfl) T.g_sum_share T.k_sum_share T.b_sum_share .nil pass0 (pa_cons (pv 3) (pa_cons pe_int (pa_cons (pv 8) pa_nil)))) (pa_cons (pe_call (T.ok_sum_share) (hr.mono (by decide)) (by rfl) T.g_sum_share T.k_sum_share T.b_sum_share .nil pass0 (pa_cons (pv 3) (pa_cons pe_int (pa_cons pe_int pa_nil)))) (pa_cons (pe_call (T.ok_sum_share) (hr.mono (by decide)) (by rfl) T.g_sum_share T.k_sum_share T.b_sum_share .nil pass0 (pa_cons (pv 3) (pa_cons pe_int (pa_cons (pe_op op_add pe_int (pv 8)) pa_nil)))) pa_nil)))))
    (pss_one (ps_if (PW.pt (pw_or (pt_cmpR op_ne (pe_callB (call_reprX hG hr.units) (by rfl) T.z_repr (by decide +kernel) (pa_cons (pv 14) pa_nil)) (pe_callB (call_reprX hG hr.units) (by rfl) T.z_repr (by decide +kernel) (pa_cons (pe_lst (pa_cons (pe_call (T.ok_side_share) (hr.mono (by decide)) (by rfl) T.g_side_share T.k_side_share T.b_side_share .nil pass0 (pa_cons (pv 3) (pa_cons (pv 8) pa_nil))) (pa_cons (pe_tup (pa_cons pe_int (pa_cons pe_int pa_nil))) (pa_cons (pe_tup (pa_cons pe_int (pa_cons pe_int pa_nil))) pa_nil)))) pa_nil)) (nomark _)) (pw_or1 (pt_cmpR op_ne (pe_callB (call_reprX hG hr.units) (by rfl) T.z_repr (by decide +kernel) (pa_cons (pv 3) pa_nil)) (pv 6) (nomark _))))) (pss_one (ps_ret pe_bl)) pss_nil))))))))))))
    (pss_cons (ps_if (pt_not (pt_val (pe_callG (T.ok_are_many_told) hG hr (by rfl) T.g_are_many_told T.k_are_many_told T.b_are_many_told pass0 (pa_cons (pv 1) pa_nil)))) (pss_one (ps_ret pe_bl)) pss_nil)
    (pss_cons (ps_set (i := 15) sc_law.nd rfl (Or.inl rfl) (pe_tup (pa_cons (pe_tup (pa_cons (pe_call (T.ok_draw) (hr.mono (by decide)) (by rfl) T.g_draw T.k_draw T.b_draw .nil pass0 (pa_cons (pv 1) (pa_cons pe_int pa_nil))) (pa_cons (pe_tup (pa_cons pe_int (pa_cons pe_int pa_nil))) pa_nil))) (pa_cons (pe_tup (pa_cons (pe_op op_add pe_int (pe_call (T.ok_draw) (hr.mono (by decide)) (by rfl) T.g_draw T.k_draw T.b_draw .nil pass0 (pa_cons (pv 1) (pa_cons pe_int pa_nil)))) (pa_cons (pe_tup (pa_cons pe_int (pa_cons pe_int pa_nil))) pa_nil))) pa_nil))))
    (pss_cons (ps_set (i := 16) sc_law.nd rfl (Or.inl rfl) (pe_lst (pa_cons (pe_tup (pa_cons pe_str (pa_cons (pv 15) pa_nil))) (pa_cons (pe_tup (pa_cons pe_str (pa_cons (pe_tup (pa_cons (pe_tup (pa_cons pe_int (pa_cons (pe_tup (pa_cons pe_int (pa_cons pe_int pa_nil))) pa_nil))) pa_nil)) pa_nil))) (pa_cons (pe_tup (pa_cons pe_str (pa_cons (pe_tup (pa_cons pe_int (pa_cons pe_int pa_nil))) pa_nil))) (pa_cons (pe_tup (pa_cons pe_str (pa_cons (pe_tup (pa_cons (pe_tup (pa_cons pe_int (pa_cons (pe_tup (pa_cons pe_int (pa_cons pe_int pa_nil))) pa_nil))) (pa_cons (pe_tup (pa_cons pe_int (pa_cons (pe_tup (pa_cons pe_int (pa_cons pe_int pa_nil))) pa_nil))) pa_nil))) pa_nil))) pa_nil))))))
    (pss_cons (ps_set (i := 3) sc_law.nd rfl (Or.inl rfl) (pe_call (T.ok_pick) (hr.mono (by decide)) (by rfl) T.g_pick T.k_pick T.b_pick .nil pass0 (pa_cons (pv 1) (pa_cons (pv 16) pa_nil))))
    (C8.pss_cut (ps_set (i := 4) sc_law.nd rfl (Or.inl rfl) (pe_call (T.ok_pick) (hr.mono (by decide)) (by rfl) T.g_pick T.k_pick T.b_pick .nil pass0 (pa_cons (pv 1) (pa_cons (pe_ifExp (pt_cmpR op_eq (pe_ix ix_tup (pv 3) pe_int (fun _ _ => rfl)) pe_str (nomark _)) (pe_lst (pa_cons pe_int (pa_cons pe_int (pa_cons pe_int pa_nil)))) (pe_lst (pa_cons pe_int (pa_cons pe_int pa_nil)))) pa_nil))))
    (C8.pss_cut (ps_set (i := 17) sc_law.nd rfl (Or.inl rfl) (pe_ifExp (pt_cmpR op_eq (pe_ix ix_tup (pv 3) pe_int (fun _ _ => rfl)) pe_str (nomark _)) (pe_lst (pa_cons pe_int (pa_cons pe_int pa_nil))) (pe_lst (pa_cons pe_int (pa_cons pe_int pa_nil)))))
    (pss_cons (ps_set (i := 8) sc_law.nd rfl (Or.inl rfl) (pe_call (T.ok_pick) (hr.mono (by decide)) (by rfl) T.g_pick T.k_pick T.b_pick .nil pass0 (pa_cons (pv 1) (pa_cons (pe_op op_cat (pe_lst (pa_cons pe_int (pa_cons pe_int (pa_cons pe_int (pa_cons (pe_op op_sub (pv 4) pe_int) (pa_cons (pv 4) (pa_cons (pe_callB (call_min2 rfl) (by rfl) T.z_min (by decide +kernel) (pa_cons pe_int (pa_cons (pe_op op_mul pe_int (pv 4)) pa_nil))) pa_nil))))))) (pv 17)) pa_nil))))
    (pss_one (ps_ret (pe_callG (T.ok_is_told) hG (hr.mono (by decide)) (by rfl) T.g_is_told T.k_is_told T.b_is_told pass0 (pa_cons (pv 3) (pa_cons (pv 4) (pa_cons (pv 8) (pa_cons (pe_ix ix_list (pe_call (T.ok_summed) (hr.mono (by decide)) (by rfl) T.g_summed T.k_summed T.b_summed .nil pass0 (pa_cons (pv 3) (pa_cons (pv 4) (pa_cons (pv 8) pa_nil)))) (pv 8) (fun _ _ => rfl)) (pa_cons pe_bl pa_nil))))))))))))))))), ?_⟩
    have z : ∀ n : Nat, n ≤ 100 → n ≤ sizeLine := fun n h => Nat.le_trans h (by decide)
    refine ⟨_, rfl, a0, ns, rfl, hS, hlen, fun H0 L F _ hM _ _ => ?_⟩
    refine ⟨3, rfl, by decide, by decide, for_range (lo := 0) (n := 3) (fun i σ H' => Lm H' L F ∧ ∃ y2 y3 y4 y5 y6 y7 y8 y9 y10 y11 y12 y13 y14 : Option V, σ = [some (.ref a0), some (.ref L), y2, y3, y4, y5, y6, y7, y8, y9, y10, y11, y12, y13, y14, none, none, none]) ⟨hM, none, none, none, none, none, none, none, none, none, none, none, none, none, rfl⟩ ?_ ?_⟩
    · rintro i σ H1 hi ⟨hM1, y2, y3, y4, y5, y6, y7, y8, y9, y10, y11, y12, y13, y14, rfl⟩
      refine ⟨_, rfl, L, F, rfl, hM1, fun H2 p2 d2 kp2 hM2 dx2 isd => ?_⟩
      obtain ⟨k, rfl, ok⟩ := isdie_dk isd
      refine ⟨_, rfl, L, F, 5, rfl, hM2, by decide, fun H3 e1 kp3 hM3 e10 e11 => ⟨_, rfl, L, F, 4, rfl, hM3, by decide, fun H4 e2 kp4 hM4 e20 e21 => ⟨_, _, rfl, rfl, ?_⟩⟩⟩
      have dx4 := dx_kp (kp3.trans kp4) hM2 dx2
      obtain ⟨sh1, sh2, sh3⟩ := (dk_dt ok).show (by decide) (by decide)
      refine ⟨_, rfl, _, k.data, ZL L F, rfl, dx4, sh1, sh2, sh3, _, _, _, rfl, ?_⟩
      obtain ⟨m, hm, m4⟩ : ∃ m : Nat, e1 = (m : Int) ∧ m ≤ 4 := ⟨e1.toNat, by omega, by omega⟩
      obtain ⟨M, hMM, M7⟩ : ∃ M : Nat, 7 + e2 = (M : Int) ∧ (M = 7 ∨ M = 8 ∨ M = 9 ∨ M = 10) := ⟨(7 + e2).toNat, by omega, by omega⟩
      have M10 : M ≤ 10 := by omega
      dsimp only
      rw [hm, hMM]
      have bgd : ∀ j, j ≤ 4 → Bg ((k.W M) ^ j) := fun j hj => Nat.lt_of_lt_of_le (pow_lt (DK.Wsize ok (M := M) (by omega)) j) (Nat.pow_le_pow_right (by decide) (by omega))
      refine ⟨_, rfl, _, rfl, _, rfl, ZL L F, .ref p2, k, m, M, rfl, ok, dx4, by omega, by omega, bgd m m4, fun H5 D5 ys5 sm5 nD5 hD5 dD5 => ?_⟩
      have hM5 := hM4.same sm5
      have dx5 := dx_same sm5 dx4
      have n5 := hM4.ne nD5
      -- what is told of all numbers
      refine ⟨_, rfl, _, _, rfl, rfl, _, rfl, by omega, by omega, for_range (lo := 0) (n := ((M : Int) + 1).toNat) (fun j σ H' => Same H5 H' ∧ ∃ y8 : Option V, σ = [some (.ref a0), some (.ref L), some (.int (0 + (i : Int))), some (.ref p2), some (.int (m : Int)), some (.int (M : Int)), some (.str k.data.shown), some (.ref D5), y8, y9, y10, y11, y12, y13, y14, none, none, none]) ⟨Same.refl _, y8, rfl⟩ ?_ ?_⟩
      · rintro j σ H6 hj ⟨sm6, y8, rfl⟩
        have hj' : j ≤ M := by omega
        obtain ⟨u, hu1, du⟩ := dxAll_at (dxAll_same sm6 dD5) (i := j) (d := frD5 k m j) (by rw [List.getElem?_map, List.getElem?_range (by omega)]; rfl)
        refine ⟨_, rfl, _, rfl, _, rfl, _, rfl, _, rfl, D5, _, _, _, rfl, rfl, SqL.of (sm6 _ _ hD5), at_of (j := j) (by omega) hu1, ?_⟩
        have ej : (0 + (j : Int)) = (j : Int) := by omega
        refine ⟨_, rfl, _, rfl, rfl, ZL L F, NoP, .ref p2, u, k, m, j, _, by rw [ej], ok, dx_same sm6 dx5, du, by omega, by omega, fun H7 sm7 => ⟨_, rfl, ite2 (fun e => absurd e (by decide)) (fun _ => ?_)⟩⟩
        exact ⟨sm6.trans sm7, some (.int (0 + (j : Int))), rfl⟩
      rintro σ H6 ⟨sm6, y8, rfl⟩
      have hM6 := hM5.same sm6
      have dx6 := dx_same sm6 dx5
      -- split
      refine ⟨_, rfl, _, rfl, _, _, rfl, rfl, L, F, _, rfl, hM6, by omega, fun H7 e3 kp7 hM7 e30 e31 => ?_⟩
      obtain ⟨a, ha, am⟩ : ∃ a : Nat, e3 = (a : Int) ∧ a ≤ m := ⟨e3.toNat, by omega, by omega⟩
      subst ha
      have dx7 := dx_kp kp7 hM6 dx6
      refine ⟨_, rfl, _, rfl, _, rfl, ZL L F, .ref p2, k, a, M, rfl, ok, dx7, by omega, by omega, bgd a (by omega), fun H8 D8 ys8 sm8 nD8 hD8 dD8 => ?_⟩
      have dx8 := dx_same sm8 dx7
      obtain ⟨b, hb⟩ : ∃ b : Nat, a + b = m := ⟨m - a, by omega⟩
      have ebm : (m : Int) - (a : Int) = (b : Int) := by omega
      refine ⟨_, rfl, _, rfl, _, rfl, _, _, rfl, rfl, _, rfl, ZL L F, .ref p2, k, b, M, (by show [V.ref p2, V.int ((m : Int) - (a : Int)), V.int (M : Int)] = _; rw [ebm]), ok, dx8, by omega, by omega, bgd b (by omega), fun H9 D9 ys9 sm9 nD9 hD9 dD9 => ⟨_, _, rfl, ?_⟩⟩
      have dx9 := dx_same sm9 dx8
      have hD8' := sm9 _ _ hD8
      have dD8' := dxAll_same sm9 dD8
      obtain ⟨n3, rgc, n3le⟩ := rg3 M7
      have hM9 := hM7.same (sm8.trans sm9)
      refine ⟨_, rfl, _, _, rfl, rfl, 0, _, 3, n3, rfl, rgc, for_rangeC (lo := 0) (c := 3) (n := n3) (fun j σ H' => Same H9 H' ∧ ∃ y8 y12 y13 : Option V, σ = [some (.ref a0), some (.ref L), some (.int (0 + (i : Int))), some (.ref p2), some (.int (m : Int)), some (.int (M : Int)), some (.str k.data.shown), some (.ref D5), y8, some (.int (a : Int)), some (.ref D8), some (.ref D9), y12, y13, y14, none, none, none]) ⟨Same.refl _, y8, y12, y13, rfl⟩ ?_ ?_⟩
      · rintro j σ H10 hj ⟨sm10, z8, z12, z13, rfl⟩
        have hN := n3le j hj
        obtain ⟨N, hN2, hNM⟩ : ∃ N : Nat, (0 + (j : Int) * 3) = (N : Int) ∧ N ≤ M := ⟨3 * j, by omega, hN⟩
        have hN10 : N ≤ 10 := Nat.le_trans hNM M10
        have hto : ((0 + (j : Int) * 3) + 1).toNat = N + 1 := by omega
        refine ⟨z 2 (by decide), fun t0 k0 => ?_⟩
        have s0 := same_new (o := .tup [.int 0, .int 1]) k0
        have e0 : (upd H10 t0 (.tup [.int 0, .int 1])) t0 = some (.tup [.int 0, .int 1]) := upd_same
        revert s0 e0
        generalize upd H10 t0 (HO.tup [.int 0, .int 1]) = H11
        intro s0 e0
        refine ⟨_, rfl, _, _, rfl, rfl, _, rfl, by omega, by omega, for_range (lo := 0) (n := ((0 + (j : Int) * 3) + 1).toNat) (fun c σ H' => Same H11 H' ∧ ∃ (y13 : Option V) (t : Addr) (x y : Int), σ = [some (.ref a0), some (.ref L), some (.int (0 + (i : Int))), some (.ref p2), some (.int (m : Int)), some (.int (M : Int)), some (.str k.data.shown), some (.ref D5), some (.int (0 + (j : Int) * 3)), some (.int (a : Int)), some (.ref D8), some (.ref D9), some (.ref t), y13, y14, none, none, none] ∧
          H' t = some (.tup [.int x, .int y]) ∧ Low x y ∧ x * k.b m N = y * firstS k a b N c) ⟨Same.refl _, z13, t0, 0, 1, rfl, e0, ⟨by decide, by decide⟩, by rw [Int.zero_mul]; rfl⟩ ?_ ?_⟩
        · rintro c σ H12 hc ⟨sm12, w13, t, x, y, rfl, ht, lo, ev⟩
          have hcN : c ≤ N := by omega
          have smA := (sm10.trans s0).trans sm12
          obtain ⟨u1, hu1, du1⟩ := dxAll_at (dxAll_same smA dD8') (i := c) (d := frD5 k a c) (by rw [List.getElem?_map, List.getElem?_range (by omega)]; rfl)
          obtain ⟨u2, hu2, du2⟩ := dxAll_at (dxAll_same smA dD9) (i := N - c) (d := frD5 k b (N - c)) (by rw [List.getElem?_map, List.getElem?_range (by omega)]; rfl)
          obtain ⟨g1, rfl, hg1⟩ := dx_prD du1
          obtain ⟨g2, rfl, hg2⟩ := dx_prD du2
          have cv := conv_step ok hb m4 hN10 hcN lo ev rfl rfl rfl rfl rfl rfl
          refine ⟨_, rfl, _, rfl, _, rfl, D8, _, _, _, rfl, rfl, SqL.of (smA _ _ hD8'), at_of (j := c) (by omega) hu1, _, rfl, _, rfl, _, rfl, _, _, rfl, rfl, D9, _, _, _, rfl, rfl, SqL.of (smA _ _ hD9), at_of (j := N - c) (by omega) hu2, ?_⟩
          refine ⟨g1, g2, _, _, _, _, rfl, hg1, hg2, cv.1.1, cv.1.2.1, cv.1.2.2.1, cv.1.2.2.2.1, cv.1.2.2.2.2.1, cv.1.2.2.2.2.2, fun H13 t13 sm13 _ e13 => ?_⟩
          refine ⟨t, t13, x, y, _, _, rfl, SqT.of (sm13 _ _ ht), SqT.of e13, cv.2.1.1, cv.2.1.2.1, cv.2.1.2.2.1, cv.2.1.2.2.2.1, cv.2.1.2.2.2.2.1, cv.2.1.2.2.2.2.2, fun H14 t14 sm14 _ e14 => ?_⟩
          exact ⟨(sm12.trans sm13).trans sm14, some (.int (0 + (c : Int))), t14, _, _, rfl, e14, cv.2.2.1, cv.2.2.2⟩
        · rintro σ H12 ⟨sm12, w13, t, x, y, rfl, ht, lo, ev⟩
          rw [hto] at ev
          have smA := (sm10.trans s0).trans sm12
          obtain ⟨ex, ey⟩ := conv_end ok hb lo ev
          refine ⟨_, rfl, _, rfl, _, rfl, _, rfl, ?_⟩
          dsimp only [tNil]
          rw [hN2]
          show sp_sum_share K [.ref p2, .int (m : Int), .int (N : Int)] H12 _ E0
          refine sum_dk ok (dx_same smA dx9) m N (by omega) fun H13 p13 sm13 e13 => ?_
          refine ⟨.tuple [.int x, .int y], .tuple [.int x, .int y], .tup (SqT.of (sm13 _ _ ht)) (.cons (.int _) (.cons (.int _) .nil)), .tup (SqT.of (by rw [ex, ey]; exact e13)) (.cons (.int _) (.cons (.int _) .nil)), rfl, rfl, _, rfl, ?_⟩
          rw [show PyData.eqv (.tuple [.int x, .int y]) (.tuple [.int x, .int y]) = true by rw [SeqAt.eqv_refl]; rfl]
          refine ite2 (fun e => absurd e (by decide)) (fun _ => ?_)
          exact ⟨smA.trans sm13, some (.int (N : Int)), some (.ref t), w13, rfl⟩
      · rintro σ H10 ⟨sm10, z8, z12, z13, rfl⟩
        have hM10 := hM9.same sm10
        have dx10 := dx_same sm10 dx9
        refine ⟨_, rfl, L, F, 12, rfl, hM10, by decide, fun H11 e4 kp11 hM11 e40 e41 => ?_⟩
        obtain ⟨n, rfl, n12⟩ : ∃ n : Nat, e4 = (n : Int) ∧ n ≤ 12 := ⟨e4.toNat, by omega, by omega⟩
        have dx11 := dx_kp kp11 hM10 dx10
        have e1n : (1 : Int) + (n : Int) = ((1 + n : Nat) : Int) := by omega
        refine ⟨_, rfl, _, rfl, ?_⟩
        dsimp only [tNil]
        show sp_sum_share K [.ref p2, .int ((1 : Nat) : Int), .int (n : Int)] H11 _ E0
        refine sum_dk ok dx11 1 n (by omega) fun H12 q1 sm12 f1 => ?_
        have dx12 := dx_same sm12 dx11
        refine ⟨_, rfl, ?_⟩
        dsimp only [tNil, tCons, tC]
        show sp_sum_share K [.ref p2, .int ((0 : Nat) : Int), .int ((0 : Nat) : Int)] H12 _ E0
        refine sum_dk ok dx12 0 0 (by omega) fun H13 q2 sm13 f2 => ?_
        have dx13 := dx_same sm13 dx12
        refine ⟨_, rfl, _, rfl, _, _, rfl, rfl, ?_⟩
        dsimp only [tNil]
        rw [e1n]
        show sp_sum_share K [.ref p2, .int ((0 : Nat) : Int), .int ((1 + n : Nat) : Int)] H13 _ E0
        refine sum_dk ok dx13 0 (1 + n) (by omega) fun H14 q3 sm14 f3 => ?_
        have dx14 := dx_same sm14 dx13
        have hM14 := hM11.same ((sm12.trans sm13).trans sm14)
        refine ⟨z 3 (by decide), fun l1 k1 => ?_⟩
        obtain ⟨H15, g15, s15, hM15, e15⟩ := new_obj hM14 (.lst [.ref q1, .ref q2, .ref q3]) k1
        rw [g15]
        have dx15 := dx_same s15 dx14
        have d1 : Dx K (fun a => a = l1) H15 (.ref q1) (frD5 k 1 n) := dx_pr (s15 _ _ (sm14 _ _ (sm13 _ _ f1)))
        have d2 : Dx K (fun a => a = l1) H15 (.ref q2) (frD5 k 0 0) := dx_pr (s15 _ _ (sm14 _ _ f2))
        have d3 : Dx K (fun a => a = l1) H15 (.ref q3) (frD5 k 0 (1 + n)) := dx_pr (s15 _ _ f3)
        have dtl : Dt 10 3 (.list [frD5 k 1 n, frD5 k 0 0, frD5 k 0 (1 + n)]) := (Dts.list (Dts.cons (fr_dt ok (by omega) (by omega)) (Dts.cons (fr_dt ok (by omega) (by omega)) (Dts.cons (fr_dt ok (by omega) (by omega)) Dts.nil)))).le (by decide) (by decide)
        obtain ⟨th1, th2, th3⟩ := dtl.show (by decide) (by decide)
        refine ⟨_, rfl, _, .list [frD5 k 1 n, frD5 k 0 0, frD5 k 0 (1 + n)], fun a => a = l1, rfl, .lst e15 rfl (.cons d1 (.cons d2 (.cons d3 .nil))), th1, th2, th3, ?_⟩
        refine ⟨_, rfl, _, rfl, ZL L F, .ref p2, k, n, rfl, ok, dx15, by omega, fun H16 q4 sm16 f4 => ?_⟩
        have hM16 := hM15.same sm16
        refine ⟨z 2 (by decide), fun t5 m5 => ?_⟩
        obtain ⟨H17, g17, s17, hM17, e17⟩ := new_obj hM16 (.tup [.int 1, .int 1]) m5
        rw [g17]
        refine ⟨z 2 (by decide), fun t6 m6 => ?_⟩
        obtain ⟨H18, g18, s18, hM18, e18⟩ := new_obj hM17 (.tup [.int 0, .int 1]) m6
        rw [g18]
        refine ⟨z 3 (by decide), fun l2 k2 => ?_⟩
        obtain ⟨H19, g19, s19, hM19, e19⟩ := new_obj hM18 (.lst [.ref q4, .ref t5, .ref t6]) k2
        rw [g19]
        have c1 : Dx K (fun a => a = l2) H19 (.ref q4) (frD5 k 1 n) := dx_pr (s19 _ _ (s18 _ _ (s17 _ _ f4)))
        have c2 : Dx K (fun a => a = l2) H19 (.ref t5) (frD5 k 0 0) := by
          rw [none_c ok]
          exact dx_pr (s19 _ _ (s18 _ _ e17))
        have c3 : Dx K (fun a => a = l2) H19 (.ref t6) (frD5 k 0 (1 + n)) := by
          rw [none_s ok]
          exact dx_pr (s19 _ _ e18)
        refine ⟨_, .list [frD5 k 1 n, frD5 k 0 0, frD5 k 0 (1 + n)], fun a => a = l2, rfl, .lst e19 rfl (.cons c1 (.cons c2 (.cons c3 .nil))), th1, th2, th3, rfl, _, rfl, ?_⟩
        have dx19 := dx_same (((sm16.trans s17).trans s18).trans s19) dx15
        refine ite2 (fun e => absurd e (by rw [decide_eq_true rfl]; decide)) (fun _ => ?_)
        refine ⟨_, rfl, _, k.data, ZL L F, rfl, dx19, sh1, sh2, sh3, _, rfl, rfl, _, rfl, ?_⟩
        refine ite2 (fun e => absurd e (by rw [decide_eq_true rfl]; decide)) (fun _ => ?_)
        exact ⟨hM19, _, _, _, _, _, _, _, _, _, _, _, _, _, rfl⟩
    · rintro σ H1 ⟨hM1, y2, y3, y4, y5, y6, y7, y8, y9, y10, y11, y12, y13, y14, rfl⟩
      refine ⟨_, rfl, L, F, rfl, hM1, fun H2 kp2 hM2 => ⟨_, rfl, ite2 (fun e => absurd e (by decide)) (fun _ => ?_)⟩⟩
      refine ⟨_, rfl, L, F, 2, rfl, hM2, by decide, fun H3 w0 kp3 hM3 w00 w01 => ⟨z 2 (by decide), fun t1 m1 => ?_⟩⟩
      obtain ⟨H4, g4, s4, hM4, e4⟩ := new_obj hM3 (.tup [.int 1, .int 2]) m1
      rw [g4]
      refine ⟨z 2 (by decide), fun t2 m2 => ?_⟩
      obtain ⟨H5, g5, s5, hM5, e5⟩ := new_obj hM4 (.tup [.int w0, .ref t1]) m2
      rw [g5]
      refine ⟨_, rfl, L, F, 2, rfl, hM5, by decide, fun H6 w1 kp6 hM6 w10 w11 => ⟨_, _, rfl, rfl, ?_⟩⟩
      have dz0 : Dx K (ZL L F) H5 (.ref t2) (sideD w0 1 2) := .tup (SqT.of e5) (.cons (.int _) (.cons (dx_pr (s5 _ _ e4)) .nil))
      have dz1 := dx_kp kp6 hM5 dz0
      refine ⟨z 2 (by decide), fun t3 m3 => ?_⟩
      obtain ⟨H7, g7, s7, hM7, e7⟩ := new_obj hM6 (.tup [.int 1, .int 2]) m3
      rw [g7]
      refine ⟨z 2 (by decide), fun t4 m4 => ?_⟩
      obtain ⟨H8, g8, s8, hM8, e8⟩ := new_obj hM7 (.tup [.int (2 + w1), .ref t3]) m4
      rw [g8]
      refine ⟨z 2 (by decide), fun t5 m5 => ?_⟩
      obtain ⟨H9, g9, s9, hM9, e9⟩ := new_obj hM8 (.tup [.ref t2, .ref t4]) m5
      rw [g9]
      have dz2 : Dx K (ZL L F) H8 (.ref t4) (sideD (2 + w1) 1 2) := .tup (SqT.of e8) (.cons (.int _) (.cons (dx_pr (s8 _ _ e7)) .nil))
      have dz3 : Dx K (ZL L F) H9 (.ref t5) (.tuple [sideD w0 1 2, sideD (2 + w1) 1 2]) := .tup (SqT.of e9) (.cons (dx_same ((s7.trans s8).trans s9) dz1) (.cons (dx_same s9 dz2) .nil))
      refine ⟨_, rfl, z 2 (by decide), fun t6 m6 => ?_⟩
      obtain ⟨H10, g10, s10, hM10, e10⟩ := new_obj hM9 (.tup [.str "die", .ref t5]) m6
      rw [g10]
      have dA : Dx K (ZL L F) H10 (.ref t6) (DK.die [(w0, 1), (2 + w1, 1)] 2).data := by
        rw [two_data]
        exact .tup (SqT.of e10) (.cons (.str _) (.cons (dx_same s10 dz3) .nil))
      refine ⟨z 2 (by decide), fun t7 mt7 => ?_⟩
      obtain ⟨H11, g11, s11, hM11, e11⟩ := new_obj hM10 (.tup [.int 1, .int 1]) mt7
      rw [g11]
      refine ⟨z 2 (by decide), fun t8 mt8 => ?_⟩
      obtain ⟨H12, g12, s12, hM12, e12⟩ := new_obj hM11 (.tup [.int 1, .ref t7]) mt8
      rw [g12]
      refine ⟨z 1 (by decide), fun t9 mt9 => ?_⟩
      obtain ⟨H13, g13, s13, hM13, e13⟩ := new_obj hM12 (.tup [.ref t8]) mt9
      rw [g13]
      refine ⟨z 2 (by decide), fun t10 mt10 => ?_⟩
      obtain ⟨H14, g14, s14, hM14, e14⟩ := new_obj hM13 (.tup [.str "die", .ref t9]) mt10
      rw [g14]
      have du0 : Dx K (ZL L F) H12 (.ref t8) (sideD 1 1 1) := .tup (SqT.of e12) (.cons (.int _) (.cons (dx_pr (s12 _ _ e11)) .nil))
      have du1 : Dx K (ZL L F) H13 (.ref t9) (.tuple [sideD 1 1 1]) := .tup (SqT.of e13) (.cons (dx_same s13 du0) .nil)
      have dB : Dx K (ZL L F) H14 (.ref t10) (DK.die [(1, 1)] 1).data := by
        rw [one_data]
        exact .tup (SqT.of e14) (.cons (.str _) (.cons (dx_same s14 du1) .nil))
      refine ⟨z 2 (by decide), fun t11 mt11 => ?_⟩
      obtain ⟨H15, g15, s15, hM15, e15⟩ := new_obj hM14 (.tup [.int 1, .int 2]) mt11
      rw [g15]
      refine ⟨z 2 (by decide), fun t12 mt12 => ?_⟩
      obtain ⟨H16, g16, s16, hM16, e16⟩ := new_obj hM15 (.tup [.str "till", .ref t11]) mt12
      rw [g16]
      have dC : Dx K (ZL L F) H16 (.ref t12) (DK.till 1 2).data := .tup (SqT.of e16) (.cons (.str _) (.cons (dx_pr (s16 _ _ e15)) .nil))
      refine ⟨z 2 (by decide), fun t13 mt13 => ?_⟩
      obtain ⟨H17, g17, s17, hM17, e17⟩ := new_obj hM16 (.tup [.int 1, .int 3]) mt13
      rw [g17]
      refine ⟨z 2 (by decide), fun t14 mt14 => ?_⟩
      obtain ⟨H18, g18, s18, hM18, e18⟩ := new_obj hM17 (.tup [.int 0, .ref t13]) mt14
      rw [g18]
      refine ⟨z 2 (by decide), fun t15 mt15 => ?_⟩
      obtain ⟨H19, g19, s19, hM19, e19⟩ := new_obj hM18 (.tup [.int 2, .int 3]) mt15
      rw [g19]
      refine ⟨z 2 (by decide), fun t16 mt16 => ?_⟩
      obtain ⟨H20, g20, s20, hM20, e20⟩ := new_obj hM19 (.tup [.int 9, .ref t15]) mt16
      rw [g20]
      refine ⟨z 2 (by decide), fun t17 mt17 => ?_⟩
      obtain ⟨H21, g21, s21, hM21, e21⟩ := new_obj hM20 (.tup [.ref t14, .ref t16]) mt17
      rw [g21]
      refine ⟨z 2 (by decide), fun t18 mt18 => ?_⟩
      obtain ⟨H22, g22, s22, hM22, e22⟩ := new_obj hM21 (.tup [.str "die", .ref t17]) mt18
      rw [g22]
      have dv0 : Dx K (ZL L F) H18 (.ref t14) (sideD 0 1 3) := .tup (SqT.of e18) (.cons (.int _) (.cons (dx_pr (s18 _ _ e17)) .nil))
      have dv1 : Dx K (ZL L F) H20 (.ref t16) (sideD 9 2 3) := .tup (SqT.of e20) (.cons (.int _) (.cons (dx_pr (s20 _ _ e19)) .nil))
      have dv2 : Dx K (ZL L F) H21 (.ref t17) (.tuple [sideD 0 1 3, sideD 9 2 3]) := .tup (SqT.of e21) (.cons (dx_same ((s19.trans s20).trans s21) dv0) (.cons (dx_same s21 dv1) .nil))
      have dD : Dx K (ZL L F) H22 (.ref t18) (DK.die [(0, 1), (9, 2)] 3).data := by
        rw [nine_data]
        exact .tup (SqT.of e22) (.cons (.str _) (.cons (dx_same s22 dv2) .nil))
      refine ⟨z 4 (by decide), fun l1 ml1 => ?_⟩
      obtain ⟨H23, g23, s23, hM23, e23⟩ := new_obj hM22 (.lst [.ref t6, .ref t10, .ref t12, .ref t18]) ml1
      rw [g23]
      have dA2 := dx_same ((((((((((((s11.trans s12).trans s13).trans s14).trans s15).trans s16).trans s17).trans s18).trans s19).trans s20).trans s21).trans s22).trans s23) dA
      have dB2 := dx_same ((((((((s15.trans s16).trans s17).trans s18).trans s19).trans s20).trans s21).trans s22).trans s23) dB
      have dC2 := dx_same ((((((s17.trans s18).trans s19).trans s20).trans s21).trans s22).trans s23) dC
      have dD2 := dx_same s23 dD
      have nl1 := hM22.ne ml1
      refine ⟨_, rfl, _, rfl, L, F, l1, _, rfl, hM23, SqL.of e23, nl1.1, nl1.2, (by show 0 < 4; decide), (by show 4 < 1073741824; decide), fun Ha i0 x0 kpa hMa hx => ?_⟩
      obtain ⟨k, ok, dk⟩ : ∃ k : DK, k.ok ∧ Dx K (ZL L F) Ha x0 k.data := by
        have hx' := List.mem_of_getElem? hx
        simp only [List.mem_cons, List.not_mem_nil, or_false] at hx'
        rcases hx' with rfl | rfl | rfl | rfl
        · exact ⟨_, two_ok w00 (by omega) (by omega), dx_kp kpa hM23 dA2⟩
        · exact ⟨_, one_ok, dx_kp kpa hM23 dB2⟩
        · exact ⟨_, half_ok, dx_kp kpa hM23 dC2⟩
        · exact ⟨_, nine_ok, dx_kp kpa hM23 dD2⟩
      obtain ⟨pd, ud, rfl, hT⟩ := die_head dk
      -- how many
      refine ⟨fun σ' H' => Kp L F Ha H' ∧ Lm H' L F ∧ ∃ m : Nat, σ' = [some (.ref a0), some (.ref L), y2, some (.ref pd), some (.int (m : Int)), y5, y6, y7, y8, y9, y10, y11, y12, y13, y14, some (.ref t5), some (.ref l1), none] ∧ 5 ≤ m ∧ m ≤ menuM k, ?_, ?_⟩
      · cases k with
        | till x y =>
          refine ⟨_, rfl, _, rfl, pd, _, _, _, rfl, rfl, hT, ix0, rfl, _, rfl, ite2 (fun e => absurd (show decide (V.str (Str.ofString "till") = V.str (Str.ofString "die")) = true from e) (by decide +kernel)) (fun _ => ?_)⟩
          refine ⟨z 2 (by decide), fun l2 k2 => ?_⟩
          obtain ⟨Hb, gb, sb, hMb, eb⟩ := new_obj hMa (.lst [.int 5, .int 8]) k2
          rw [gb]
          have nl2 := hMa.ne k2
          refine ⟨L, F, l2, _, rfl, hMb, SqL.of eb, nl2.1, nl2.2, (by show 0 < 2; decide), (by show 2 < 1073741824; decide), fun Hc i1 x1 kpc hMc hx1 => ?_⟩
          have hx' := List.mem_of_getElem? hx1
          simp only [List.mem_cons, List.not_mem_nil, or_false] at hx'
          rcases hx' with rfl | rfl
          · exact ⟨(kp_same sb).trans kpc, hMc, 5, rfl, by decide, by show 5 ≤ 8; decide⟩
          · exact ⟨(kp_same sb).trans kpc, hMc, 8, rfl, by decide, by show 8 ≤ 8; decide⟩
        | die l s =>
          refine ⟨_, rfl, _, rfl, pd, _, _, _, rfl, rfl, hT, ix0, rfl, _, rfl, ite2 (fun _ => ?_) (fun e => absurd (decide_eq_true rfl) e)⟩
          refine ⟨z 3 (by decide), fun l2 k2 => ?_⟩
          obtain ⟨Hb, gb, sb, hMb, eb⟩ := new_obj hMa (.lst [.int 12, .int 30, .int 60]) k2
          rw [gb]
          have nl2 := hMa.ne k2
          refine ⟨L, F, l2, _, rfl, hMb, SqL.of eb, nl2.1, nl2.2, (by show 0 < 3; decide), (by show 3 < 1073741824; decide), fun Hc i1 x1 kpc hMc hx1 => ?_⟩
          have hx' := List.mem_of_getElem? hx1
          simp only [List.mem_cons, List.not_mem_nil, or_false] at hx'
          rcases hx' with rfl | rfl | rfl
          · exact ⟨(kp_same sb).trans kpc, hMc, 12, rfl, by decide, by show 12 ≤ 60; decide⟩
          · exact ⟨(kp_same sb).trans kpc, hMc, 30, rfl, by decide, by show 30 ≤ 60; decide⟩
          · exact ⟨(kp_same sb).trans kpc, hMc, 60, rfl, by decide, by show 60 ≤ 60; decide⟩
      rintro σ' Hb ⟨kpb, hMb, m, rfl, m5, mm⟩
      have dkb := dx_kp kpb hMa dk
      obtain ⟨_, ud2, e2, hT2⟩ := die_head dkb
      cases e2
      -- far out
      refine ⟨fun σ' H' => ∃ (fa : Addr) (b c : Nat), σ' = [some (.ref a0), some (.ref L), y2, some (.ref pd), some (.int (m : Int)), y5, y6, y7, y8, y9, y10, y11, y12, y13, y14, some (.ref t5), some (.ref l1), some (.ref fa)] ∧ Same Hb H' ∧ H' fa = some (.lst [.int (b : Int), .int (c : Int)]) ∧ b ≤ menuN k ∧ c ≤ menuN k, ?_, ?_⟩
      · cases k with
        | till x y =>
          refine ⟨_, rfl, pd, _, _, _, rfl, rfl, hT2, ix0, rfl, _, rfl, ite2 (fun e => absurd (show decide (V.str (Str.ofString "till") = V.str (Str.ofString "die")) = true from e) (by decide +kernel)) (fun _ => ?_)⟩
          exact ⟨z 2 (by decide), fun l3 k3 => ⟨l3, 9, 12, rfl, same_new k3, upd_same, by show 9 ≤ 16; decide, by show 12 ≤ 16; decide⟩⟩
        | die l s =>
          refine ⟨_, rfl, pd, _, _, _, rfl, rfl, hT2, ix0, rfl, _, rfl, ite2 (fun _ => ?_) (fun e => absurd (decide_eq_true rfl) e)⟩
          exact ⟨z 2 (by decide), fun l3 k3 => ⟨l3, 30, 60, rfl, same_new k3, upd_same, by show 30 ≤ 60; decide, by show 60 ≤ 60; decide⟩⟩
      rintro σ' Hc ⟨fa, b, c, rfl, sc, hfa, hb, hc⟩
      have hMc := hMb.same sc
      have dkc := dx_same sc dkb
      have mle := (menu_le k).2
      -- which number
      have em1 : (m : Int) - 1 = ((m - 1 : Nat) : Int) := by omega
      obtain ⟨v, ev, vN⟩ : ∃ v : Nat, (if 2 * (m : Int) < 60 then 2 * (m : Int) else 60) = (v : Int) ∧ v ≤ menuN k := by
        cases k with
        | till x y =>
          have mm' : m ≤ 8 := mm
          exact ⟨2 * m, by rw [if_pos (by omega)]; omega, by show 2 * m ≤ 16; omega⟩
        | die l s =>
          by_cases h : 2 * (m : Int) < 60
          · exact ⟨2 * m, by rw [if_pos h]; omega, by show 2 * m ≤ 60; omega⟩
          · exact ⟨60, by rw [if_neg h]; rfl, by show 60 ≤ 60; decide⟩
      have mN : m ≤ menuN k := by
        cases k with
        | till x y => exact Nat.le_trans mm (by show 8 ≤ 16; decide)
        | die l s => exact mm
      refine ⟨_, rfl, _, rfl, _, _, rfl, rfl, _, rfl, _, rfl, _, _, rfl, rfl, .inr ⟨by omega, by omega⟩, _, _, rfl, ?_⟩
      dsimp only [tNil, tCons]
      rw [ev, em1]
      refine ⟨z 6 (by decide), fun l4 k4 => ?_⟩
      obtain ⟨Hd, gd, sd, hMd, ed⟩ := new_obj hMc (.lst [.int 0, .int 1, .int 2, .int ((m - 1 : Nat) : Int), .int (m : Int), .int (v : Int)]) k4
      rw [gd]
      refine ⟨_, rfl, l4, fa, _, _, rfl, rfl, ed, sd _ _ hfa, z 8 (by decide), fun l5 k5 => ?_⟩
      obtain ⟨He, ge, se, hMe, ee⟩ := new_obj hMd (.lst ([.int 0, .int 1, .int 2, .int ((m - 1 : Nat) : Int), .int (m : Int), .int (v : Int)] ++ [.int (b : Int), .int (c : Int)])) k5
      rw [ge]
      have nl5 := hMd.ne k5
      refine ⟨L, F, l5, _, rfl, hMe, SqL.of ee, nl5.1, nl5.2, (by show 0 < 8; decide), (by show 8 < 1073741824; decide), fun Hf i2 x2 kpf hMf hx2 => ?_⟩
      obtain ⟨n, rfl, nN⟩ : ∃ n : Nat, x2 = .int (n : Int) ∧ n ≤ menuN k := by
        have hx' := List.mem_of_getElem? hx2
        simp only [List.cons_append, List.nil_append, List.mem_cons, List.not_mem_nil, or_false] at hx'
        rcases hx' with rfl | rfl | rfl | rfl | rfl | rfl | rfl | rfl
        · exact ⟨0, rfl, Nat.zero_le _⟩
        · exact ⟨1, rfl, by omega⟩
        · exact ⟨2, rfl, by omega⟩
        · exact ⟨m - 1, rfl, by omega⟩
        · exact ⟨m, rfl, mN⟩
        · exact ⟨v, rfl, vN⟩
        · exact ⟨b, rfl, hb⟩
        · exact ⟨c, rfl, hc⟩
      have n60 : n ≤ 60 := Nat.le_trans nN (menu_le k).1
      have dkf := dx_kp ((kp_same (sd.trans se)).trans kpf) hMc dkc
      refine ⟨_, rfl, _, rfl, _, rfl, _, rfl, _, rfl, _, rfl, ZL L F, .ref pd, k, m, n, rfl, ok, dkf, by omega, by omega, menu_bg ok mm nN, fun Hg Dg ysg smg _ hDg dDg => ?_⟩
      obtain ⟨u, hu1, du⟩ := dxAll_at dDg (i := n) (d := frD5 k m n) (by rw [List.getElem?_map, List.getElem?_range (by omega)]; rfl)
      refine ⟨_, rfl, Dg, _, _, _, rfl, rfl, SqL.of hDg, at_of (j := n) rfl hu1, ?_⟩
      exact ⟨ZL L F, NoP, .ref pd, u, k, m, n, false, rfl, ok, dx_same smg dkf, du, by omega, by omega, fun Hh _ => q _⟩
end
end Ev

set_option exponentiation.threshold 256
namespace Ev
open PySem PySem.Spec PyProof.Rows L2
theorem all_mk {l : PySem.W.OpenLaw} {w : World} {K : PySem.W.Frag} {h : Heap} {mg : Str → Option Value} {fa : Addr}
    (X : K.In h) (G : h.Ns mainGlobals mg) (hfa : mg "law" = some (.ref fa))
    {f0 : Addr} {od0 an0 : Option Addr} {sl0 : Array (Option Value)} {oc0 kV0 dc0 pm0 cd0 ct0 : Value}
    (a0 : PySem.W.nsIn K mainGlobals "lowest" = some (some (.ref f0)))
    (l0 : K.lookup f0 = some ⟨oc0, od0, .func (PySem.W.fnOf "lowest" "lowest" (defArgs s_lowest) (defBody s_lowest) (defScope s_lowest) .none kV0 dc0 pm0 an0 cd0 ct0), sl0⟩)
    (c0 : PySem.W.codeIn K cd0 "lowest" = true)
    (k0 : PySem.W.keepIn K (.ref f0) = true)
    {f1 : Addr} {od1 an1 : Option Addr} {sl1 : Array (Option Value)} {oc1 kV1 dc1 pm1 cd1 ct1 : Value}
    (a1 : PySem.W.nsIn K mainGlobals "power" = some (some (.ref f1)))
    (l1 : K.lookup f1 = some ⟨oc1, od1, .func (PySem.W.fnOf "power" "power" (defArgs s_power) (defBody s_power) (defScope s_power) .none kV1 dc1 pm1 an1 cd1 ct1), sl1⟩)
    (c1 : PySem.W.codeIn K cd1 "power" = true)
    (k1 : PySem.W.keepIn K (.ref f1) = true)
    {f2 : Addr} {od2 an2 : Option Addr} {sl2 : Array (Option Value)} {oc2 kV2 dc2 pm2 cd2 ct2 : Value}
    (a2 : PySem.W.nsIn K mainGlobals "side_weights" = some (some (.ref f2)))
    (l2 : K.lookup f2 = some ⟨oc2, od2, .func (PySem.W.fnOf "side_weights" "side_weights" (defArgs s_side_weights) (defBody s_side_weights) (defScope s_side_weights) .none kV2 dc2 pm2 an2 cd2 ct2), sl2⟩)
    (c2 : PySem.W.codeIn K cd2 "side_weights" = true)
    (k2 : PySem.W.keepIn K (.ref f2) = true)
    {f3 : Addr} {od3 an3 : Option Addr} {sl3 : Array (Option Value)} {oc3 kV3 dc3 pm3 cd3 ct3 : Value}
    (a3 : PySem.W.nsIn K mainGlobals "throw_weights" = some (some (.ref f3)))
    (l3 : K.lookup f3 = some ⟨oc3, od3, .func (PySem.W.fnOf "throw_weights" "throw_weights" (defArgs s_throw_weights) (defBody s_throw_weights) (defScope s_throw_weights) .none kV3 dc3 pm3 an3 cd3 ct3), sl3⟩)
    (c3 : PySem.W.codeIn K cd3 "throw_weights" = true)
    (k3 : PySem.W.keepIn K (.ref f3) = true)
    {f4 : Addr} {od4 an4 : Option Addr} {sl4 : Array (Option Value)} {oc4 kV4 dc4 pm4 cd4 ct4 : Value}
    (a4 : PySem.W.nsIn K mainGlobals "_power_weights" = some (some (.ref f4)))
    (l4 : K.lookup f4 = some ⟨oc4, od4, .func (PySem.W.fnOf "_power_weights" "_power_weights" (defArgs s_power_weights) (defBody s_power_weights) (defScope s_power_weights) .none kV4 dc4 pm4 an4 cd4 ct4), sl4⟩)
    (c4 : PySem.W.codeIn K cd4 "_power_weights" = true)
    (k4 : PySem.W.keepIn K (.ref f4) = true)
    {f5 : Addr} {od5 an5 : Option Addr} {sl5 : Array (Option Value)} {oc5 kV5 dc5 pm5 cd5 ct5 : Value}
    (a5 : PySem.W.nsIn K mainGlobals "_misses_share" = some (some (.ref f5)))
    (l5 : K.lookup f5 = some ⟨oc5, od5, .func (PySem.W.fnOf "_misses_share" "_misses_share" (defArgs s_misses_share) (defBody s_misses_share) (defScope s_misses_share) .none kV5 dc5 pm5 an5 cd5 ct5), sl5⟩)
    (c5 : PySem.W.codeIn K cd5 "_misses_share" = true)
    (k5 : PySem.W.keepIn K (.ref f5) = true)
    {f6 : Addr} {od6 an6 : Option Addr} {sl6 : Array (Option Value)} {oc6 kV6 dc6 pm6 cd6 ct6 : Value}
    (a6 : PySem.W.nsIn K mainGlobals "sum_share" = some (some (.ref f6)))
    (l6 : K.lookup f6 = some ⟨oc6, od6, .func (PySem.W.fnOf "sum_share" "sum_share" (defArgs s_sum_share) (defBody s_sum_share) (defScope s_sum_share) .none kV6 dc6 pm6 an6 cd6 ct6), sl6⟩)
    (c6 : PySem.W.codeIn K cd6 "sum_share" = true)
    (k6 : PySem.W.keepIn K (.ref f6) = true)
    {f7 : Addr} {od7 an7 : Option Addr} {sl7 : Array (Option Value)} {oc7 kV7 dc7 pm7 cd7 ct7 : Value}
    (a7 : PySem.W.nsIn K mainGlobals "side_share" = some (some (.ref f7)))
    (l7 : K.lookup f7 = some ⟨oc7, od7, .func (PySem.W.fnOf "side_share" "side_share" (defArgs s_side_share) (defBody s_side_share) (defScope s_side_share) .none kV7 dc7 pm7 an7 cd7 ct7), sl7⟩)
    (c7 : PySem.W.codeIn K cd7 "side_share" = true)
    (k7 : PySem.W.keepIn K (.ref f7) = true)
    {f8 : Addr} {od8 an8 : Option Addr} {sl8 : Array (Option Value)} {oc8 kV8 dc8 pm8 cd8 ct8 : Value}
    (a8 : PySem.W.nsIn K mainGlobals "_law_loom" = some (some (.ref f8)))
    (l8 : K.lookup f8 = some ⟨oc8, od8, .func (PySem.W.fnOf "_law_loom" "_law_loom" (defArgs s_loom) (defBody s_loom) (defScope s_loom) .none kV8 dc8 pm8 an8 cd8 ct8), sl8⟩)
    (c8 : PySem.W.codeIn K cd8 "_law_loom" = true)
    (k8 : PySem.W.keepIn K (.ref f8) = true)
    {f9 : Addr} {od9 an9 : Option Addr} {sl9 : Array (Option Value)} {oc9 kV9 dc9 pm9 cd9 ct9 : Value}
    (a9 : PySem.W.nsIn K mainGlobals "_law_draw" = some (some (.ref f9)))
    (l9 : K.lookup f9 = some ⟨oc9, od9, .func (PySem.W.fnOf "_law_draw" "_law_draw" (defArgs s_draw) (defBody s_draw) (defScope s_draw) .none kV9 dc9 pm9 an9 cd9 ct9), sl9⟩)
    (c9 : PySem.W.codeIn K cd9 "_law_draw" = true)
    (k9 : PySem.W.keepIn K (.ref f9) = true)
    {f10 : Addr} {od10 an10 : Option Addr} {sl10 : Array (Option Value)} {oc10 kV10 dc10 pm10 cd10 ct10 : Value}
    (a10 : PySem.W.nsIn K mainGlobals "_law_pick" = some (some (.ref f10)))
    (l10 : K.lookup f10 = some ⟨oc10, od10, .func (PySem.W.fnOf "_law_pick" "_law_pick" (defArgs s_pick) (defBody s_pick) (defScope s_pick) .none kV10 dc10 pm10 an10 cd10 ct10), sl10⟩)
    (c10 : PySem.W.codeIn K cd10 "_law_pick" = true)
    (k10 : PySem.W.keepIn K (.ref f10) = true)
    {f11 : Addr} {od11 an11 : Option Addr} {sl11 : Array (Option Value)} {oc11 kV11 dc11 pm11 cd11 ct11 : Value}
    (a11 : PySem.W.nsIn K mainGlobals "_law_mixed" = some (some (.ref f11)))
    (l11 : K.lookup f11 = some ⟨oc11, od11, .func (PySem.W.fnOf "_law_mixed" "_law_mixed" (defArgs s_mixed) (defBody s_mixed) (defScope s_mixed) .none kV11 dc11 pm11 an11 cd11 ct11), sl11⟩)
    (c11 : PySem.W.codeIn K cd11 "_law_mixed" = true)
    (k11 : PySem.W.keepIn K (.ref f11) = true)
    {f12 : Addr} {od12 an12 : Option Addr} {sl12 : Array (Option Value)} {oc12 kV12 dc12 pm12 cd12 ct12 : Value}
    (a12 : PySem.W.nsIn K mainGlobals "_law_gcd" = some (some (.ref f12)))
    (l12 : K.lookup f12 = some ⟨oc12, od12, .func (PySem.W.fnOf "_law_gcd" "_law_gcd" (defArgs s_gcd) (defBody s_gcd) (defScope s_gcd) .none kV12 dc12 pm12 an12 cd12 ct12), sl12⟩)
    (c12 : PySem.W.codeIn K cd12 "_law_gcd" = true)
    (k12 : PySem.W.keepIn K (.ref f12) = true)
    {f13 : Addr} {od13 an13 : Option Addr} {sl13 : Array (Option Value)} {oc13 kV13 dc13 pm13 cd13 ct13 : Value}
    (a13 : PySem.W.nsIn K mainGlobals "_law_frac" = some (some (.ref f13)))
    (l13 : K.lookup f13 = some ⟨oc13, od13, .func (PySem.W.fnOf "_law_frac" "_law_frac" (defArgs s_frac) (defBody s_frac) (defScope s_frac) .none kV13 dc13 pm13 an13 cd13 ct13), sl13⟩)
    (c13 : PySem.W.codeIn K cd13 "_law_frac" = true)
    (k13 : PySem.W.keepIn K (.ref f13) = true)
    {f14 : Addr} {od14 an14 : Option Addr} {sl14 : Array (Option Value)} {oc14 kV14 dc14 pm14 cd14 ct14 : Value}
    (a14 : PySem.W.nsIn K mainGlobals "_law_plus" = some (some (.ref f14)))
    (l14 : K.lookup f14 = some ⟨oc14, od14, .func (PySem.W.fnOf "_law_plus" "_law_plus" (defArgs s_plus) (defBody s_plus) (defScope s_plus) .none kV14 dc14 pm14 an14 cd14 ct14), sl14⟩)
    (c14 : PySem.W.codeIn K cd14 "_law_plus" = true)
    (k14 : PySem.W.keepIn K (.ref f14) = true)
    {f15 : Addr} {od15 an15 : Option Addr} {sl15 : Array (Option Value)} {oc15 kV15 dc15 pm15 cd15 ct15 : Value}
    (a15 : PySem.W.nsIn K mainGlobals "_law_times" = some (some (.ref f15)))
    (l15 : K.lookup f15 = some ⟨oc15, od15, .func (PySem.W.fnOf "_law_times" "_law_times" (defArgs s_times) (defBody s_times) (defScope s_times) .none kV15 dc15 pm15 an15 cd15 ct15), sl15⟩)
    (c15 : PySem.W.codeIn K cd15 "_law_times" = true)
    (k15 : PySem.W.keepIn K (.ref f15) = true)
    {f16 : Addr} {od16 an16 : Option Addr} {sl16 : Array (Option Value)} {oc16 kV16 dc16 pm16 cd16 ct16 : Value}
    (a16 : PySem.W.nsIn K mainGlobals "_law_share" = some (some (.ref f16)))
    (l16 : K.lookup f16 = some ⟨oc16, od16, .func (PySem.W.fnOf "_law_share" "_law_share" (defArgs s_share) (defBody s_share) (defScope s_share) .none kV16 dc16 pm16 an16 cd16 ct16), sl16⟩)
    (c16 : PySem.W.codeIn K cd16 "_law_share" = true)
    (k16 : PySem.W.keepIn K (.ref f16) = true)
    {f17 : Addr} {od17 an17 : Option Addr} {sl17 : Array (Option Value)} {oc17 kV17 dc17 pm17 cd17 ct17 : Value}
    (a17 : PySem.W.nsIn K mainGlobals "_law_die" = some (some (.ref f17)))
    (l17 : K.lookup f17 = some ⟨oc17, od17, .func (PySem.W.fnOf "_law_die" "_law_die" (defArgs s_die) (defBody s_die) (defScope s_die) .none kV17 dc17 pm17 an17 cd17 ct17), sl17⟩)
    (c17 : PySem.W.codeIn K cd17 "_law_die" = true)
    (k17 : PySem.W.keepIn K (.ref f17) = true)
    {f18 : Addr} {od18 an18 : Option Addr} {sl18 : Array (Option Value)} {oc18 kV18 dc18 pm18 cd18 ct18 : Value}
    (a18 : PySem.W.nsIn K mainGlobals "_law_parts" = some (some (.ref f18)))
    (l18 : K.lookup f18 = some ⟨oc18, od18, .func (PySem.W.fnOf "_law_parts" "_law_parts" (defArgs s_parts) (defBody s_parts) (defScope s_parts) .none kV18 dc18 pm18 an18 cd18 ct18), sl18⟩)
    (c18 : PySem.W.codeIn K cd18 "_law_parts" = true)
    (k18 : PySem.W.keepIn K (.ref f18) = true)
    {f19 : Addr} {od19 an19 : Option Addr} {sl19 : Array (Option Value)} {oc19 kV19 dc19 pm19 cd19 ct19 : Value}
    (a19 : PySem.W.nsIn K mainGlobals "_law_summed" = some (some (.ref f19)))
    (l19 : K.lookup f19 = some ⟨oc19, od19, .func (PySem.W.fnOf "_law_summed" "_law_summed" (defArgs s_summed) (defBody s_summed) (defScope s_summed) .none kV19 dc19 pm19 an19 cd19 ct19), sl19⟩)
    (c19 : PySem.W.codeIn K cd19 "_law_summed" = true)
    (k19 : PySem.W.keepIn K (.ref f19) = true)
    {f20 : Addr} {od20 an20 : Option Addr} {sl20 : Array (Option Value)} {oc20 kV20 dc20 pm20 cd20 ct20 : Value}
    (a20 : PySem.W.nsIn K mainGlobals "_law_till_sum" = some (some (.ref f20)))
    (l20 : K.lookup f20 = some ⟨oc20, od20, .func (PySem.W.fnOf "_law_till_sum" "_law_till_sum" (defArgs s_till_sum) (defBody s_till_sum) (defScope s_till_sum) .none kV20 dc20 pm20 an20 cd20 ct20), sl20⟩)
    (c20 : PySem.W.codeIn K cd20 "_law_till_sum" = true)
    (k20 : PySem.W.keepIn K (.ref f20) = true)
    {f21 : Addr} {od21 an21 : Option Addr} {sl21 : Array (Option Value)} {oc21 kV21 dc21 pm21 cd21 ct21 : Value}
    (a21 : PySem.W.nsIn K mainGlobals "_law_are_many_told" = some (some (.ref f21)))
    (l21 : K.lookup f21 = some ⟨oc21, od21, .func (PySem.W.fnOf "_law_are_many_told" "_law_are_many_told" (defArgs s_are_many_told) (defBody s_are_many_told) (defScope s_are_many_told) .none kV21 dc21 pm21 an21 cd21 ct21), sl21⟩)
    (c21 : PySem.W.codeIn K cd21 "_law_are_many_told" = true)
    (k21 : PySem.W.keepIn K (.ref f21) = true)
    {f22 : Addr} {od22 an22 : Option Addr} {sl22 : Array (Option Value)} {oc22 kV22 dc22 pm22 cd22 ct22 : Value}
    (a22 : PySem.W.nsIn K mainGlobals "_law_is_told" = some (some (.ref f22)))
    (l22 : K.lookup f22 = some ⟨oc22, od22, .func (PySem.W.fnOf "_law_is_told" "_law_is_told" (defArgs s_is_told) (defBody s_is_told) (defScope s_is_told) .none kV22 dc22 pm22 an22 cd22 ct22), sl22⟩)
    (c22 : PySem.W.codeIn K cd22 "_law_is_told" = true)
    (k22 : PySem.W.keepIn K (.ref f22) = true)
    {f23 : Addr} {od23 an23 : Option Addr} {sl23 : Array (Option Value)} {oc23 kV23 dc23 pm23 cd23 ct23 : Value}
    (a23 : PySem.W.nsIn K mainGlobals "law" = some (some (.ref f23)))
    (l23 : K.lookup f23 = some ⟨oc23, od23, .func (PySem.W.fnOf "law" "law" (defArgs s_law) (defBody s_law) (defScope s_law) .none kV23 dc23 pm23 an23 cd23 ct23), sl23⟩)
    (c23 : PySem.W.codeIn K cd23 "law" = true)
    (k23 : PySem.W.keepIn K (.ref f23) = true)
    (n_int : PySem.W.nsIn K mainGlobals "int" = some none)
    (n_len : PySem.W.nsIn K mainGlobals "len" = some none)
    (n_abs : PySem.W.nsIn K mainGlobals "abs" = some none)
    (n_repr : PySem.W.nsIn K mainGlobals "repr" = some none)
    (n_range : PySem.W.nsIn K mainGlobals "range" = some none)
    (n_list : PySem.W.nsIn K mainGlobals "list" = some none)
    (n_tuple : PySem.W.nsIn K mainGlobals "tuple" = some none)
    (n_sorted : PySem.W.nsIn K mainGlobals "sorted" = some none)
    (n_sum : PySem.W.nsIn K mainGlobals "sum" = some none)
    (n_zip : PySem.W.nsIn K mainGlobals "zip" = some none)
    (n_enumerate : PySem.W.nsIn K mainGlobals "enumerate" = some none)
    (n_min : PySem.W.nsIn K mainGlobals "min" = some none)
    (n_gcd : PySem.W.nsIn K mainGlobals "gcd" = some (some (.builtin "math.gcd")))
    (n_lcm : PySem.W.nsIn K mainGlobals "lcm" = some (some (.builtin "math.lcm")))
    (n_comb : PySem.W.nsIn K mainGlobals "comb" = some (some (.builtin "math.comb")))
    : ∃ fd : FuncData, (∀ (s : Shared) (v : Value), BindsTo s fd ⟨[v], []⟩ [("script", v)]) ∧ ∀ base : Heap, K.In base → base.Ns mainGlobals mg →
      FnG l.prog w K mg base CX0 7 fa fd ["script"] (sp_law K) := by
  have e : f23 = fa := by
    cases hfa.symm.trans (PySem.W.mg_of X G a23)
    rfl
  subst e
  have T : Txt K mg (fun i => [f0, f1, f2, f3, f4, f5, f6, f7, f8, f9, f10, f11, f12, f13, f14, f15, f16, f17, f18, f19, f20, f21, f22, f23].getD i 0) (fun i => [(PySem.W.fnOf "lowest" "lowest" (defArgs s_lowest) (defBody s_lowest) (defScope s_lowest) .none kV0 dc0 pm0 an0 cd0 ct0),
      (PySem.W.fnOf "power" "power" (defArgs s_power) (defBody s_power) (defScope s_power) .none kV1 dc1 pm1 an1 cd1 ct1),
      (PySem.W.fnOf "side_weights" "side_weights" (defArgs s_side_weights) (defBody s_side_weights) (defScope s_side_weights) .none kV2 dc2 pm2 an2 cd2 ct2),
      (PySem.W.fnOf "throw_weights" "throw_weights" (defArgs s_throw_weights) (defBody s_throw_weights) (defScope s_throw_weights) .none kV3 dc3 pm3 an3 cd3 ct3),
      (PySem.W.fnOf "_power_weights" "_power_weights" (defArgs s_power_weights) (defBody s_power_weights) (defScope s_power_weights) .none kV4 dc4 pm4 an4 cd4 ct4),
      (PySem.W.fnOf "_misses_share" "_misses_share" (defArgs s_misses_share) (defBody s_misses_share) (defScope s_misses_share) .none kV5 dc5 pm5 an5 cd5 ct5),
      (PySem.W.fnOf "sum_share" "sum_share" (defArgs s_sum_share) (defBody s_sum_share) (defScope s_sum_share) .none kV6 dc6 pm6 an6 cd6 ct6),
      (PySem.W.fnOf "side_share" "side_share" (defArgs s_side_share) (defBody s_side_share) (defScope s_side_share) .none kV7 dc7 pm7 an7 cd7 ct7),
      (PySem.W.fnOf "_law_loom" "_law_loom" (defArgs s_loom) (defBody s_loom) (defScope s_loom) .none kV8 dc8 pm8 an8 cd8 ct8),
      (PySem.W.fnOf "_law_draw" "_law_draw" (defArgs s_draw) (defBody s_draw) (defScope s_draw) .none kV9 dc9 pm9 an9 cd9 ct9),
      (PySem.W.fnOf "_law_pick" "_law_pick" (defArgs s_pick) (defBody s_pick) (defScope s_pick) .none kV10 dc10 pm10 an10 cd10 ct10),
      (PySem.W.fnOf "_law_mixed" "_law_mixed" (defArgs s_mixed) (defBody s_mixed) (defScope s_mixed) .none kV11 dc11 pm11 an11 cd11 ct11),
      (PySem.W.fnOf "_law_gcd" "_law_gcd" (defArgs s_gcd) (defBody s_gcd) (defScope s_gcd) .none kV12 dc12 pm12 an12 cd12 ct12),
      (PySem.W.fnOf "_law_frac" "_law_frac" (defArgs s_frac) (defBody s_frac) (defScope s_frac) .none kV13 dc13 pm13 an13 cd13 ct13),
      (PySem.W.fnOf "_law_plus" "_law_plus" (defArgs s_plus) (defBody s_plus) (defScope s_plus) .none kV14 dc14 pm14 an14 cd14 ct14),
      (PySem.W.fnOf "_law_times" "_law_times" (defArgs s_times) (defBody s_times) (defScope s_times) .none kV15 dc15 pm15 an15 cd15 ct15),
      (PySem.W.fnOf "_law_share" "_law_share" (defArgs s_share) (defBody s_share) (defScope s_share) .none kV16 dc16 pm16 an16 cd16 ct16),
      (PySem.W.fnOf "_law_die" "_law_die" (defArgs s_die) (defBody s_die) (defScope s_die) .none kV17 dc17 pm17 an17 cd17 ct17),
      (PySem.W.fnOf "_law_parts" "_law_parts" (defArgs s_parts) (defBody s_parts) (defScope s_parts) .none kV18 dc18 pm18 an18 cd18 ct18),
      (PySem.W.fnOf "_law_summed" "_law_summed" (defArgs s_summed) (defBody s_summed) (defScope s_summed) .none kV19 dc19 pm19 an19 cd19 ct19),
      (PySem.W.fnOf "_law_till_sum" "_law_till_sum" (defArgs s_till_sum) (defBody s_till_sum) (defScope s_till_sum) .none kV20 dc20 pm20 an20 cd20 ct20),
      (PySem.W.fnOf "_law_are_many_told" "_law_are_many_told" (defArgs s_are_many_told) (defBody s_are_many_told) (defScope s_are_many_told) .none kV21 dc21 pm21 an21 cd21 ct21),
      (PySem.W.fnOf "_law_is_told" "_law_is_told" (defArgs s_is_told) (defBody s_is_told) (defScope s_is_told) .none kV22 dc22 pm22 an22 cd22 ct22),
      (PySem.W.fnOf "law" "law" (defArgs s_law) (defBody s_law) (defScope s_law) .none kV23 dc23 pm23 an23 cd23 ct23)].getD i (PySem.W.fnOf "lowest" "lowest" (defArgs s_lowest) (defBody s_lowest) (defScope s_lowest) .none kV0 dc0 pm0 an0 cd0 ct0)) :=
    { F_lowest := fun_mk (st := s_lowest) l0 c0 k0,
      g_lowest := PySem.W.mg_of X G a0,
      F_power := fun_mk (st := s_power) l1 c1 k1,
      g_power := PySem.W.mg_of X G a1,
      F_side_weights := fun_mk (st := s_side_weights) l2 c2 k2,
      g_side_weights := PySem.W.mg_of X G a2,
      F_throw_weights := fun_mk (st := s_throw_weights) l3 c3 k3,
      g_throw_weights := PySem.W.mg_of X G a3,
      F_power_weights := fun_mk (st := s_power_weights) l4 c4 k4,
      g_power_weights := PySem.W.mg_of X G a4,
      F_misses_share := fun_mk (st := s_misses_share) l5 c5 k5,
      g_misses_share := PySem.W.mg_of X G a5,
      F_sum_share := fun_mk (st := s_sum_share) l6 c6 k6,
      g_sum_share := PySem.W.mg_of X G a6,
      F_side_share := fun_mk (st := s_side_share) l7 c7 k7,
      g_side_share := PySem.W.mg_of X G a7,
      F_loom := fun_mk (st := s_loom) l8 c8 k8,
      g_loom := PySem.W.mg_of X G a8,
      F_draw := fun_mk (st := s_draw) l9 c9 k9,
      g_draw := PySem.W.mg_of X G a9,
      F_pick := fun_mk (st := s_pick) l10 c10 k10,
      g_pick := PySem.W.mg_of X G a10,
      F_mixed := fun_mk (st := s_mixed) l11 c11 k11,
      g_mixed := PySem.W.mg_of X G a11,
      F_gcd := fun_mk (st := s_gcd) l12 c12 k12,
      g_gcd := PySem.W.mg_of X G a12,
      F_frac := fun_mk (st := s_frac) l13 c13 k13,
      g_frac := PySem.W.mg_of X G a13,
      F_plus := fun_mk (st := s_plus) l14 c14 k14,
      g_plus := PySem.W.mg_of X G a14,
      F_times := fun_mk (st := s_times) l15 c15 k15,
      g_times := PySem.W.mg_of X G a15,
      F_share := fun_mk (st := s_share) l16 c16 k16,
      g_share := PySem.W.mg_of X G a16,
      F_die := fun_mk (st := s_die) l17 c17 k17,
      g_die := PySem.W.mg_of X G a17,
      F_parts := fun_mk (st := s_parts) l18 c18 k18,
      g_parts := PySem.W.mg_of X G a18,
      F_summed := fun_mk (st := s_summed) l19 c19 k19,
      g_summed := PySem.W.mg_of X G a19,
      F_till_sum := fun_mk (st := s_till_sum) l20 c20 k20,
      g_till_sum := PySem.W.mg_of X G a20,
      F_are_many_told := fun_mk (st := s_are_many_told) l21 c21 k21,
      g_are_many_told := PySem.W.mg_of X G a21,
      F_is_told := fun_mk (st := s_is_told) l22 c22 k22,
      g_is_told := PySem.W.mg_of X G a22,
      F_law := fun_mk (st := s_law) l23 c23 k23,
      g_law := PySem.W.mg_of X G a23,
      z_int := PySem.W.mg_none_of X G n_int,
      z_len := PySem.W.mg_none_of X G n_len,
      z_abs := PySem.W.mg_none_of X G n_abs,
      z_repr := PySem.W.mg_none_of X G n_repr,
      range := PySem.W.mg_none_of X G n_range,
      z_list := PySem.W.mg_none_of X G n_list,
      z_tuple := PySem.W.mg_none_of X G n_tuple,
      z_sorted := PySem.W.mg_none_of X G n_sorted,
      z_sum := PySem.W.mg_none_of X G n_sum,
      zip := PySem.W.mg_none_of X G n_zip,
      enumerate := PySem.W.mg_none_of X G n_enumerate,
      z_min := PySem.W.mg_none_of X G n_min,
      z_gcd := PySem.W.mg_of X G n_gcd,
      z_lcm := PySem.W.mg_of X G n_lcm,
      z_comb := PySem.W.mg_of X G n_comb }
  exact ⟨_, fun s v => .of_eq rfl, fun base _ _ => T.ok_law⟩
end Ev

open PySem PySem.W PyProof.Rows in
set_option maxRecDepth 100000 in
set_option maxHeartbeats 0 in
theorem PySem.Challenge.cw_everystart_k05_whole_sums_of_throws_holds : PySem.Challenge.rw_everystart_k05_whole_sums_of_throws.Holds := by
  w_on; o_law; k_head; (case hw => w_witness2)
  k_fill
  refine Ev.walk_ofG (l := PySem.Challenge.rw_everystart_k05_whole_sums_of_throws) (n := 63) (k := 7) (x := "script") (sp := fun w => Ev.sp_law _) rfl (by decide) rfl ⟨rfl, by decide, by decide⟩ (fun w h Y => PySem.W.kIn_of Y) ?F (fun _ _ a ns hl _ hS => ⟨a, ns, rfl, hS, hl, fun _ => rfl⟩)
  case F =>
    intro w mg fa h KX G hmg
    refine' Ev.all_mk KX G hmg ?a0 ?l0 ?c0 ?k0 ?a1 ?l1 ?c1 ?k1 ?a2 ?l2 ?c2 ?k2 ?a3 ?l3 ?c3 ?k3 ?a4 ?l4 ?c4 ?k4 ?a5 ?l5 ?c5 ?k5 ?a6 ?l6 ?c6 ?k6 ?a7 ?l7 ?c7 ?k7 ?a8 ?l8 ?c8 ?k8 ?a9 ?l9 ?c9 ?k9 ?a10 ?l10 ?c10 ?k10 ?a11 ?l11 ?c11 ?k11 ?a12 ?l12 ?c12 ?k12 ?a13 ?l13 ?c13 ?k13 ?a14 ?l14 ?c14 ?k14 ?a15 ?l15 ?c15 ?k15 ?a16 ?l16 ?c16 ?k16 ?a17 ?l17 ?c17 ?k17 ?a18 ?l18 ?c18 ?k18 ?a19 ?l19 ?c19 ?k19 ?a20 ?l20 ?c20 ?k20 ?a21 ?l21 ?c21 ?k21 ?a22 ?l22 ?c22 ?k22 ?a23 ?l23 ?c23 ?k23 ?n_int ?n_len ?n_abs ?n_repr ?n_range ?n_list ?n_tuple ?n_sorted ?n_sum ?n_zip ?n_enumerate ?n_min ?n_gcd ?n_lcm ?n_comb
    (case a0 => k_is)
    (case l0 => k_is)
    (case c0 => k_is)
    (case k0 => k_is)
    (case a1 => k_is)
    (case l1 => k_is)
    (case c1 => k_is)
    (case k1 => k_is)
    (case a2 => k_is)
    (case l2 => k_is)
    (case c2 => k_is)
    (case k2 => k_is)
    (case a3 => k_is)
    (case l3 => k_is)
    (case c3 => k_is)
    (case k3 => k_is)
    (case a4 => k_is)
    (case l4 => k_is)
    (case c4 => k_is)
    (case k4 => k_is)
    (case a5 => k_is)
    (case l5 => k_is)
    (case c5 => k_is)
    (case k5 => k_is)
    (case a6 => k_is)
    (case l6 => k_is)
    (case c6 => k_is)
    (case k6 => k_is)
    (case a7 => k_is)
    (case l7 => k_is)
    (case c7 => k_is)
    (case k7 => k_is)
    (case a8 => k_is)
    (case l8 => k_is)
    (case c8 => k_is)
    (case k8 => k_is)
    (case a9 => k_is)
    (case l9 => k_is)
    (case c9 => k_is)
    (case k9 => k_is)
    (case a10 => k_is)
    (case l10 => k_is)
    (case c10 => k_is)
    (case k10 => k_is)
    (case a11 => k_is)
    (case l11 => k_is)
    (case c11 => k_is)
    (case k11 => k_is)
    (case a12 => k_is)
    (case l12 => k_is)
    (case c12 => k_is)
    (case k12 => k_is)
    (case a13 => k_is)
    (case l13 => k_is)
    (case c13 => k_is)
    (case k13 => k_is)
    (case a14 => k_is)
    (case l14 => k_is)
    (case c14 => k_is)
    (case k14 => k_is)
    (case a15 => k_is)
    (case l15 => k_is)
    (case c15 => k_is)
    (case k15 => k_is)
    (case a16 => k_is)
    (case l16 => k_is)
    (case c16 => k_is)
    (case k16 => k_is)
    (case a17 => k_is)
    (case l17 => k_is)
    (case c17 => k_is)
    (case k17 => k_is)
    (case a18 => k_is)
    (case l18 => k_is)
    (case c18 => k_is)
    (case k18 => k_is)
    (case a19 => k_is)
    (case l19 => k_is)
    (case c19 => k_is)
    (case k19 => k_is)
    (case a20 => k_is)
    (case l20 => k_is)
    (case c20 => k_is)
    (case k20 => k_is)
    (case a21 => k_is)
    (case l21 => k_is)
    (case c21 => k_is)
    (case k21 => k_is)
    (case a22 => k_is)
    (case l22 => k_is)
    (case c22 => k_is)
    (case k22 => k_is)
    (case a23 => k_is)
    (case l23 => k_is)
    (case c23 => k_is)
    (case k23 => k_is)
    (case n_int => k_is)
    (case n_len => k_is)
    (case n_abs => k_is)
    (case n_repr => k_is)
    (case n_range => k_is)
    (case n_list => k_is)
    (case n_tuple => k_is)
    (case n_sorted => k_is)
    (case n_sum => k_is)
    (case n_zip => k_is)
    (case n_enumerate => k_is)
    (case n_min => k_is)
    (case n_gcd => k_is)
    (case n_lcm => k_is)
    (case n_comb => k_is)
