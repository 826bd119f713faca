import PyProof.Rows.All
import Wide.All
import OpenK.AllK
import Wide.FinOn
import PyProof.EqAt
import PyProof.EqKinds
import PyProof.TupleCall
import HandS.ForMost
import HandS.Exc
import HandS.TryOnly
import HandS.ExcOwn
import HandS.WordsExc
import HandS.Wide
import HandS.Gcd
import HandS.Property
import HandS.Defaults
import HandS.MakeKw
import HandS.IsInst
import HandS.Style
import HandS.MakeKwOnly
import HandS.Walk
import HandS.Codes
import HandS.More
import KE.KRevSl
import HandS.DictEq
import HandS.Iter
import HandS.OwnEq
import HandS.DictComp
import OpenK.KMeth
import HandS.Conv
import HandS.WordsDict
import HandS.SetFor
import HandS.Finally
import HandS.TupSets
import KE.DataMinMax
import KE.DataFind
import KE.DataCmp
import KE.RegKIsAll
import PySem.Challenge.RW_stirred_k62_least_alike_lists
set_option Elab.async false
set_option linter.all false
set_option maxRecDepth 100000
set_option maxHeartbeats 4000000
/-! Defs that are run where no display is under way: their promise may use repr. -/
namespace G
open PySem PySem.Spec PyProof.Rows L2
section
variable {P : Program} {w : World} {K : PySem.W.Frag} {mg : Str → Option Value} {base : Heap}
/-- as FnOk, for callers where no display is under way -/
structure FnG (P : Program) (w : World) (K : PySem.W.Frag) (mg : Str → Option Value) (base : Heap)
    (k : Nat) (f : Addr) (fd : FuncData) (ps : List Str) (sp : Sp) : Prop where
  len : ∀ vs H Q E, sp vs H Q E →
    vs.length = ps.length
  run : ∀ (A : Around) (outer : List Env) (s : Shared) (H : Hp) (args : Args) (us : List Value) (vs : List V) (Q : VK) (E : XK),
    A.guards = some [] → Room k A → Env0 P w K mg base A outer s H → BindsTo s fd args (ps.zip us) → Vals vs us → sp vs H Q E →
    codeAny (model P w) A (.call (.ref f) args) (CR CX0 outer P w H s Q E) s

theorem of_ok {k : Nat} {f : Addr} {fd : FuncData} {ps : List Str} {sp : Sp} (F : FnOk P w K mg base CX0 k f fd ps sp) :
    FnG P w K mg base k f fd ps sp :=
  ⟨F.len, fun A outer s H args us vs Q E _ r e b v h => F.run A outer s H args us vs Q E r e b v h⟩

/-- a def by its body, no display under way -/
theorem fun_ok {x qual : Str} {st : Stmt} {f : Addr} {fd : FuncData} {N ps : List Str} {k : Nat} {sp : Sp} (F : Fun K x qual st f fd)
    (S : FnScope N ps (defScope st)) (len : ∀ vs H Q E, sp vs H Q E → vs.length = ps.length)
    (body : ∀ (cdv : Value) (A : Around) (outer : List Env) (s : Shared) (H : Hp) (vs : List V) (Q : VK) (E : XK), A.guards = some [] →
      Room k (A.deeper (envOfC qual (defScope st) s.heap.objs.size f cdv)) → sp vs H Q E →
      ∃ t, PSs (cxOf CX0 P w K mg base N qual (defScope st) f cdv A outer s H E).nox (defBody st) t ∧
        t { nx := fun _ H' => Q .non H', rt := Q } (start N vs) H) :
    FnG P w K mg base (k + 1) f fd ps sp := by
  obtain ⟨oc, od, kV, doc, pm, an, cdv, ct, osl, rfl, lk, hcd⟩ := F.ex
  refine ⟨len, fun A outer s H args us vs Q E hgd hr e0 hb r hsp => ?_⟩
  have hlen := len _ _ _ _ hsp
  have kin : K.In s.heap := e0.mod.kin.keeps fun b o e =>
    (e0.bs b o e).1
  have nolim : s.heap.NoLimit := e0.mod.nolimit.keeps fun b o e =>
    (e0.bs b o e).1
  have kinds : ∀ y ∈ ps.zip us, (defScope st).names.lookup y.1 = some .local ∨ ((defScope st).names.lookup y.1 = some .cell ∧
      ((cellsFrom (s.heap.objs.size + 1) (defScope st).names []).lookup y.1).isSome = true) := by
    rintro ⟨n, v⟩ hy
    exact (S.par n (List.of_mem_zip hy).1).elim (fun q => .inl q) fun q => .inr ⟨q, PySem.W.cellsFrom_some _ _ _ (.inl q)⟩
  refine codeAny_call_function hr.depth (kin _ _ lk) rfl S.co S.gen rfl
    (PySem.W.codeRec_of kin hcd) (hb _ _ _ _ ?_)
  refine wpAny_newFunctionEnv_cells S.kind kinds fun env he s1 x => ?_
  subst he
  refine ⟨nolim.keeps x.toInCall.keep, codeAny_func ?_⟩
  obtain ⟨t, ht0, hq⟩ := body cdv A outer s H vs Q E hgd (hr.deeper _) hsp
  have ht := ht0.nox
  have I0 : Inv (cxOf CX0 P w K mg base N qual (defScope st) f cdv A outer s H E) [] (start N vs) H s1 :=
    inv_start S hr.hd e0 hlen r x
  refine wpAny_mono (ht.run [] s1 (start N vs) H _ I0 hq) (fun fl s' hs => ?_) fun e s' hs => hs
  cases fl with
  | ret u =>
    obtain ⟨v, σ', H', J, rv, q⟩ := hs
    exact ⟨v, H', J.os, J.bare, J.base, J.hok, rv, q⟩
  | next =>
    obtain ⟨σ', H', J, q⟩ := hs
    exact ⟨V.non, H', J.os, J.bare, J.base, J.hok, rfl, q⟩
  | brk => exact hs.elim fun _ h => h.elim fun _ h => False.elim h.2
  | cont => exact hs.elim fun _ h => h.elim fun _ h => False.elim h.2
end

section
variable {X : Cx} {k : Nat} {f : Addr} {fd : FuncData} {ps : List Str} {sp : Sp} {dvs : List V} {ds : List Value} {E : XK} {x : Str} {p pos : Pos} {e : Expr} {es : List Expr} {t : TA}
theorem run_g {pins : List (Addr × Obj)} {σ : L2.St} {H : Hp} {s : Shared} {Q : VK} {us : List Value} {vs : List V} (F : FnG X.prog X.w X.K X.mg X.base k f fd ps sp)
    (hg : X.A.guards = some []) (hr : Room k X.A) (hb : Binds X.K fd ps ds) (hd : Vals dvs ds)
    (I : Inv X pins σ H s) (r : Vals vs us) (h : sp (vs ++ dvs) H Q E) : wpAny (model X.prog X.w) X.A (call (.ref f) us) (EP X pins σ Q) X.xe s := by
  have rr : Vals (vs ++ dvs) (us ++ ds) := r.append hd
  refine wpAny_call (codeAny_mono (F.run X.A X.stack s H ⟨us, []⟩ (us ++ ds) (vs ++ dvs) Q E hg hr I.env0
    (hb s us I.kIn (by rw [← rr.length]; exact F.len _ _ _ _ h)) rr h) fun r s' hq => ?_)
  match r, hq with
  | .ok (.ret u), hq => exact I.after hq
/-- f(e, ..), f such a def -/
theorem pe_callG (F : FnG X.prog X.w X.K X.mg X.base k f fd ps sp) (hgd : X.A.guards = some []) (hr : Room k X.A) (hg : Gl X x) (hm : X.mg x = some (.ref f)) (hk : PySem.W.keepIn X.K (.ref f) = true)
    (hb : Binds X.K fd ps ds) (hd : Vals dvs ds) (ha : PA X (e :: es) t) (hdb : (x == ("__debug__" : Str)) = false := by decide)
    (he : starEach (e :: es) X.env = (false, eval e X.env) :: starEach es X.env := by rfl) (hpl : (backTo pos (starEach es X.env)).any (·.1) = false := by rfl) :
    PE X (.Call (.Name x p) (e :: es) [] pos) (tCall sp dvs E0 t) := by
  refine ⟨fun pins s σ H Q I h => wpAny_Call_Name_kw (ld_glob I hg hm ?_ hdb)⟩
  exact PySem.W.callWith_K (h₀ := X.base) I.ok.mod.kin hk (thn (ha.run pos pins s σ H _ I h) fun us s1 ⟨vs, H1, I1, r, q⟩ =>
    ⟨I1.kIn, run_g F hgd hr hb hd I1 r q⟩) he hpl
end

/-! ### the end: a law's def of this kind -/
/-- base, the heap behind the top without what is tracked, is where the callee starts -/
theorem start_at {P : Program} {w : World} {K : PySem.W.Frag} {mg mb : Str → Option Value} {a : Addr} {s : Shared} {us : List Value} {ns : List Int}
    (kin : K.In s.heap) (hn : s.heap.Ns mainGlobals mg) (hb : s.heap.Ns builtinsNs mb) (hbb : ∀ x : Str, x ≠ "__name__" → mb x = bootBuiltins x)
    (hlim : s.heap.NoLimit) (hg : s.gens = #[]) (ha : s.heap.get? a = some { cls := .type "list", data := .seq us.toArray })
    (hi : IntsAre us ns) (hl : ns.length ≤ sizeLine) :
    ∃ H : Hp, Only H ∧ SqL K H a (ns.map V.int) ∧ K.In (hidT s.heap H) ∧ (hidT s.heap H).Ns mainGlobals mg ∧
      Env0 P w K mg (hidT s.heap H) callerA [] s H ∧ HOk P w H s.heap := by
  have rv := vals_ints hi
  have lenU := hi.length
  have main : ∀ H : Hp, HOk P w H s.heap → (∀ b, H b ≠ none → b = a ∧ K.lookup a = none) →
      K.In (hidT s.heap H) ∧ (hidT s.heap H).Ns mainGlobals mg ∧ Env0 P w K mg (hidT s.heap H) callerA [] s H ∧ HOk P w H s.heap := by
    intro H hok only
    have free : ∀ {b : Addr}, b ≠ a → H b = none := fun {b} hne => by
      cases q : H b with
      | none => rfl
      | some u => exact absurd (only b (by rw [q]; exact fun z => nomatch z)).1 hne
    have notDict : ∀ {b : Addr} {o : Obj} {es : Array DictEntry} {n : Nat}, s.heap.get? b = some o → o.data = .dict es n → b ≠ a := by
      rintro b o es n e d rfl
      rw [ha] at e
      cases e
      exact nomatch (show Data.seq us.toArray _ = Data.dict es n from d)
    have spaces : ∀ {b : Addr} {m : Str → Option Value}, s.heap.Ns b m → (hidT s.heap H).Ns b m := by
      rintro b m ⟨o, es, n, e, d, r⟩
      exact ⟨o, es, n, hidT_get e (free (notDict e d)), d, r⟩
    have kin2 : K.In (hidT s.heap H) := by
      intro b o e
      refine hidT_get (kin b o e) ?_
      cases q : H b with
      | none => rfl
      | some u =>
        obtain ⟨e1, e2⟩ := only b (by rw [q]; exact fun z => nomatch z)
        rw [e1, e2] at e
        cases e
    obtain ⟨mc, l1, l2⟩ := hlim
    refine ⟨kin2, spaces hn, ⟨rfl, ⟨kin2, spaces hn, ⟨mb, spaces hb, hbb⟩, ⟨mc, spaces l1, l2⟩⟩, fun b o e => of_hidT e, Nat.le_of_eq (hidT_size _ _), trivial, ?_, hok, .of_eq hg⟩, hok⟩
    exact fun b hb => absurd (show b ∈ ([] : List Addr) from hb) (by simp)
  cases lk : K.lookup a with
  | some o =>
    have e := kin a o lk
    rw [ha] at e
    cases e
    refine ⟨fun _ => none, fun _ => .inl rfl, .inr ⟨_, us.toArray, _, lk, rfl, rfl, rfl, ?_, ?_⟩, main _ ?_ ?_⟩
    · rw [List.size_toArray, lenU]; exact hl
    · simpa using rv
    · exact fun b u z => nomatch (show (none : Option HO) = some u from z)
    · exact fun b z => absurd rfl z
  | none =>
    have at_ : ∀ b, (if b = a then some (HO.frz { cls := .type "list", data := .seq us.toArray } (.lst (ns.map V.int))) else none) ≠ none → b = a := fun b z => by
      by_cases hb : b = a
      · exact hb
      · exact absurd (if_neg hb) z
    refine ⟨fun b => if b = a then some (.frz { cls := .type "list", data := .seq us.toArray } (.lst (ns.map V.int))) else none, fun b => ?_, .inl (.inr ⟨{ cls := .type "list", data := .seq us.toArray }, if_pos rfl⟩), main _ ?_ ?_⟩
    · by_cases hb : b = a
      · exact .inr ⟨_, _, if_pos hb⟩
      · exact .inl (if_neg hb)
    · intro b u z
      by_cases hb : b = a
      · have zz := (if_pos hb).symm.trans z
        cases zz
        subst hb
        exact ⟨ha, by rw [List.length_map]; exact hl, us, _, rv, ha⟩
      · have zz := (if_neg hb).symm.trans z
        cases zz
    · exact fun b z => ⟨at_ b z, lk⟩

/-- the goal that the head leaves, from the promise of the law's def (as walk_of) -/
theorem walk_ofG {l : PySem.W.OpenLaw} {n k : Nat} {q : Program} {loose : List Str} {XP : (Str → Option Value) → Heap → Prop} {YP : World → Heap → Prop} {d : DefRec} {K : Params → PySem.W.Frag} {sp : World → Sp} {x : Str}
    (hn : l.most = some n) (hn2 : n ≤ sizeLine) (hdf : d.params.defaults = []) (hr : Room k callerA)
    (hY : ∀ (w : World) (h : Heap), YP w h → (K w.params).In h)
    (F : ∀ (w : World) (mg : Str → Option Value) (fa : Addr) (h : Heap), (K w.params).In h → h.Ns mainGlobals mg → mg d.name = some (.ref fa) → ∃ fd : FuncData,
      (∀ (s : Shared) (u : Value), BindsTo s fd ⟨[u], []⟩ [(x, u)]) ∧
      ∀ base : Heap, (K w.params).In base → base.Ns mainGlobals mg → FnG l.prog w (K w.params) mg base k fa fd [x] (sp w))
    (hsp : ∀ (w : World) (H : Hp) (a : Addr) (ns : List Int), ns.length ≤ n → Only H → SqL (K w.params) H a (ns.map V.int) →
      sp w [.ref a] H (fun v _ => v = .bl true) fun _ _ _ => False) :
    PySem.W.WalkO q loose XP YP l.row.toRowW d [] (fun f vs => PySem.call f vs) := by
  refine Att.attach_call hn hdf fun w s₀ s mg mb fa o pm cd doc a us ns G Y _ _ _ hmg hobj hints hlen hg => ?_
  have kin := hY w _ Y
  obtain ⟨fd, hb, hF⟩ := F w mg fa _ kin G.T.g hmg
  obtain ⟨H, hO, hS, k1, k2, e0, hok⟩ := start_at (P := l.prog) (w := w) kin G.T.g G.T.b G.T.builtins G.T.nolimit hg hobj hints (Nat.le_trans hlen hn2)
  refine codeAny_mono ((hF _ k1 k2).run callerA [] s H ⟨[.ref a], []⟩ [.ref a] [.ref a] _ _ rfl hr e0 (hb s (.ref a)) (.cons rfl .nil) (hsp w H a ns hlen hO hS)) fun r s' h => ?_
  match r, h with
  | .ok (.ret u), h =>
    obtain ⟨v, H', os, bare, un, hok', r', q⟩ := h
    obtain rfl : v = .bl true := q
    obtain rfl : u = Value.bool true := r'
    refine ⟨rfl, OldK.of_keep fun b o e => ?_, os, bare⟩
    cases q : H b with
    | none => exact un.keep b o e q (fun z => absurd (show b ∈ ([] : List Addr) from z) (by simp)) (by simp)
    | some u =>
      rcases hO b with z | ⟨ob, xs, z⟩
      · rw [q] at z; cases z
      · obtain ⟨e1, _⟩ := hok b _ z
        obtain ⟨e2, _⟩ := hok' b _ (un.frzs b ob _ z)
        rw [e] at e1
        cases e1
        exact e2

/-! ### repr -/
mutual
/-- ints below 2 ^ 1900, no texts, no dicts -/
def lim : PyData → Prop
  | .none | .bool _ => True
  | .int i => i.natAbs < 2 ^ 1900
  | .str _ | .dict _ => False
  | .list xs | .tuple xs => limAll xs
def limAll : List PyData → Prop
  | [] => True
  | x :: xs => lim x ∧ limAll xs
end
mutual
def cnt : PyData → Nat
  | .none | .bool _ | .int _ | .str _ | .dict _ => 1
  | .list xs | .tuple xs => cntAll xs + 1
def cntAll : List PyData → Nat
  | [] => 0
  | x :: xs => cnt x + cntAll xs
end
mutual
theorem lim_show : ∀ d : PyData, lim d → d.showable = true ∧ d.hasDict = false
  | .none, _ => ⟨by simp only [PyData.showable], by simp only [PyData.hasDict]⟩
  | .bool _, _ => ⟨by simp only [PyData.showable], by simp only [PyData.hasDict]⟩
  | .int i, h => ⟨by
      simp only [PyData.showable, decide_eq_true_eq]
      have h : i.natAbs < 2 ^ 1900 := by simpa only [lim] using h
      exact Nat.lt_of_lt_of_le (PySem.Flt.log2_lt_of (by decide) h) (by decide), by simp only [PyData.hasDict]⟩
  | .str _, h => by simp only [lim] at h
  | .dict _, h => by simp only [lim] at h
  | .list xs, h => by
    obtain ⟨a, b⟩ := limAll_show xs (by simpa only [lim] using h)
    exact ⟨by simpa only [PyData.showable] using a, by simpa only [PyData.hasDict] using b⟩
  | .tuple xs, h => by
    obtain ⟨a, b⟩ := limAll_show xs (by simpa only [lim] using h)
    exact ⟨by simpa only [PyData.showable] using a, by simpa only [PyData.hasDict] using b⟩
theorem limAll_show : ∀ xs : List PyData, limAll xs → PyData.showableAll xs = true ∧ PyData.hasDictAll xs = false
  | [], _ => ⟨by simp only [PyData.showableAll], by simp only [PyData.hasDictAll]⟩
  | x :: xs, h => by
    obtain ⟨h1, h2⟩ : lim x ∧ limAll xs := by simpa only [limAll] using h
    obtain ⟨a, b⟩ := lim_show x h1
    obtain ⟨c, d⟩ := limAll_show xs h2
    exact ⟨by simp only [PyData.showableAll, a, c, Bool.and_self], by simp only [PyData.hasDictAll, b, d, Bool.or_self]⟩
end
theorem int_len {i : Int} (h : i.natAbs < 2 ^ 1900) : (PyData.shown (.int i)).length ≤ 1901 := by
  have e := int_text_length_le (k := 1900) (a := i) (by decide) (PySem.Flt.log2_lt_of (by decide) h)
  rw [← PySem.ofString_length] at e
  simp only [PyData.shown]
  exact e
mutual
theorem lim_len : ∀ d : PyData, lim d → d.shown.length + 10 ≤ 2000 * cnt d
  | .none, _ => by
    have e : (PyData.shown .none).length = 4 := rfl
    simp only [cnt]; omega
  | .bool b, _ => by
    have e : (PyData.shown (.bool b)).length ≤ 5 := by cases b <;> decide
    simp only [cnt]; omega
  | .int i, h => by
    have e := int_len (by simpa only [lim] using h)
    simp only [cnt]
    omega
  | .str _, h => by simp only [lim] at h
  | .dict _, h => by simp only [lim] at h
  | .list xs, h => by
    have a := limAll_len xs (by simpa only [lim] using h)
    have b := listText_len_le (PyData.shownAll xs)
    have c := PyData.shownAll_length xs
    simp only [PyData.shown, cnt]
    omega
  | .tuple xs, h => by
    have a := limAll_len xs (by simpa only [lim] using h)
    have b := tupleText_len_le (PyData.shownAll xs)
    have c := PyData.shownAll_length xs
    simp only [PyData.shown, cnt]
    omega
theorem limAll_len : ∀ xs : List PyData, limAll xs → ((PyData.shownAll xs).map (·.length)).sum + 2 * xs.length ≤ 2000 * cntAll xs
  | [], _ => by simp [PyData.shownAll]
  | x :: xs, h => by
    obtain ⟨h1, h2⟩ : lim x ∧ limAll xs := by simpa only [limAll] using h
    have a := lim_len x h1
    have b := limAll_len xs h2
    simp only [PyData.shownAll, cntAll, List.map_cons, List.sum_cons, List.length_cons] at *
    omega
end
section
variable {X : Cx}
/-- repr of data: its text -/
def rRepr (K : PySem.W.Frag) : List V → Hp → VK → Prop := fun vs H Q => ∃ a d, vs = [.ref a] ∧ Dp K H (.ref a) d ∧ lim d ∧ cnt d ≤ 8000 ∧ d.depth ≤ 40 ∧ Q (.str d.shown) H
theorem call_repr (hg : X.A.guards = some []) (hu : X.A.units + 64 < cLine) : CallR X (.builtin "repr") (rRepr X.K) := by
  intro pins s σ H vs us Q I r h
  obtain ⟨a, d, rfl, hd, hl, hc, hdp, q⟩ := h
  obtain ⟨hs, hn⟩ := lim_show d hl
  have hsz : d.shown.length ≤ sizeLine := by
    have := lim_len d hl
    rw [show sizeLine = 16777216 from sizeLine_eq]
    omega
  cases r with
  | cons rv rn =>
    cases rn
    obtain ⟨as, rd⟩ := Dp.reads I d _ _ hd rv
    obtain rfl := (show _ = Value.ref a from rv)
    refine repr_of_reads' rd hs (fun z => by rw [hn] at z; cases z) hg (by omega) (fun _ _ e => e) (fun h' u tk hk => ?_) hsz
    exact ⟨.str _, H, I.kept hk, ⟨_, rfl⟩, q⟩
end
end G

/-! Readings taken step by step: one lemma a head, the continuation last. -/
namespace G
open PySem PySem.Spec L2
section
variable {σ : L2.St} {H : Hp} {i j : Nat} {v x y : V} {Q : VK} {ta tb te : TE} {K : PySem.W.Frag} {D : Ends} {t u : TS} {tt tu : TT} {tr : TA} {QT : Bool → Hp → Prop} {QA : List V → Hp → Prop}
theorem w_var (h : σ[i]? = some (some v)) (q : Q v H) : tVar i σ H Q := ⟨v, h, q⟩
theorem w_c (q : Q v H) : tC v σ H Q := q
theorem w_op {r : R2} (q : ta σ H fun x H1 => tb σ H1 fun y H2 => r x y H2 Q) : tOp r ta tb σ H Q := q
theorem w_un {r : V → Hp → VK → Prop} (q : ta σ H fun x H1 => r x H1 Q) : tUn r ta σ H Q := q
theorem w_cb {r : List V → Hp → VK → Prop} (q : tr σ H fun vs H1 => r vs H1 Q) : tCB r tr σ H Q := q
theorem w_nil (q : QA [] H) : tNil σ H QA := q
theorem w_cons (q : te σ H fun x H1 => tr σ H1 fun xs H2 => QA (x :: xs) H2) : tCons te tr σ H QA := q
theorem w_I0 {g : Int → Int → V} {a b : Int} (q : Q (g a b) H) : rI0 g (.int a) (.int b) H Q := ⟨a, b, rfl, rfl, q⟩
theorem w_I {C : Int → Int → Prop} {g : Int → Int → V} {a b : Int} (c : C a b) (q : Q (g a b) H) : rI C g (.int a) (.int b) H Q := ⟨a, b, rfl, rfl, c, q⟩
theorem w_U {g : Int → V} {a : Int} (q : Q (g a) H) : rU g (.int a) H Q := ⟨a, rfl, q⟩
theorem w_eq (h : scal x y = true) (q : Q (.bl (decide (x = y))) H) : rEq x y H Q := ⟨h, q⟩
theorem w_ne (h : scal x y = true) (q : Q (.bl (!decide (x = y))) H) : rNe x y H Q := ⟨h, q⟩
theorem w_eqI {a b : Int} (q : Q (.bl (decide (a = b))) H) : rEq (.int a) (.int b) H Q := ⟨rfl, by
  have e : decide (V.int a = V.int b) = decide (a = b) := by
    by_cases h : a = b
    · rw [h]; simp
    · rw [decide_eq_false h, decide_eq_false fun z => h (by injection z)]
  rw [e]; exact q⟩
theorem w_neI {a b : Int} (q : Q (.bl (!decide (a = b))) H) : rNe (.int a) (.int b) H Q := ⟨rfl, by
  have e : decide (V.int a = V.int b) = decide (a = b) := by
    by_cases h : a = b
    · rw [h]; simp
    · rw [decide_eq_false h, decide_eq_false fun z => h (by injection z)]
  rw [e]; exact q⟩
theorem w_test (q : te σ H fun x H1 => ∃ k, x = .bl k ∧ QT k H1) : tTest te σ H QT := q
theorem w_tB (q : te σ H fun x H1 => ∃ k, x = .bl k ∧ QT k H1) : tB te σ H QT := q
theorem w_bl {b : Bool} {P : Bool → Prop} (q : P b) : ∃ k, V.bl b = .bl k ∧ P k := ⟨b, rfl, q⟩
theorem w_not (q : tt σ H fun c H1 => QT (!c) H1) : tNot tt σ H QT := q
theorem w_and (q : tt σ H fun c H1 => if c = true then tu σ H1 QT else QT false H1) : tAnd tt tu σ H QT := q
theorem w_or (q : tt σ H fun c H1 => if c = true then QT true H1 else tu σ H1 QT) : tOr tt tu σ H QT := q
theorem w_andV (q : ta σ H fun x H1 => ∃ c, x = .bl c ∧ if c = true then tb σ H1 Q else Q (.bl false) H1) : tAndV ta tb σ H Q := q
theorem w_orV (q : ta σ H fun x H1 => ∃ c, x = .bl c ∧ if c = true then Q (.bl true) H1 else tb σ H1 Q) : tOrV ta tb σ H Q := q
theorem w_notV (q : ta σ H fun x H1 => ∃ c, x = .bl c ∧ Q (.bl (!c)) H1) : tNotV ta σ H Q := q
theorem w_tif (q : tt σ H fun c H1 => if c = true then ta σ H1 Q else tb σ H1 Q) : tIf tt ta tb σ H Q := q
theorem w_ite {b : Bool} {A B : Prop} (h1 : b = true → A) (h2 : b = false → B) : if b = true then A else B := by
  cases b with
  | true => exact h1 rfl
  | false => exact h2 rfl
theorem w_iteT {b : Bool} {A B : Prop} (e : b = true) (h1 : A) : if b = true then A else B := by rw [if_pos e]; exact h1
theorem w_iteF {b : Bool} {A B : Prop} (e : b = false) (h1 : B) : if b = true then A else B := by rw [e]; exact h1
/-! statements -/
theorem w_seq (q : t { nx := u D, rt := D.rt, bk := D.bk, ct := D.ct } σ H) : tSeq t u D σ H := q
theorem w_next (q : D.nx σ H) : tNext D σ H := q
theorem w_brk (q : D.bk σ H) : tBreak D σ H := q
theorem w_cont (q : D.ct σ H) : tCont D σ H := q
theorem w_ret (q : te σ H D.rt) : tRet te D σ H := q
theorem w_retN (q : D.rt .non H) : tRetN D σ H := q
theorem w_drop (q : te σ H fun _ H1 => D.nx σ H1) : tDrop te D σ H := q
theorem w_asg {g : TG} (q : te σ H fun x H1 => g x σ H1 D.nx) : tAsg te g D σ H := q
theorem w_gn {R : L2.St → Hp → Prop} (q : R (σ.set i (some v)) H) : gName i v σ H R := q
theorem w_if (q : tt σ H fun b H1 => if b = true then t D σ H1 else u D σ H1) : tIfS tt t u D σ H := q
theorem w_par (q : tr σ H fun vs H1 => ∃ v w, vs = [v, w] ∧ D.nx ((σ.set i (some v)).set j (some w)) H1) : tPar i j tr D σ H := q
theorem w_par2 {a b : V} {P : V → V → Prop} (q : P a b) : ∃ v w, [a, b] = [v, w] ∧ P v w := ⟨a, b, rfl, q⟩
/-! displays, items -/
theorem same_new {p : Addr} {o : HO} (h : H p = none) : Same H (upd H p o) := fun c u e => by rw [upd_ne (ne_of_none e h)]; exact e
/-- a new object: the heap is a letter again behind it -/
def Alloc (mk : List V → HO) (Q : VK) : List V → Hp → Prop := fun xs H1 => xs.length ≤ sizeLine ∧ ∀ p, H1 p = none → Q (.ref p) (upd H1 p (mk xs))
theorem w_tup (q : tr σ H (Alloc HO.tup Q)) : tTup tr σ H Q := q
theorem w_lst (q : tr σ H (Alloc HO.lst Q)) : tLst tr σ H Q := q
theorem w_alloc {mk : List V → HO} {xs : List V} (h : decide (xs.length ≤ 16777216) = true) (q : ∀ p H', H p = none → Same H H' → H' p = some (mk xs) → Q (.ref p) H') : Alloc mk Q xs H :=
  ⟨by rw [show sizeLine = 16777216 from sizeLine_eq]; exact of_decide_eq_true h, fun p hp => q p _ hp (same_new hp) upd_same⟩
theorem w_size {n : Nat} {A : Prop} (h : decide (n ≤ 16777216) = true) (q : A) : n ≤ sizeLine ∧ A := ⟨by rw [show sizeLine = 16777216 from sizeLine_eq]; exact of_decide_eq_true h, q⟩
end
end G
namespace G
open PySem PySem.Spec L2
section
variable {σ : L2.St} {H : Hp} {v x y : V} {Q : VK} {ta tb te : TE} {K : PySem.W.Frag} {D : Ends} {tr tk : TA} {sp : Sp} {dvs : List V} {E : XK} {f : Str} {C a dx : Addr} {fs : List (Str × V)}
theorem w_call (q : tr σ H fun vs H1 => sp (vs ++ dvs) H1 Q E) : tCall sp dvs E tr σ H Q := q
theorem w_fld (q : ta σ H fun x H1 => ∃ a C dx fs v, x = .ref a ∧ H1 a = some (.ins C dx fs) ∧ Cls K C ∧ NoAttr K C f ∧ fs.lookup f = some v ∧ Q v H1) : tFld K ta f σ H Q := q
theorem w_fld1 {R : V → Prop} (ho : H a = some (.ins C dx fs)) (hc : Cls K C) (hn : NoAttr K C f) (hl : fs.lookup f = some v) (q : R v) :
    ∃ b C dx fs w, V.ref a = .ref b ∧ H b = some (.ins C dx fs) ∧ Cls K C ∧ NoAttr K C f ∧ fs.lookup f = some w ∧ R w := ⟨a, C, dx, fs, v, rfl, ho, hc, hn, hl, q⟩
theorem w_sfld (q : te σ H fun y H1 => ta σ H1 fun x H2 => ∃ a C dx fs, x = .ref a ∧ H2 a = some (.ins C dx fs) ∧ Cls K C ∧ NoAttr K C f ∧ fs.length < 1000 ∧ D.nx σ (upd H2 a (.ins C dx (putF f y fs)))) : sFld K ta te f D σ H := q
theorem w_sfld1 (ho : H a = some (.ins C dx fs)) (hc : Cls K C) (hn : NoAttr K C f) (hl : fs.length < 1000) {y : V} {S : L2.St → Hp → Prop} (q : S σ (upd H a (.ins C dx (putF f y fs)))) :
    ∃ b C dx fs, V.ref a = .ref b ∧ H b = some (.ins C dx fs) ∧ Cls K C ∧ NoAttr K C f ∧ fs.length < 1000 ∧ S σ (upd H b (.ins C dx (putF f y fs))) := ⟨a, C, dx, fs, rfl, ho, hc, hn, hl, q⟩
theorem w_prop (q : ta σ H fun x H1 => ∃ a dx fs, x = .ref a ∧ H1 a = some (.ins C dx fs) ∧ sp (.ref a :: dvs) H1 Q E) : tProp C sp dvs E ta σ H Q := q
theorem w_make (q : tr σ H fun vs H1 => ∀ x dx, H1 x = none → H1 dx = none → dx ≠ x → sp (.ref x :: (vs ++ dvs)) (upd (upd H1 dx (.own x)) x (.ins C dx [])) (fun v H2 => v = .non ∧ Q (.ref x) H2) E) : tMake C sp dvs E tr σ H Q := q
theorem w_meth {m : Str} (q : ta σ H fun x H1 => ∃ a dx fs, x = .ref a ∧ H1 a = some (.ins C dx fs) ∧ fs.lookup m = none ∧ tr σ H1 fun vs H2 => sp (x :: (vs ++ dvs)) H2 Q E) : tMeth C m sp dvs E ta tr σ H Q := q
theorem w_ixL {p : Addr} {xs : List V} {i : Int} (h : SqL K H p xs) (e : atI xs i = some v) (q : Q v H) : rIxL K (.ref p) (.int i) H Q := ⟨p, xs, i, v, rfl, rfl, h, e, q⟩
theorem w_ixT {p : Addr} {xs : List V} {i : Int} (h : SqT K H p xs) (e : atI xs i = some v) (q : Q v H) : rIxT K (.ref p) (.int i) H Q := ⟨p, xs, i, v, rfl, rfl, h, e, q⟩
theorem w_setL {p : Addr} {xs : List V} {i : Int} {j : Nat} {R : Hp → Prop} (h : H p = some (.lst xs)) (e : ixN xs.length i = some j) (q : R (upd H p (.lst (xs.set j v)))) : rSetL (.ref p) (.int i) v H R := ⟨p, xs, i, j, rfl, rfl, h, e, q⟩
theorem w_gsub {to ti : TE} {t : TSet} {R : L2.St → Hp → Prop} (q : to σ H fun o H1 => ti σ H1 fun i H2 => t o i v H2 fun H3 => R σ H3) : gSub to ti t v σ H R := q
end
end G
namespace G
open PySem PySem.Spec L2
section
variable {σ : L2.St} {H : Hp} {v x y : V} {Q : VK} {ta tb te : TE} {K : PySem.W.Frag} {D : Ends} {tr tk : TA} {sp : Sp} {dvs : List V} {E : XK} {C a dx : Addr} {tb : TS} {g : TG} {wi : TI}
/-- a walk J from the heap H on: the invariant that is asked -/
def ForW (J : It) (g : TG) (tb : TS) (D : Ends) (σ : L2.St) (H : Hp) : Prop := ∃ W : Nat → Nat → L2.St → Hp → Prop, (∃ m, W 0 m σ H) ∧ ∀ i m σ H, W i m σ H →
  (J.stop i H ∧ D.nx σ H) ∨ (J.go i H ∧ ∃ N : L2.St → Hp → Prop, (∀ σ' H', N σ' H' → ∃ m', m' < m ∧ W (i + 1) m' σ' H') ∧ ∀ x H', J.yld i H x H' → g x σ H' fun σ2 H2 => tb { D with nx := N, ct := N, bk := D.nx } σ2 H2)
theorem w_for (q : wi σ H fun J H1 => ForW J g tb D σ H1) : tFor wi g tb D σ H := q
theorem w_iList {te : TE} {R : It → Hp → Prop} (q : te σ H fun x H1 => ∃ a, x = .ref a ∧ (∃ xs, SqL K H1 a xs) ∧ R (Itl K a) H1) : iList K te σ H R := q
theorem w_iTup {te : TE} {R : It → Hp → Prop} (q : te σ H fun x H1 => ∃ a, x = .ref a ∧ (∃ xs, SqT K H1 a xs) ∧ R (Itt K a) H1) : iTup K te σ H R := q
/-- a list, one name -/
theorem w_walkL {j : Nat} {xs : List V} (hl : SqL K H a xs) (Pv : Nat → L2.St → Hp → Prop) (h0 : Pv 0 σ H) (hk : ∀ i σ' H', i ≤ xs.length → Pv i σ' H' → SqL K H' a xs)
    (hs : ∀ (i : Nat) x σ' H', xs[i]? = some x → Pv i σ' H' → tb { nx := Pv (i + 1), rt := D.rt, ct := Pv (i + 1), bk := D.nx } (σ'.set j (some x)) H') (hd : ∀ σ' H', Pv xs.length σ' H' → D.nx σ' H') :
    ∃ b, V.ref a = .ref b ∧ (∃ xs, SqL K H b xs) ∧ ForW (Itl K b) (gName j) tb D σ H := ⟨a, rfl, ⟨_, hl⟩, for_list Pv h0 hk hs hd⟩
/-- for .. in range(n) -/
theorem w_forR1 {j : Nat} {n : Int} (hv : ∀ R : List V → Hp → Prop, R [.int n] H → tr σ H R) (hn : 0 ≤ n ∧ n ≤ 1000000) (Pv : Nat → L2.St → Hp → Prop) (h0 : Pv 0 σ H)
    (hs : ∀ (i : Nat) σ' H', (i : Int) < n → Pv i σ' H' → tb { nx := Pv (i + 1), rt := D.rt, ct := Pv (i + 1), bk := D.nx } (σ'.set j (some (.int (i : Int)))) H') (hd : ∀ σ' H', Pv n.toNat σ' H' → D.nx σ' H') : tFor (iRng1 tr) (gName j) tb D σ H := by
  refine hv _ ⟨n, rfl, by omega, by omega, for_range (lo := 0) (n := n.toNat) Pv h0 (fun i σ' H' hi p => ?_) hd⟩
  have e0 : (0 : Int) + (i : Int) = (i : Int) := Int.zero_add _
  show tb { nx := Pv (i + 1), rt := D.rt, ct := Pv (i + 1), bk := D.nx } (σ'.set j (some (.int ((0 : Int) + (i : Int))))) H'
  rw [e0]
  exact hs i σ' H' (by omega) p
/-- for .. in a list -/
theorem w_forL {j : Nat} {xs : List V} (hv : ∀ R : V → Hp → Prop, R (.ref a) H → te σ H R) (hl : SqL K H a xs) (Pv : Nat → L2.St → Hp → Prop) (h0 : Pv 0 σ H) (hk : ∀ i σ' H', i ≤ xs.length → Pv i σ' H' → SqL K H' a xs)
    (hs : ∀ (i : Nat) x σ' H', xs[i]? = some x → Pv i σ' H' → tb { nx := Pv (i + 1), rt := D.rt, ct := Pv (i + 1), bk := D.nx } (σ'.set j (some x)) H') (hd : ∀ σ' H', Pv xs.length σ' H' → D.nx σ' H') : tFor (iList K te) (gName j) tb D σ H :=
  hv _ ⟨a, rfl, ⟨_, hl⟩, for_list Pv h0 hk hs hd⟩
/-- all but what stands at a is as it was -/
def Fr (a : Addr) (H H' : Hp) : Prop := ∀ c o, c ≠ a → H c = some o → H' c = some o
theorem Fr.refl (a : Addr) (H : Hp) : Fr a H H := fun _ _ _ h => h
theorem Fr.trans {a : Addr} {H H1 H2 : Hp} (x : Fr a H H1) (y : Fr a H1 H2) : Fr a H H2 := fun c o n h => y c o n (x c o n h)
theorem Fr.at_ {a : Addr} {H : Hp} {o : HO} : Fr a H (upd H a o) := fun c u n h => by rw [upd_ne n]; exact h
theorem Fr.new {a p : Addr} {H : Hp} {o : HO} (h : H p = none) : Fr a H (upd H p o) := fun c u n e => by rw [upd_ne (ne_of_none e h)]; exact e
theorem Fr.same {a : Addr} {H H' : Hp} (h : Same H H') : Fr a H H' := fun c o _ e => h c o e
/-- a change at an address that H does not know is none for H -/
theorem Fr.unseen {a : Addr} {H H1 H2 : Hp} (n : H a = none) (s : Same H H1) (f : Fr a H1 H2) : Same H H2 := fun c o h => f c o (ne_of_none h n) (s c o h)
/-- what is kept while a comprehension fills its list at L -/
def Fills (Pv : Addr → Nat → List V → Hp → Prop) (L : Addr) (i : Nat) : Hp → Prop := fun H => ∃ acc, H L = some (.lst acc) ∧ Pv L i acc H
theorem fills_more {Pv : Addr → Nat → List V → Hp → Prop} {L : Addr} {i : Nat} {acc : List V} (h : H L = some (.lst acc)) (hz : acc.length < 10000000) (q : ∀ H', Fr L H H' → H' L = some (.lst (acc ++ [y])) → Pv L (i + 1) (acc ++ [y]) H') :
    ∃ acc, H L = some (.lst acc) ∧ acc.length < sizeLine ∧ Fills Pv L (i + 1) (upd H L (.lst (acc ++ [y]))) :=
  ⟨acc, h, by rw [show sizeLine = 16777216 from sizeLine_eq]; omega, acc ++ [y], upd_same, q _ Fr.at_ upd_same⟩
/-- [e for x in a list if t] -/
theorem w_lcL {tt : TT} {vs : List Nat} {xs : List V} (hv : ∀ R : V → Hp → Prop, R (.ref a) H → ta σ H R) (hl : SqL K H a xs) (Pv : Addr → Nat → List V → Hp → Prop)
    (h0 : ∀ L H', H L = none → Same H H' → H' L = some (.lst []) → Pv L 0 [] H')
    (hk : ∀ L i acc H', i ≤ xs.length → Pv L i acc H' → SqL K H' a xs)
    (hs : ∀ L (i : Nat) x acc H', H L = none → xs[i]? = some x → H' L = some (.lst acc) → Pv L i acc H' → g x (wipe σ vs) H' fun σ2 H2 => wipe σ2 vs = wipe σ vs ∧ tt σ2 H2 fun b H3 =>
      if b = true then te σ2 H3 fun y H4 => ∃ acc, H4 L = some (.lst acc) ∧ acc.length < sizeLine ∧ Fills Pv L (i + 1) (upd H4 L (.lst (acc ++ [y]))) else Fills Pv L (i + 1) H3)
    (hd : ∀ L acc H', H L = none → H' L = some (.lst acc) → Pv L xs.length acc H' → Q (.ref L) H') : tLc (iList K ta) g tt te vs σ H Q :=
  hv _ ⟨a, rfl, ⟨_, hl⟩, fun L hL => lc_list (xs := xs) (fun i H' => Fills Pv L i H') ⟨[], upd_same, h0 L _ hL (same_new hL) upd_same⟩ (fun i H' hi ⟨acc, _, p⟩ => hk L i acc H' hi p)
    (fun i x H' hi ⟨acc, hA, hp⟩ => hs L i x acc H' hL hi hA hp) fun H' ⟨acc, h1, h2⟩ => hd L acc H' hL h1 h2⟩
/-! more heads -/
theorem w_bm {T : String} {r : V → List V → Hp → VK → Prop} (q : ta σ H fun x H1 => tyV K T x H1 ∧ tr σ H1 fun xs H2 => r x xs H2 Q) : tBM K T r ta tr σ H Q := q
theorem w_bmL {p : Addr} {xs : List V} {B : Prop} (h : H p = some (.lst xs)) (q : B) : tyV K "list" (.ref p) H ∧ B := ⟨.inl ⟨rfl, xs, SqL.of h⟩, q⟩
theorem w_append {l : Addr} {xs : List V} (h : H l = some (.lst xs)) (q : ∀ H', Fr l H H' → H' l = some (.lst (xs ++ [y])) → Q .non H') (hz : decide (xs.length < 10000000) = true := by rfl) : rAppend (.ref l) [y] H Q :=
  ⟨l, xs, y, rfl, rfl, h, by have := of_decide_eq_true hz; rw [show sizeLine = 16777216 from sizeLine_eq]; omega, q _ Fr.at_ upd_same⟩
theorem w_makeK {n m : Nat} {gV : List V → List V → List V} (q : tr σ H fun vs H1 => tk σ H1 fun zs H2 => vs.length = n ∧ zs.length = m ∧ ∀ x dx, H2 x = none → H2 dx = none → dx ≠ x → sp (gV (.ref x :: vs) zs) (upd (upd H2 dx (.own x)) x (.ins C dx [])) (fun v H3 => v = .non ∧ Q (.ref x) H3) E) :
    tMakeK C n m sp gV E tr tk σ H Q := q
theorem w_callN {n m : Nat} {gV : List V → List V → List V} (q : tr σ H fun vs H1 => tk σ H1 fun zs H2 => vs.length = n ∧ zs.length = m ∧ sp (gV vs zs) H2 Q E) : tCallN n m sp gV E tr tk σ H Q := q
theorem w_rfl2 {n m : Nat} {A : Prop} {a b : Nat} (h1 : a = n) (h2 : b = m) (q : A) : a = n ∧ b = m ∧ A := ⟨h1, h2, q⟩

end
end G

/-! Wide ints; operators by methods of one's own. -/
namespace G
open PySem PySem.Spec PyProof.Rows L2
section
variable {X : Cx}
def CPowW (i j : Int) : Prop := 0 ≤ j ∧ j ≤ 64 ∧ i.natAbs.log2 < 1000000
theorem op_powW : OpR X (binaryOp .Pow) (rI CPowW fun i j => .int (i ^ j.toNat)) := opI fun i j _ _ _ _ _ hc q => by
  refine pow_int hc.1 ?_ q
  have b : Builtin.Int.intBits i ≤ i.natAbs.log2 + 1 := by
    unfold Builtin.Int.intBits
    split <;> omega
  have h1 : ((Builtin.Int.intBits i : Nat) : Int) ≤ 1000000 := by have := hc.2.2; omega
  have h2 : ((Builtin.Int.intBits i : Nat) : Int) * j ≤ 1000000 * 64 := Int.mul_le_mul h1 hc.2.1 hc.1 (by decide)
  exact Int.le_trans h2 (by decide)
/-- % by a positive number of any size -/
theorem op_modW : OpR X (binaryOp .Mod) (rI (fun _ j => 0 < j) fun i j => .int (i % j)) := by
  intro pins s σ H x y v u Q I rx ry h
  obtain ⟨i, j, hx, hy, hc, q⟩ := h
  exact op_modN pins s σ H x y v u Q I rx ry ⟨i, j, hx, hy, by omega, by
    show Q (.int (i.fmod j)) H
    rw [Int.fmod_eq_emod_of_nonneg i (by omega)]
    exact q⟩
/-! ### operators by a method of the left operand's class -/
theorem mono_rel {v : V} {u : Value} {s : Shared} {R : Value → Shared → Prop} (r : RelV v u) (q : R u s) : PySem.W.CmpBack R u s := by
  cases v with
  | non => cases (show u = Value.none from r); exact q
  | bl b => cases (show u = Value.bool b from r); exact q
  | int i => obtain ⟨t, e⟩ := (show ∃ t, u = Value.int i t from r); cases e; exact q
  | str z => obtain ⟨t, e⟩ := (show ∃ t, u = Value.str z t from r); cases e; exact q
  | byt z => obtain ⟨t, e⟩ := (show ∃ t, u = Value.bytes z t from r); cases e; exact q
  | flt z => obtain ⟨t, e⟩ := (show ∃ t, u = Value.float z t from r); cases e; exact q
  | ref a => cases (show u = Value.ref a from r); exact q
  | ty n => cases (show u = Value.type n from r); exact q

variable {k : Nat} {f C D : Addr} {fd : FuncData} {ps : List Str} {sp : Sp} {E : XK} {op : Operator}
/-- a method for an operator: found in the class, a def -/
structure OpM (K : PySem.W.Frag) (C : Addr) (m : Str) (f : Addr) : Prop where
  at_ : PySem.W.findIn K (.ref C) m = some (some (.ref f))
  fn : PySem.W.isFn K (.ref f) = true
/-- both of one class -/
def rOwn (C : Addr) (sp : Sp) (E : XK) : R2 := fun x y H Q => ∃ a dx fs b dy gs, x = .ref a ∧ y = .ref b ∧ H a = some (.ins C dx fs) ∧ H b = some (.ins C dy gs) ∧ sp [x, y] H Q E
theorem op_own {CX : CXT} (F : FnOk X.prog X.w X.K X.mg X.base CX k f fd ps sp) (hr : Room k X.A) (hb : Binds X.K fd ps []) (hx : Passes CX X E) (m : OpM X.K C (PySem.dunder op.info.2) f) (hc : PySem.W.selfFirst X.K C = true) :
    OpR X (binaryOp op) (rOwn C sp E) := by
  intro pins s σ H x y v u Q I rx ry h
  obtain ⟨a, dx, fs, b, dy, gs, rfl, rfl, ea, eb, q⟩ := h
  obtain rfl : v = Value.ref a := rx
  obtain rfl : u = Value.ref b := ry
  obtain ⟨mA, O, _⟩ := ins_get I.hok ea
  obtain ⟨od, J, _⟩ := O.look
  obtain ⟨mB, O2, _⟩ := ins_get I.hok eb
  obtain ⟨od2, J2, _⟩ := O2.look
  obtain ⟨mm, fr⟩ := I.fr
  refine PySem.W.binop_K fr I.ok.mod.kin J J2.type hc m.at_ m.fn ?_
  refine wpAny_mono (run_fn (us := [.ref a, .ref b]) (vs := [.ref a, .ref b]) F hr hb .nil hx I (.cons rfl (.cons rfl .nil)) q) (fun w s' hw => ?_) fun _ _ e => e
  obtain ⟨z, H', I', rz, qz⟩ := hw
  exact mono_rel rz ⟨z, H', I', rz, qz⟩
/-- unary minus -/
def rNeg (C : Addr) (sp : Sp) (E : XK) : V → Hp → VK → Prop := fun x H Q => ∃ a dx fs, x = .ref a ∧ H a = some (.ins C dx fs) ∧ sp [x] H Q E
theorem un_own {CX : CXT} (F : FnOk X.prog X.w X.K X.mg X.base CX k f fd ps sp) (hr : Room k X.A) (hb : Binds X.K fd ps []) (hx : Passes CX X E) (m : OpM X.K C "__neg__" f) :
    UnR X (unaryOp .USub) (rNeg C sp E) := by
  intro pins s σ H x v Q I rx h
  obtain ⟨a, dx, fs, rfl, ea, q⟩ := h
  obtain rfl : v = Value.ref a := rx
  obtain ⟨mA, O, _⟩ := ins_get I.hok ea
  obtain ⟨od, J, _⟩ := O.look
  unfold unaryOp
  refine wpAny_holding ?_
  show wpAny _ _ (callSpecial? (.ref a) "__neg__" >>= _) _ _ _
  refine wpAny_bind (PySem.W.special_fn I.kIn J m.at_ (beq_iff_eq.mp m.fn) ?_)
  refine wpAny_mono (run_fn (us := [.ref a]) (vs := [.ref a]) F hr hb .nil hx I (.cons rfl .nil) q) (fun w s' hw => ?_) fun _ _ e => e
  exact wpAny_pure hw
/-- == by the left operand's __eq__, the right operand anything whose type is known -/
def rEqO (K : PySem.W.Frag) (C : Addr) (sp : Sp) (E : XK) : R2 := fun x y H Q => ∃ a dx fs t, x = .ref a ∧ H a = some (.ins C dx fs) ∧ TyX K H y t ∧ PySem.W.notFirst K C t = true ∧ sp [x, y] H Q E
theorem op_eqO {CX : CXT} (F : FnOk X.prog X.w X.K X.mg X.base CX k f fd ps sp) (hr : Room k X.A) (hb : Binds X.K fd ps []) (hx : Passes CX X E) (m : OpM X.K C "__eq__" f) :
    OpR X (compareOp .Eq) (rEqO X.K C sp E) := by
  intro pins s σ H x y v u Q I rx ry h
  obtain ⟨a, dx, fs, t, rfl, ea, ty, hn, q⟩ := h
  obtain rfl : v = Value.ref a := rx
  obtain ⟨mA, O, _⟩ := ins_get I.hok ea
  obtain ⟨od, J, _⟩ := O.look
  obtain ⟨mm, fr⟩ := I.fr
  obtain ⟨P, Z, hp, hne⟩ := kit_of I ry ty
  show wpAny _ _ (richCompare .Eq (.ref a) u) _ _ _
  have lk : PySem.W.Looks (model X.prog X.w) s.heap (typeOf u) t := Z.ty _ _ I.kIn hp
  refine PySem.W.cmp_K hr.units0 fr I.ok.mod.kin J lk hn m.at_ m.fn ?_
  refine wpAny_mono (run_fn (us := [.ref a, u]) (vs := [.ref a, y]) F hr hb .nil hx I (.cons rfl (.cons ry .nil)) q) (fun w s' hw => ?_) fun _ _ e => e
  obtain ⟨z, H', I', rz, qz⟩ := hw
  exact mono_rel rz ⟨z, H', I', rz, qz⟩
end
end G

/-! Sizes of numbers, told by a number of bits. -/
namespace G
open PySem PySem.Spec L2
/-- below 2 ^ n in size; a word, so that no number of that size is reckoned with -/
def Bt (n : Nat) (i : Int) : Prop := i.natAbs < 2 ^ n
instance {n : Nat} {i : Int} : Decidable (Bt n i) := inferInstanceAs (Decidable (i.natAbs < 2 ^ n))
section
variable {a b n : Nat} {i j : Int}
theorem Bt.mono (x : Bt a i) (h : a ≤ b) : Bt b i := Nat.lt_of_lt_of_le x (Nat.pow_le_pow_right (by decide) h)
theorem Bt.of_le (x : Bt a j) (h : i.natAbs ≤ j.natAbs) : Bt a i := Nat.lt_of_le_of_lt h x
theorem Bt.any : Bt (i.natAbs.log2 + 1) i := Nat.lt_log2_self
theorem Bt.neg (x : Bt a i) : Bt a (-i) := by unfold Bt; rw [Int.natAbs_neg]; exact x
theorem two_max (x : i.natAbs < 2 ^ a) (y : j.natAbs < 2 ^ b) : i.natAbs + j.natAbs < 2 ^ (max a b + 1) := by
  have h1 : 2 ^ a ≤ 2 ^ max a b := Nat.pow_le_pow_right (by decide) (Nat.le_max_left a b)
  have h2 : 2 ^ b ≤ 2 ^ max a b := Nat.pow_le_pow_right (by decide) (Nat.le_max_right a b)
  rw [Nat.pow_succ]
  omega
theorem Bt.add (x : Bt a i) (y : Bt b j) : Bt (max a b + 1) (i + j) := Nat.lt_of_le_of_lt (Int.natAbs_add_le i j) (two_max x y)
theorem Bt.sub (x : Bt a i) (y : Bt b j) : Bt (max a b + 1) (i - j) := by
  have h := Bt.add x y.neg
  rw [← Int.sub_eq_add_neg] at h
  exact h
theorem Bt.mul (x : Bt a i) (y : Bt b j) : Bt (a + b) (i * j) := by
  unfold Bt
  rw [Int.natAbs_mul, Nat.pow_add]
  exact Nat.mul_lt_mul'' x y
theorem Bt.pow3 (x : Bt a i) : Bt (a + a + a) (i ^ 3) := by
  have h := Bt.mul (Bt.mul x x) x
  rw [show i ^ 3 = i * i * i from by rw [show (3 : Nat) = 2 + 1 from rfl, Int.pow_succ, Int.pow_succ, Int.pow_succ, Int.pow_zero, Int.one_mul]]
  exact h
theorem Bt.mod (h : 0 < j) (y : Bt b j) : Bt b (i % j) := by
  have h1 := Int.emod_nonneg i (show j ≠ 0 by omega)
  have h2 := Int.emod_lt_of_pos i h
  exact y.of_le (by omega)
theorem Bt.div (h : 0 < j) (x : Bt a i) : Bt a (i / j) := by
  refine x.of_le ?_
  have e := Int.natAbs_ediv_le_natAbs i j
  exact e
theorem Bt.abs (x : Bt a i) : Bt a (if i < 0 then -i else i) := by
  split
  · exact x.neg
  · exact x
theorem Bt.log2 (x : Bt a i) (h : 0 < a) : i.natAbs.log2 < a := PySem.Flt.log2_lt_of h x
theorem Bt.log2' (x : Bt a i) : i.natAbs.log2 ≤ a := by
  by_cases h : 0 < a
  · exact Nat.le_of_lt (x.log2 h)
  · have e : a = 0 := by omega
    subst e
    have z : i.natAbs = 0 := by have := x; unfold Bt at this; omega
    rw [z]
    decide
theorem Bt.ltI (x : Bt a i) : i < 2 ^ a := by
  have h : (i.natAbs : Int) < ((2 ^ a : Nat) : Int) := Int.ofNat_lt.mpr x
  have e : ((2 ^ a : Nat) : Int) = (2 : Int) ^ a := by simp
  omega
theorem mulOk (x : Bt a i) (y : Bt b j) (h : decide (a + b < 1000000) = true) : CMulW i j := by
  have := x.log2'
  have := y.log2'
  have := of_decide_eq_true h
  unfold CMulW
  omega
theorem divOk (h : 0 < j) (y : Bt b j) (h9 : decide (b < 9000) = true) : CDivW i j := ⟨h, Nat.lt_of_le_of_lt y.log2' (of_decide_eq_true h9)⟩
theorem powOk (x : Bt a i) (h0 : decide (0 ≤ j ∧ j ≤ 64) = true) (h : decide (a < 1000000) = true) : CPowW i j :=
  ⟨(of_decide_eq_true h0).1, (of_decide_eq_true h0).2, Nat.lt_of_le_of_lt x.log2' (of_decide_eq_true h)⟩
theorem powLit (h : decide (0 ≤ j ∧ j ≤ 64 ∧ i.natAbs.log2 < 1000000) = true) : CPowW i j := by
  have z : 0 ≤ j ∧ j ≤ 64 ∧ i.natAbs.log2 < 1000000 := of_decide_eq_true h
  exact z
end
end G
namespace G
open PySem PySem.Spec L2
section
theorem w_two {a b : Int} {P : Int → Int → Prop} (q : P a b) : ∃ i j, [V.int a, V.int b] = [V.int i, V.int j] ∧ P i j := ⟨a, b, rfl, q⟩
theorem w_one {a : Int} {P : Int → Prop} (q : P a) : ∃ i, [V.int a] = [V.int i] ∧ P i := ⟨a, rfl, q⟩
end
end G
namespace G
open PySem PySem.Spec L2
/-- a written power -/
theorem w_powN {i j : Int} {n : Nat} {H : Hp} {Q : VK} (e : j = (n : Int)) (h : decide (0 ≤ j ∧ j ≤ 64 ∧ i.natAbs.log2 < 1000000) = true) (q : Q (.int (i ^ n)) H) :
    rI CPowW (fun i j => .int (i ^ j.toNat)) (.int i) (.int j) H Q := ⟨i, j, rfl, rfl, powLit h, by
  have z : j.toNat = n := by omega
  show Q (.int (i ^ j.toNat)) H
  rw [z]
  exact q⟩
theorem w_powV {i j : Int} {n a : Nat} {H : Hp} {Q : VK} (e : j = (n : Int)) (x : Bt a i) (h0 : decide (0 ≤ j ∧ j ≤ 64) = true) (h : decide (a < 1000000) = true) (q : Q (.int (i ^ n)) H) :
    rI CPowW (fun i j => .int (i ^ j.toNat)) (.int i) (.int j) H Q := ⟨i, j, rfl, rfl, powOk x h0 h, by
  have z : j.toNat = n := by omega
  show Q (.int (i ^ j.toNat)) H
  rw [z]
  exact q⟩
end G
namespace G
open PySem PySem.Spec PyProof.Rows L2
/-- a ** b, both written: the number c -/
theorem pe_powc {X : Cx} {a b c : Int} {p1 p2 pos : Pos} {k1 k2} (h : decide (0 ≤ b ∧ b ≤ 64 ∧ a.natAbs.log2 < 1000000) = true) (e : a ^ b.toNat = c) :
    PE X (.BinOp (.Constant (.int a) k1 p1) .Pow (.Constant (.int b) k2 p2) pos) (tC (.int c)) := by
  have t := pe_op (X := X) (pos := pos) op_powW (pe_int (i := a) (j := k1) (pos := p1)) (pe_int (i := b) (j := k2) (pos := p2))
  refine ⟨fun pins s σ H Q I q => t.run pins s σ H Q I ?_⟩
  refine ⟨a, b, rfl, rfl, powLit h, ?_⟩
  show Q (.int (a ^ b.toNat)) H
  rw [e]
  exact q
end G
namespace G
open PySem PySem.Spec PyProof.Rows L2
section
variable {X : Cx} {CX : CXT} {k : Nat} {f : Addr} {fd : FuncData} {ps ks : List Str} {sp : Sp} {E : XK} {x : Str} {p pos : Pos} {kws : List Keyword} {tk : TA} {g : List Value → List Value → List Value} {gV : List V → List V → List V}
/-- f(k = v, ..) -/
theorem pe_callN0 (F : FnOk X.prog X.w X.K X.mg X.base CX k f fd ps sp) (hr : Room k X.A) (hg : Gl X x) (hm : X.mg x = some (.ref f)) (hk : PySem.W.keepIn X.K (.ref f) = true) (hb : KBn X.K fd ps 0 ks g gV) (hx : Passes CX X E)
    (hkw : PK X kws tk) (hall : (backToKw pos (keywordEach kws X.env)).all (·.1.isSome) = true := by rfl) (hks : (backToKw pos (keywordEach kws X.env)).filterMap (·.1) = ks := by rfl) (hdb : (x == ("__debug__" : Str)) = false := by decide)
    (hpl : ((backTo pos (starEach [] X.env)).any (·.1) || (backToKw pos (keywordEach kws X.env)).any (·.1.isNone)) = false := by rfl) :
    PE X (.Call (.Name x p) [] kws pos) (tCallN 0 ks.length sp gV E tNil tk) := by
  refine ⟨fun pins s σ H Q I h => wpAny_Call_Name_kw (ld_glob I hg hm ?_ hdb)⟩
  refine PySem.W.callWith_KW0 (h₀ := X.base) I.ok.mod.kin hk hall ?_ hpl
  refine thn (hkw.run pos pins s σ H _ I h) fun ws s2 ⟨zs, H2, I2, rz, l1, l2, q2⟩ => ⟨I2.kIn, ?_⟩
  rw [hks]
  exact run_fnN (us := []) (vs := []) F hr hb hx I2 .nil rz rfl l2 q2
/-- every parameter by its name, in their order -/
theorem kbn_all {K : PySem.W.Frag} (h : ∀ ws : List Value, ws.length = ks.length → bindArgs fd ⟨[], ks.zip ws⟩ = pure (ps.zip ws)) : KBn K fd ps 0 ks (fun _ ws => ws) (fun _ zs => zs) :=
  ⟨fun s us ws _ l1 l2 => by
    have e : us = [] := List.length_eq_zero_iff.mp l1
    subst e
    exact .of_eq (h ws l2), fun _ r => r⟩
end
end G
namespace G
open PySem PySem.Spec L2
section
variable {H : Hp} {Q : VK} {K : PySem.W.Frag}
theorem w_isB {a b : Bool} (q : Q (.bl (decide (a = b))) H) : rIsB (.bl a) (.bl b) H Q := ⟨a, b, rfl, rfl, q⟩
theorem w_notB {a b : Bool} (q : Q (.bl (!decide (a = b))) H) : rNotB (.bl a) (.bl b) H Q := ⟨a, b, rfl, rfl, q⟩
/-- a text against itself -/
theorem w_neS {s : Str} (q : Q (.bl false) H) : rNe (.str s) (.str s) H Q := ⟨rfl, by
  show Q (.bl (!decide (V.str s = V.str s))) H
  rw [decide_eq_true (rfl : V.str s = V.str s)]
  exact q⟩
theorem w_eqS {s : Str} (q : Q (.bl true) H) : rEq (.str s) (.str s) H Q := ⟨rfl, by
  show Q (.bl (decide (V.str s = V.str s))) H
  rw [decide_eq_true (rfl : V.str s = V.str s)]
  exact q⟩
theorem w_repr {a : Addr} {d : PyData} (hd : Dp K H (.ref a) d) (hl : lim d) (q : Q (.str d.shown) H) (hc : decide (cnt d ≤ 8000) = true := by rfl) (hp : decide (d.depth ≤ 40) = true := by rfl) : rRepr K [.ref a] H Q := ⟨a, d, rfl, hd, hl, of_decide_eq_true hc, of_decide_eq_true hp, q⟩
theorem w_eqD {x y : V} {d e : PyData} {b : Bool} (hd : Dp K H x d) (he : Dp K H y e) (sd : SeqAt.shaped d = true) (se : SeqAt.shaped e = true) (h : PyData.eqv d e = b) (q : Q (.bl b) H) : rEqD K x y H Q := ⟨d, e, hd, he, sd, se, by rw [h]; exact q⟩
theorem w_neD {x y : V} {d e : PyData} {b : Bool} (hd : Dp K H x d) (he : Dp K H y e) (sd : SeqAt.shaped d = true) (se : SeqAt.shaped e = true) (h : PyData.eqv d e = b) (q : Q (.bl (!b)) H) : rNeD K x y H Q := ⟨d, e, hd, he, sd, se, by rw [h]; exact q⟩
theorem Bt.lim {n : Nat} {i : Int} (x : Bt n i) (h : n ≤ 1900) : lim (.int i) := by
  simp only [G.lim]
  exact Bt.mono x h
/-- a pair of ints -/
def prd (p : Int × Int) : PyData := .tuple [.int p.1, .int p.2]
theorem prd_lim {p : Int × Int} (h1 : Bt 1900 p.1) (h2 : Bt 1900 p.2) : G.lim (prd p) := by
  simp only [prd, G.lim, G.limAll]
  exact ⟨h1, h2, trivial⟩
theorem prd_dp {a : Addr} {i j : Int} (h : H a = some (.tup [.int i, .int j])) : Dp K H (.ref a) (prd (i, j)) := .tup (SqT.of h) (.cons (.int i) (.cons (.int j) .nil))
theorem prd_shaped (p : Int × Int) : SeqAt.shaped (prd p) = true := by rfl
end
end G
namespace G
open PySem PySem.Spec L2
section
variable {H : Hp} {Q : VK} {K : PySem.W.Frag}
/-- xs * k -/
theorem w_rep {l : Addr} {k : Int} {xs ys : List V} (h : H l = some (.lst xs)) (hk : decide (0 ≤ k ∧ k ≤ 1000) = true) (hz : decide (xs.length ≤ 1000) = true) (e : (List.replicate k.toNat xs).flatten = ys)
    (q : ∀ p H', H p = none → Same H H' → H' p = some (.lst ys) → Q (.ref p) H') : rRep (.ref l) (.int k) H Q := by
  have hk := of_decide_eq_true hk
  have hz := of_decide_eq_true hz
  refine ⟨l, k, xs, rfl, rfl, h, by omega, by omega, ?_, fun p hp => ?_⟩
  · rw [show sizeLine = 16777216 from sizeLine_eq]
    have h1 : xs.length * k.toNat ≤ 1000 * 1000 := Nat.mul_le_mul hz (by omega)
    omega
  · rw [e]
    exact q p _ hp (same_new hp) upd_same
/-- xs + ys -/
theorem w_cat {l b : Addr} {xs ys : List V} (h : H l = some (.lst xs)) (h' : H b = some (.lst ys)) (hz : xs.length + ys.length ≤ 1000000)
    (q : ∀ p H', H p = none → Same H H' → H' p = some (.lst (xs ++ ys)) → Q (.ref p) H') : rCat (.ref l) (.ref b) H Q :=
  ⟨l, b, xs, ys, rfl, rfl, h, h', by rw [show sizeLine = 16777216 from sizeLine_eq]; omega, fun p hp => q p _ hp (same_new hp) upd_same⟩
/-- {} -/
theorem w_dnew {σ : L2.St} (q : ∀ p H', H p = none → Same H H' → H' p = some (.dK []) → Q (.ref p) H') : tDNewK σ H Q := fun p hp => q p _ hp (same_new hp) upd_same
/-- str(n) -/
theorem w_strI {i : Int} {P : Int → Prop} (h : Bt 1900 i) (q : P i) : ∃ j : Int, [V.int i] = [V.int j] ∧ j.natAbs.log2 < 1920 ∧ P j :=
  ⟨i, rfl, Nat.lt_of_le_of_lt h.log2' (by decide), q⟩
theorem w_strI2 {i : Int} {P : Prop} (h : Bt 1900 i) (q : P) : i.natAbs.log2 < 1920 ∧ P := ⟨Nat.lt_of_le_of_lt h.log2' (by decide), q⟩
theorem Same.src {H H' : Hp} {b : Addr} {o : HO} (e : Same H H') (h : H b = some o) : H' b = some o := e b o h
end
end G
namespace G
open PySem PySem.Spec PyProof.Rows L2
section
variable {X : Cx}
/-- xs + ys, lists that are read only -/
def rCatL (K : PySem.W.Frag) : R2 := fun x y H Q => ∃ l b xs zs, x = .ref l ∧ y = .ref b ∧ SqL K H l xs ∧ SqL K H b zs ∧ xs.length + zs.length ≤ 1000000 ∧ ∀ p H', H p = none → Same H H' → H' p = some (.lst (xs ++ zs)) → Q (.ref p) H'
theorem op_catL : OpR X (binaryOp .Add) (rCatL X.K) := by
  intro pins s σ H x y v u Q I rx ry h
  obtain ⟨l, b, xs, zs, rfl, rfl, hH, hB, hz, q⟩ := h
  obtain rfl : v = Value.ref l := rx
  obtain rfl : u = Value.ref b := ry
  obtain ⟨its, r, ⟨⟨cls, dd, data, sl⟩, n, ho, hc, _, hd⟩, _⟩ := I.list hH
  obtain ⟨its2, r2, ⟨⟨cls2, dd2, data2, sl2⟩, n2, ho2, hc2, _, hd2⟩, _⟩ := I.list hB
  simp only at hc hd hc2 hd2
  subst hc hd hc2 hd2
  have e : its.toArray ++ its2.toArray = (its ++ its2).toArray := by simp
  have l1 := r.length
  have l2 := r2.length
  have z : xs.length + zs.length ≤ sizeLine := by rw [show sizeLine = 16777216 from sizeLine_eq]; omega
  refine concat_meets ⟨_, ho, rfl⟩ ⟨_, ho2, rfl⟩ noFill_list_add seq_list_add PySem.F.slot_list_add PySem.F.entry_list_add (PySem.F.args_list_add_2 _ _)
    (list_addW l b its.toArray its2.toArray n n2 dd dd2 sl sl2 (by rw [List.size_toArray, List.size_toArray]; omega)) ⟨ho, ho2, ?_⟩
  rw [e]
  exact ⟨.ref _, _, I.lnew (t' := s.toks) (r.append r2) (by rw [List.length_append]; omega), rfl, q _ _ I.fresh (same_new I.fresh) upd_same⟩
end
section
variable {σ : L2.St} {H : Hp} {Q : VK} {K : PySem.W.Frag} {a : Addr} {D : Ends} {tr : TA} {tb : TS}
theorem w_iEnum {R : It → Hp → Prop} (q : tr σ H fun vs H1 => ∃ a xs, vs = [.ref a] ∧ SqL K H1 a xs ∧ R (Ite K a) H1) : iEnum K tr σ H R := q
/-- for i, x in enumerate(xs) -/
theorem w_walkE {n i1 i2 : Nat} {xs : List V} (hl : SqL K H a xs) (hn : n = 2) (Pv : Nat → L2.St → Hp → Prop) (h0 : Pv 0 σ H) (hk : ∀ i σ' H', i ≤ xs.length → Pv i σ' H' → SqL K H' a xs)
    (hs : ∀ (i : Nat) x σ' H' H2, xs[i]? = some x → Pv i σ' H' → Same H' H2 → tb { nx := Pv (i + 1), rt := D.rt, ct := Pv (i + 1), bk := D.nx } ((σ'.set i1 (some (.int (i : Int)))).set i2 (some x)) H2) (hd : ∀ σ' H', Pv xs.length σ' H' → D.nx σ' H') :
    ∃ b ys, [V.ref a] = [.ref b] ∧ SqL K H b ys ∧ ForW (Ite K b) (gTup K n (gCons (gName i1) (gCons (gName i2) gNil))) tb D σ H := by
  subst hn
  refine ⟨a, xs, rfl, hl, for_it walk_enum Pv h0 hk ?_ hd⟩
  rintro i x σ' H' H2 hi hp ⟨T, y, z, rfl, hT, rfl, hy, hz⟩
  cases hy
  refine ⟨T, _, rfl, SqT.of upd_same, rfl, _, _, rfl, _, _, rfl, rfl, hs i z σ' H' _ hz hp (same_new hT)⟩
/-- slices -/
theorem w_sl {r : V → Option Int → Option Int → Hp → VK → Prop} {te : TE} {tl th : TO} (q : te σ H fun x H1 => tl σ H1 fun l H2 => th σ H2 fun u H3 => r x l u H3 Q) : tSl r te tl th σ H Q := q
theorem w_slL {p : Addr} {xs : List V} {l u : Option Int} (h : SqL K H p xs) (k : ∀ q H', H q = none → Same H H' → H' q = some (.lst (cutV xs l u)) → Q (.ref q) H') : rSlL K (.ref p) l u H Q :=
  ⟨p, xs, rfl, h, fun q hq => k q _ hq (same_new hq) upd_same⟩
/-- len of a list -/
theorem w_lenL {p : Addr} {xs : List V} {R : Nat → Prop} (h : SqL K H p xs) (q : R xs.length) : ∃ x n, [V.ref p] = [x] ∧ LenV K x H n ∧ R n := ⟨.ref p, xs.length, rfl, .inl ⟨xs, h, rfl⟩, q⟩
theorem w_noPart {R : Option Int → Hp → Prop} (q : R none H) : tNoPart σ H R := q
theorem w_part {te : TE} {R : Option Int → Hp → Prop} (q : te σ H fun x H1 => ∃ i, x = .int i ∧ R (some i) H1) : tPart te σ H R := q
theorem w_int {i : Int} {P : Int → Prop} (q : P i) : ∃ j, V.int i = .int j ∧ P j := ⟨i, rfl, q⟩
theorem dp_ints {ns : List Int} (h : SqL K H a (ns.map V.int)) : Dp K H (.ref a) (.list (ns.map PyData.int)) := by
  refine .lst h ?_
  clear h
  induction ns with
  | nil => exact .nil
  | cons n r ih => exact .cons (.int n) ih
theorem shaped_ints (ns : List Int) : SeqAt.shaped (.list (ns.map PyData.int)) = true := by
  have h1 : PyData.canLayAll0 (ns.map PyData.int) = true := by
    induction ns with
    | nil => simp only [List.map_nil, PyData.canLayAll0]
    | cons n r ih => simp only [List.map_cons, PyData.canLayAll0, PyData.canLay0, ih, Bool.and_self]
  have h2 : PyData.depthAll (ns.map PyData.int) = 0 := by
    clear h1
    induction ns with
    | nil => simp only [List.map_nil, PyData.depthAll]
    | cons n r ih => simp only [List.map_cons, PyData.depthAll, PyData.depth, ih, Nat.max_self]
  unfold SeqAt.shaped
  simp only [PyData.canLay0, PyData.depth, h1, h2]
  rfl
theorem cut_mem {xs : List V} {lo hi : Option Int} {x : V} (h : x ∈ cutV xs lo hi) : x ∈ xs := List.mem_of_mem_drop (List.mem_of_mem_take h)
theorem cut_len {xs : List V} {lo hi : Option Int} : (cutV xs lo hi).length ≤ xs.length := by
  unfold cutV
  rw [List.length_take, List.length_drop]
  omega
end
end G

/-! The laws' draws; ratios; what is promised of the small defs. -/
namespace G
open PySem PySem.Spec L2
/-- the numbers that are drawn from stand at a; so many at most were drawn -/
def Src (b : Nat) (H : Hp) (a : Addr) : Prop := ∃ x y z : Int, H a = some (.lst [.int x, .int y, .int z]) ∧ 0 ≤ x ∧ 0 ≤ y ∧ Bt 260 y ∧ 0 ≤ z ∧ z ≤ b
theorem Src.mono {b c : Nat} {H : Hp} {a : Addr} (h : Src b H a) (l : b ≤ c) : Src c H a := let ⟨x, y, z, h1, h2, h3, h4, h5, h6⟩ := h; ⟨x, y, z, h1, h2, h3, h4, h5, by omega⟩
theorem Src.new {b : Nat} {H : Hp} {a p : Addr} {o : HO} (h : Src b H a) (n : H p = none) : Src b (upd H p o) a :=
  let ⟨x, y, z, h1, h2⟩ := h; ⟨x, y, z, by rw [upd_ne (ne_of_none h1 n)]; exact h1, h2⟩
theorem Src.same {b : Nat} {H H' : Hp} {a : Addr} (h : Src b H a) (e : Same H H') : Src b H' a :=
  let ⟨x, y, z, h1, h2⟩ := h; ⟨x, y, z, e _ _ h1, h2⟩
theorem Src.ne {b : Nat} {H : Hp} {a p : Addr} (h : Src b H a) (n : H p = none) : p ≠ a := let ⟨_, _, _, h1, _⟩ := h; (ne_of_none h1 n).symm
theorem upd_twice {H : Hp} {a : Addr} {o u : HO} : upd (upd H a o) a u = upd H a u := by
  funext b
  unfold upd
  by_cases h : b = a
  · rw [if_pos h, if_pos h]
  · rw [if_neg h, if_neg h, if_neg h]
/-- the attributes of a ratio -/
def rf (i j : Int) : List (Str × V) := putF "_bottom" (.int j) (putF "_top" (.int i) [])
theorem rf_top (i j : Int) : (rf i j).lookup ("_top" : Str) = some (.int i) := by
  unfold rf
  rw [lookup_putF, if_neg (by decide +kernel), lookup_putF, if_pos rfl]
theorem rf_bottom (i j : Int) : (rf i j).lookup ("_bottom" : Str) = some (.int j) := by
  unfold rf
  rw [lookup_putF, if_pos rfl]
/-- a ratio stands at p -/
def Rat (C : Addr) (H : Hp) (p : Addr) (i j : Int) : Prop := ∃ dx, H p = some (.ins C dx (rf i j))
/-! ### the promises -/
/-- is_whole of an int -/
def spWhole : Sp := fun vs H Q _ => ∃ i, vs = [.int i] ∧ Q (.bl true) H
def spInit (C : Addr) : Sp := fun vs H Q _ => ∃ (p dx : Addr) (i j : Int), vs = [.ref p, .int i, .int j] ∧ 0 < j ∧ Bt 8000 j ∧ H p = some (.ins C dx []) ∧
  Q .non (upd H p (.ins C dx (rf (i / (Int.gcd i j : Int)) (j / (Int.gcd i j : Int)))))
def spIsR (K : PySem.W.Frag) (C : Addr) : Sp := fun vs H Q _ => ∃ x t b, vs = [x] ∧ TyX K H x t ∧ PySem.W.kitOne K t (.ref C) = some b ∧ Q (.bl b) H
def spSource : Sp := fun vs H Q _ => ∃ c k : Int, vs = [.int c, .int k] ∧ 0 ≤ k ∧ Bt 60 k ∧ ∀ p H', H p = none → Same H H' → Src 0 H' p → Q (.ref p) H'
def spDraw : Sp := fun vs H Q _ => ∃ a n b, vs = [.ref a, .int n] ∧ Src b H a ∧ b < 2 ^ 60 ∧ 0 < n ∧ Bt 2000 n ∧
  ∀ d H', 0 ≤ d → d < n → Src (b + 1) H' a → Fr a H H' → Q (.int d) H'
def spSize : Sp := fun vs H Q _ => ∃ a b, vs = [.ref a] ∧ Src b H a ∧ b < 2 ^ 60 ∧ ∀ n H', 3 ≤ n → n ≤ 10 ^ 31 → Src (b + 1) H' a → Fr a H H' → Q (.int n) H'
def spPair : Sp := fun vs H Q _ => ∃ a b, vs = [.ref a] ∧ Src b H a ∧ b + 10 < 2 ^ 60 ∧
  ∀ i j p H', i.natAbs < 10 ^ 31 → 0 < j → j < 10 ^ 31 → H' p = some (.tup [.int i, .int j]) → p ≠ a → Src (b + 10) H' a → Fr a H H' → Q (.ref p) H'
def spLowest (K : PySem.W.Frag) : Sp := fun vs H Q _ => ∃ p i j, vs = [.ref p] ∧ SqT K H p [.int i, .int j] ∧ 0 < j ∧ Bt 8000 i ∧ Bt 8000 j ∧
  ∀ q H', H q = none → Same H H' → H' q = some (.tup [.int (i / (Int.gcd i j : Int)), .int (j / (Int.gcd i j : Int))]) → Q (.ref q) H'
def spSeen (C : Addr) : Sp := fun vs H Q _ => ∃ p i j, vs = [.ref p] ∧ Rat C H p i j ∧ ∀ q H', H q = none → Same H H' → H' q = some (.tup [.int i, .int j]) → Q (.ref q) H'
/-- one of the five sizes -/
theorem size_at {d : Int} (h0 : 0 ≤ d) (h1 : d < 5) : ∃ n : Int, 3 ≤ n ∧ n ≤ 10 ^ 31 ∧ atI [V.int 3, V.int 12, V.int 1000000, V.int 1000000000000000, V.int 10000000000000000000000000000000] d = some (.int n) := by
  have c : d = 0 ∨ d = 1 ∨ d = 2 ∨ d = 3 ∨ d = 4 := by omega
  rcases c with rfl | rfl | rfl | rfl | rfl
  · exact ⟨3, by decide, by decide, rfl⟩
  · exact ⟨12, by decide, by decide, rfl⟩
  · exact ⟨1000000, by decide, by decide, rfl⟩
  · exact ⟨1000000000000000, by decide, by decide, rfl⟩
  · exact ⟨10000000000000000000000000000000, by decide, by decide, rfl⟩
theorem sign_at {d : Int} (h0 : 0 ≤ d) (h1 : d < 3) : ∃ n : Int, (n = 1 ∨ n = -1) ∧ atI [V.int 1, V.int 1, V.int (-1)] d = some (.int n) := by
  have c : d = 0 ∨ d = 1 ∨ d = 2 := by omega
  rcases c with rfl | rfl | rfl
  · exact ⟨1, .inl rfl, rfl⟩
  · exact ⟨1, .inl rfl, rfl⟩
  · exact ⟨-1, .inr rfl, rfl⟩
theorem bt_31 {n : Int} (h0 : 0 ≤ n) (h : n ≤ 10 ^ 31) : Bt 104 n := by
  unfold Bt
  omega
theorem ratio_of {C : Addr} {H : Hp} {i j : Int} {Q : Addr → Hp → Prop} {E : XK} (hj : 0 < j) (bj : Bt 8000 j) (q : ∀ x H2, H x = none → Same H H2 → Rat C H2 x (i / (Int.gcd i j : Int)) (j / (Int.gcd i j : Int)) → Q x H2) :
    ∀ x dx, H x = none → H dx = none → dx ≠ x → spInit C [.ref x, .int i, .int j] (upd (upd H dx (.own x)) x (.ins C dx [])) (fun v H2 => v = .non ∧ Q x H2) E := by
  intro x dx hx hd hne
  refine ⟨x, dx, i, j, rfl, hj, bj, upd_same, rfl, ?_⟩
  refine q x _ hx (fun c o h => ?_) ⟨dx, upd_same⟩
  rw [upd_ne (ne_of_none h hx), upd_ne (ne_of_none h hx), upd_ne (ne_of_none h hd)]
  exact h
/-- lowest terms: what is in them already -/
theorem low_pos {i j : Int} (h : 0 < j) : 0 < j / (Int.gcd i j : Int) := by
  have g := Int.gcd_pos_of_ne_zero_right i (show j ≠ 0 by omega)
  have d : (Int.gcd i j : Int) ∣ j := Int.gcd_dvd_right i j
  exact Int.ediv_pos_of_pos_of_dvd h (by omega) d
theorem low_gcd {i j : Int} (h : 0 < j) : Int.gcd (i / (Int.gcd i j : Int)) (j / (Int.gcd i j : Int)) = 1 :=
  Int.gcd_ediv_gcd_ediv_gcd (Int.gcd_pos_of_ne_zero_right i (show j ≠ 0 by omega))
theorem low_bt {n : Nat} {i j : Int} (h : 0 < j) (x : Bt n i) : Bt n (i / (Int.gcd i j : Int)) := by
  have g := Int.gcd_pos_of_ne_zero_right i (show j ≠ 0 by omega)
  exact Bt.div (by omega) x
theorem low_bt_b {n : Nat} {i j : Int} (h : 0 < j) (x : Bt n j) : Bt n (j / (Int.gcd i j : Int)) := by
  have g := Int.gcd_pos_of_ne_zero_right i (show j ≠ 0 by omega)
  exact Bt.div (by omega) x
theorem low_again {i j : Int} (h : Int.gcd i j = 1) : i / (Int.gcd i j : Int) = i ∧ j / (Int.gcd i j : Int) = j := by
  rw [h]
  exact ⟨Int.ediv_one i, Int.ediv_one j⟩
theorem Rat.same {C : Addr} {H H' : Hp} {p : Addr} {i j : Int} (h : Rat C H p i j) (e : Same H H') : Rat C H' p i j := let ⟨dx, h⟩ := h; ⟨dx, e _ _ h⟩
/-- no ratio, now and in all heaps that grow out of this one -/
def NotR (K : PySem.W.Frag) (C : Addr) (H : Hp) (x : V) : Prop := ∃ t, (∀ H', Same H H' → TyX K H' x t) ∧ PySem.W.kitOne K t (.ref C) = some false

/-! ### what stands where, from heap to heap -/
theorem tup_same {H H' : Hp} {p : Addr} {xs : List V} (h : H p = some (.tup xs)) (e : Same H H') : H' p = some (.tup xs) := e _ _ h
theorem tup_fr {b : Nat} {H H' : Hp} {a p : Addr} {xs : List V} (h : H p = some (.tup xs)) (s : Src b H a) (f : Fr a H H') : H' p = some (.tup xs) :=
  let ⟨_, _, _, k, _⟩ := s; f _ _ (ne_of h k (by intro z; cases z)) h
theorem lst_same {H H' : Hp} {p : Addr} {xs : List V} (h : H p = some (.lst xs)) (e : Same H H') : H' p = some (.lst xs) := e _ _ h
theorem lst_fr {H H' : Hp} {a p : Addr} {xs : List V} (h : H p = some (.lst xs)) (n : p ≠ a) (f : Fr a H H') : H' p = some (.lst xs) := f _ _ n h
theorem Rat.fr {b : Nat} {C : Addr} {H H' : Hp} {a p : Addr} {i j : Int} (h : Rat C H p i j) (s : Src b H a) (f : Fr a H H') : Rat C H' p i j :=
  let ⟨dx, h⟩ := h; let ⟨_, _, _, k, _⟩ := s; ⟨dx, f _ _ (ne_of h k (by intro z; cases z)) h⟩
/-! ### pairs in lowest terms -/
def low (i j : Int) : Int × Int := (i / (Int.gcd i j : Int), j / (Int.gcd i j : Int))
/-- in lowest terms, so many bits at most -/
def Lp (n : Nat) (x : Int × Int) : Prop := 0 < x.2 ∧ Int.gcd x.1 x.2 = 1 ∧ Bt n x.1 ∧ Bt n x.2
theorem Lp.low {n : Nat} {i j : Int} (h : 0 < j) (a : Bt n i) (b : Bt n j) : Lp n (G.low i j) := ⟨low_pos h, low_gcd h, low_bt h a, low_bt_b h b⟩
theorem Lp.mono {n m : Nat} {x : Int × Int} (h : Lp n x) (l : n ≤ m) : Lp m x := ⟨h.1, h.2.1, h.2.2.1.mono l, h.2.2.2.mono l⟩
theorem Lp.again {n : Nat} {x : Int × Int} (h : Lp n x) : G.low x.1 x.2 = x := by
  obtain ⟨h1, h2⟩ := low_again h.2.1
  unfold G.low
  rw [h1, h2]
end G
namespace G
open PySem PySem.Spec L2
/-! ### sums, differences, products of pairs: 0, 1, 2 -/
def jn (w : Int) (x y : Int × Int) : Int × Int := if w = 2 then low (x.1 * y.1) (x.2 * y.2) else low (x.1 * y.2 + (1 - 2 * w) * y.1 * x.2) (x.2 * y.2)
theorem jn_add (x y : Int × Int) : jn 0 x y = low (x.1 * y.2 + y.1 * x.2) (x.2 * y.2) := by
  unfold jn
  rw [if_neg (by decide), show (1 - 2 * 0 : Int) = 1 by decide, Int.one_mul]
theorem jn_sub (x y : Int × Int) : jn 1 x y = low (x.1 * y.2 - y.1 * x.2) (x.2 * y.2) := by
  unfold jn
  rw [if_neg (by decide), show (1 - 2 * 1 : Int) = -1 by decide, Int.neg_mul, Int.one_mul, Int.neg_mul, ← Int.sub_eq_add_neg]
theorem jn_mul (x y : Int × Int) : jn 2 x y = low (x.1 * y.1) (x.2 * y.2) := by
  unfold jn
  rw [if_pos rfl]
theorem jn_lp {a b : Nat} {w : Int} {x y : Int × Int} (h : w = 0 ∨ w = 1 ∨ w = 2) (hx : Lp a x) (hy : Lp b y) : Lp (a + b + 1) (jn w x y) := by
  obtain ⟨x1, x2, x3, x4⟩ := hx
  obtain ⟨y1, y2, y3, y4⟩ := hy
  have p := Int.mul_pos x1 y1
  have c : max (a + b) (b + a) + 1 ≤ a + b + 1 := by omega
  rcases h with rfl | rfl | rfl
  · rw [jn_add]
    exact Lp.low p ((Bt.add (Bt.mul x3 y4) (Bt.mul y3 x4)).mono c) ((Bt.mul x4 y4).mono (by omega))
  · rw [jn_sub]
    exact Lp.low p ((Bt.sub (Bt.mul x3 y4) (Bt.mul y3 x4)).mono c) ((Bt.mul x4 y4).mono (by omega))
  · rw [jn_mul]
    exact Lp.low p ((Bt.mul x3 y3).mono (by omega)) ((Bt.mul x4 y4).mono (by omega))
/-- an operator of two ratios -/
def spBin (C : Addr) (w : Int) : Sp := fun vs H Q _ => ∃ p q x y n, vs = [.ref p, .ref q] ∧ Rat C H p x.1 x.2 ∧ Rat C H q y.1 y.2 ∧ Lp n x ∧ Lp n y ∧ n ≤ 3500 ∧
  ∀ r H', H r = none → Same H H' → Rat C H' r (jn w x y).1 (jn w x y).2 → Q (.ref r) H'
def spNeg (C : Addr) : Sp := fun vs H Q _ => ∃ p x n, vs = [.ref p] ∧ Rat C H p x.1 x.2 ∧ Lp n x ∧ n ≤ 3500 ∧
  ∀ r H', H r = none → Same H H' → Rat C H' r (-x.1) x.2 → Q (.ref r) H'
/-- == of a ratio with a ratio, with any other value -/
def spEq (K : PySem.W.Frag) (C : Addr) : Sp := fun vs H Q _ =>
  (∃ (p q : Addr) (x y : Int × Int), vs = [.ref p, .ref q] ∧ Rat C H p x.1 x.2 ∧ Rat C H q y.1 y.2 ∧ Q (.bl (decide (x = y))) H) ∨
  (∃ (p : Addr) (x : Int × Int) (v : V) (t : Value), vs = [.ref p, v] ∧ Rat C H p x.1 x.2 ∧ TyX K H v t ∧ PySem.W.kitOne K t (.ref C) = some false ∧ Q (.bl false) H)
end G
namespace G
open PySem PySem.Spec L2
theorem ratio_lp {C : Addr} {H : Hp} {n : Nat} {x : Int × Int} {Q : Addr → Hp → Prop} {E : XK} (hx : Lp n x) (hn : decide (n ≤ 8000) = true) (q : ∀ r H2, H r = none → Same H H2 → Rat C H2 r x.1 x.2 → Q r H2) :
    ∀ r dx, H r = none → H dx = none → dx ≠ r → spInit C [.ref r, .int x.1, .int x.2] (upd (upd H dx (.own r)) r (.ins C dx [])) (fun v H2 => v = .non ∧ Q r H2) E :=
  ratio_of hx.1 (hx.2.2.2.mono (of_decide_eq_true hn)) fun r H2 n e R => q r H2 n e (by
    have z := hx.again
    unfold G.low at z
    have z1 : x.1 / (Int.gcd x.1 x.2 : Int) = x.1 := congrArg Prod.fst z
    have z2 : x.2 / (Int.gcd x.1 x.2 : Int) = x.2 := congrArg Prod.snd z
    rw [z1, z2] at R
    exact R)
theorem bt_of_31 {i : Int} {n : Nat} (h : i.natAbs < 10 ^ 31) (hn : decide (104 ≤ n) = true) : Bt n i := by
  refine Bt.mono (a := 104) ?_ (of_decide_eq_true hn)
  unfold Bt
  omega
theorem bt_of_p31 {i : Int} {n : Nat} (h0 : 0 < i) (h : i < 10 ^ 31) (hn : decide (104 ≤ n) = true) : Bt n i := bt_of_31 (by omega) hn
/-- a pair that was drawn, in lowest terms -/
theorem lp_drawn {i j : Int} (hi : i.natAbs < 10 ^ 31) (h0 : 0 < j) (hj : j < 10 ^ 31) : Lp 104 (low i j) := Lp.low h0 (bt_of_31 hi rfl) (bt_of_p31 h0 hj rfl)
/-- tuples of pairs stand at the places of a list -/
inductive Tups (H : Hp) : List V → List (Int × Int) → Prop
  | nil : Tups H [] []
  | cons {s : Addr} {x : Int × Int} {vs : List V} {xs : List (Int × Int)} : H s = some (.tup [.int x.1, .int x.2]) → Tups H vs xs → Tups H (.ref s :: vs) (x :: xs)
theorem Tups.same {H H' : Hp} {vs : List V} {xs : List (Int × Int)} (h : Tups H vs xs) (e : Same H H') : Tups H' vs xs := by
  induction h with
  | nil => exact .nil
  | cons a _ ih => exact .cons (e _ _ a) ih
theorem Tups.fr {H H' : Hp} {L : Addr} {ys : List V} {vs : List V} {xs : List (Int × Int)} (h : Tups H vs xs) (hL : H L = some (.lst ys)) (e : Fr L H H') : Tups H' vs xs := by
  induction h with
  | nil => exact .nil
  | cons a _ ih => exact .cons (e _ _ (ne_of a hL (by intro z; cases z)) a) ih
theorem Tups.snoc {H : Hp} {s : Addr} {x : Int × Int} {vs : List V} {xs : List (Int × Int)} (h : Tups H vs xs) (a : H s = some (.tup [.int x.1, .int x.2])) : Tups H (vs ++ [.ref s]) (xs ++ [x]) := by
  induction h with
  | nil => exact .cons a .nil
  | cons b _ ih => exact .cons b ih
theorem Tups.dp {K : PySem.W.Frag} {H : Hp} {vs : List V} {xs : List (Int × Int)} (h : Tups H vs xs) : DpAll K H vs (xs.map prd) := by
  induction h with
  | nil => exact .nil
  | cons a _ ih => exact .cons (prd_dp a) ih
theorem prds_lim {xs : List (Int × Int)} (h : ∀ x ∈ xs, Bt 1900 x.1 ∧ Bt 1900 x.2) : lim (.list (xs.map prd)) := by
  simp only [lim]
  induction xs with
  | nil => simp only [List.map_nil, limAll]
  | cons x r ih =>
    have a := h x List.mem_cons_self
    exact ⟨prd_lim a.1 a.2, ih fun y hy => h y (List.mem_cons_of_mem _ hy)⟩
theorem Lp.lim {n : Nat} {x : Int × Int} (h : Lp n x) (hn : decide (n ≤ 1900) = true) : G.lim (prd x) := prd_lim (h.2.2.1.mono (of_decide_eq_true hn)) (h.2.2.2.mono (of_decide_eq_true hn))
theorem lim_two {x y : PyData} (a : lim x) (b : lim y) : lim (.list [x, y]) := ⟨a, b, trivial⟩
theorem take_snoc {α : Type} {l : List α} {i : Nat} {x : α} (h : l[i]? = some x) : l.take (i + 1) = l.take i ++ [x] := by
  rw [List.take_add_one, h]
  rfl
end G
namespace G
open PySem PySem.Spec L2
/-- ratios stand at the places of a list -/
inductive Rats (C : Addr) (H : Hp) : List V → List (Int × Int) → Prop
  | nil : Rats C H [] []
  | cons {s : Addr} {x : Int × Int} {vs : List V} {xs : List (Int × Int)} : Rat C H s x.1 x.2 → Rats C H vs xs → Rats C H (.ref s :: vs) (x :: xs)
theorem Rats.same {C : Addr} {H H' : Hp} {vs : List V} {xs : List (Int × Int)} (h : Rats C H vs xs) (e : Same H H') : Rats C H' vs xs := by
  induction h with
  | nil => exact .nil
  | cons a _ ih => exact .cons (a.same e) ih
theorem Rats.fr {C : Addr} {H H' : Hp} {L : Addr} {ys vs : List V} {xs : List (Int × Int)} (h : Rats C H vs xs) (hL : H L = some (.lst ys)) (e : Fr L H H') : Rats C H' vs xs := by
  induction h with
  | nil => exact .nil
  | cons a _ ih =>
    obtain ⟨dx, a⟩ := a
    exact .cons ⟨dx, e _ _ (ne_of a hL (by intro z; cases z)) a⟩ ih
theorem Rats.snoc {C : Addr} {H : Hp} {s : Addr} {x : Int × Int} {vs : List V} {xs : List (Int × Int)} (h : Rats C H vs xs) (a : Rat C H s x.1 x.2) : Rats C H (vs ++ [.ref s]) (xs ++ [x]) := by
  induction h with
  | nil => exact .cons a .nil
  | cons b _ ih => exact .cons b ih
theorem Rats.get {C : Addr} {H : Hp} {vs : List V} {xs : List (Int × Int)} (h : Rats C H vs xs) : ∀ {k : Nat} {v : V}, vs[k]? = some v → ∃ r x, v = .ref r ∧ xs[k]? = some x ∧ Rat C H r x.1 x.2 := by
  induction h with
  | nil => intro k v e; simp at e
  | @cons s x vs xs a _ ih =>
    intro k v e
    cases k with
    | zero =>
      simp at e
      exact ⟨s, x, e.symm, rfl, a⟩
    | succ k =>
      simp at e
      obtain ⟨r, y, h1, h2, h3⟩ := ih e
      exact ⟨r, y, h1, by simpa using h2, h3⟩
theorem Rats.len {C : Addr} {H : Hp} {vs : List V} {xs : List (Int × Int)} (h : Rats C H vs xs) : vs.length = xs.length := by
  induction h with
  | nil => rfl
  | cons _ _ ih => simp [ih]
theorem w_yes {σ : L2.St} {H : Hp} {R : Bool → Hp → Prop} (q : R true H) : tYes σ H R := q
/-- [_law_seen(thing) for thing in told] -/
theorem seen_all {K : PySem.W.Frag} {C : Addr} {σ : L2.St} {H : Hp} {Q : VK} {E : XK} {t : Addr} {i j : Nat} {rs : List V} {xs : List (Int × Int)} (hv : σ[i]? = some (some (.ref t))) (hj : j < σ.length) (ht : H t = some (.lst rs)) (hr : Rats C H rs xs)
    (hlen : rs.length ≤ 1000) (q : ∀ L acc H', H L = none → Same H H' → H' L = some (.lst acc) → Tups H' acc xs → Q (.ref L) H') :
    tLc (iList K (tVar i)) (gName j) tYes (tCall (spSeen C) [] E (tCons (tVar j) tNil)) [j] σ H Q := by
  refine w_lcL (fun R h => w_var hv h) (SqL.of ht) (fun L k acc H' => Same H H' ∧ Tups H' acc (xs.take k) ∧ acc.length = k) (fun L H' _ e _ => ⟨e, by rw [List.take_zero]; exact .nil, rfl⟩) (fun L k acc H' _ p => p.1.seq (SqL.of ht)) ?_ ?_
  · rintro L k x acc H' nL hx hL ⟨e, ts, hk⟩
    obtain ⟨r, y, rfl, hy, R⟩ := hr.get hx
    refine ⟨?_, ?_⟩
    · show ((σ.set j none).set j (some (.ref r))).set j none = σ.set j none
      rw [List.set_set, List.set_set]
    · refine w_yes ?_
      refine w_iteT rfl ?_
      refine w_call (w_cons (w_var (v := .ref r) ?_ (w_nil ?_)))
      · show ((σ.set j none).set j (some (.ref r)))[j]? = _
        rw [List.getElem?_set_self (by rw [List.length_set]; exact hj)]
      · refine ⟨r, y.1, y.2, rfl, R.same e, fun s H2 ns e2 h2 => ?_⟩
        have kl : k < rs.length := (List.getElem?_eq_some_iff.mp hx).1
        refine fills_more (e2 _ _ hL) (by omega) fun H5 f5 h5 => ⟨Fr.unseen nL (e.trans e2) f5, ?_, by rw [List.length_append, hk]; rfl⟩
        rw [take_snoc hy]
        exact ((ts.same e2).fr (e2 _ _ hL) f5).snoc (f5 _ _ (ne_of h2 (e2 _ _ hL) (by intro z; cases z)) h2)
  · rintro L acc H' nL hL ⟨e, ts, _⟩
    rw [hr.len, List.take_length] at ts
    exact q L acc H' nL e hL ts
end G
namespace G
open PySem PySem.Spec L2
section
variable {σ : L2.St} {H : Hp} {D : Ends} {tr : TA} {tb : TS}
theorem w_iRng1 {R : It → Hp → Prop} (q : tr σ H fun vs H1 => ∃ j : Int, vs = [.int j] ∧ -(2 ^ 62) ≤ j ∧ j < 2 ^ 62 ∧ R (Itr 0 j.toNat) H1) : iRng1 tr σ H R := q
/-- for .. in range(n), the number known -/
theorem w_walkR {j : Nat} {n : Int} (hn : 0 ≤ n ∧ n ≤ 1000000) (Pv : Nat → L2.St → Hp → Prop) (h0 : Pv 0 σ H)
    (hs : ∀ (i : Nat) σ' H', (i : Int) < n → Pv i σ' H' → tb { nx := Pv (i + 1), rt := D.rt, ct := Pv (i + 1), bk := D.nx } (σ'.set j (some (.int (i : Int)))) H') (hd : ∀ σ' H', Pv n.toNat σ' H' → D.nx σ' H') :
    -(2 ^ 62) ≤ n ∧ n < 2 ^ 62 ∧ ForW (Itr 0 n.toNat) (gName j) tb D σ H := by
  refine ⟨by omega, by omega, for_range (lo := 0) (n := n.toNat) Pv h0 (fun i σ' H' hi p => ?_) hd⟩
  have e0 : (0 : Int) + (i : Int) = (i : Int) := Int.zero_add _
  show tb { nx := Pv (i + 1), rt := D.rt, ct := Pv (i + 1), bk := D.nx } (σ'.set j (some (.int ((0 : Int) + (i : Int))))) H'
  rw [e0]
  exact hs i σ' H' (by omega) p
end
end G
namespace G
open PySem PySem.Spec L2
/-- an instance of the class at C has that class as its type -/
def InsTy (K : PySem.W.Frag) (C : Addr) : Prop := ∀ (H : Hp) (p dx : Addr) (fs : List (Str × V)), H p = some (.ins C dx fs) → TyX K H (.ref p) (.ref C)
section
variable {K : PySem.W.Frag} {C : Addr} {H : Hp} {Q : VK} {E : XK} {p q : Addr} {x y : Int × Int} {n : Nat}
theorem w_negR (R : Rat C H p x.1 x.2) (hx : Lp n x) (hn : decide (n ≤ 3500) = true) (k : ∀ r H', H r = none → Same H H' → Rat C H' r (-x.1) x.2 → Q (.ref r) H') : rNeg C (spNeg C) E (.ref p) H Q :=
  let ⟨dx, h⟩ := R; ⟨p, dx, _, rfl, h, p, x, n, rfl, ⟨dx, h⟩, hx, of_decide_eq_true hn, k⟩
theorem w_binR {w : Int} (R : Rat C H p x.1 x.2) (S : Rat C H q y.1 y.2) (hx : Lp n x) (hy : Lp n y) (hn : decide (n ≤ 3500) = true) (k : ∀ r H', H r = none → Same H H' → Rat C H' r (jn w x y).1 (jn w x y).2 → Q (.ref r) H') :
    rOwn C (spBin C w) E (.ref p) (.ref q) H Q :=
  let ⟨dx, h⟩ := R; let ⟨dy, h'⟩ := S; ⟨p, dx, _, q, dy, _, rfl, rfl, h, h', p, q, x, y, n, rfl, ⟨dx, h⟩, ⟨dy, h'⟩, hx, hy, of_decide_eq_true hn, k⟩
theorem notFirst_self : PySem.W.notFirst K C (.ref C) = true := by
  unfold PySem.W.notFirst
  simp
theorem w_eqR (I : InsTy K C) (R : Rat C H p x.1 x.2) (S : Rat C H q y.1 y.2) (k : Q (.bl (decide (x = y))) H) : rEqO K C (spEq K C) E (.ref p) (.ref q) H Q :=
  let ⟨dx, h⟩ := R; let ⟨dy, h'⟩ := S; ⟨p, dx, _, .ref C, rfl, h, I _ _ _ _ h', notFirst_self, .inl ⟨p, q, x, y, rfl, ⟨dx, h⟩, ⟨dy, h'⟩, k⟩⟩
theorem w_isR (I : InsTy K C) (ki : PySem.W.kitOne K (.ref C) (.ref C) = some true) {i j : Int} (R : Rat C H p i j) (k : Q (.bl true) H) : spIsR K C [.ref p] H Q E :=
  let ⟨_, h⟩ := R; ⟨_, _, true, rfl, I _ _ _ _ h, ki, k⟩
end
theorem Lp.neg {n : Nat} {x : Int × Int} (h : Lp n x) : Lp n (-x.1, x.2) := ⟨h.1, by show Int.gcd (-x.1) x.2 = 1; rw [Int.neg_gcd]; exact h.2.1, h.2.2.1.neg, h.2.2.2⟩
theorem jn_neg (x y : Int × Int) : jn 1 x y = jn 0 x (-y.1, y.2) := by
  rw [jn_sub, jn_add]
  show low (x.1 * y.2 - y.1 * x.2) (x.2 * y.2) = low (x.1 * y.2 + -y.1 * x.2) (x.2 * y.2)
  rw [Int.neg_mul, Int.sub_eq_add_neg]
theorem low_zero {b : Int} (h : 0 < b) : low 0 b = (0, 1) := by
  unfold low
  have e : (Int.gcd 0 b : Int) = b := by
    rw [Int.gcd_zero_left]
    omega
  rw [e, Int.zero_ediv, Int.ediv_self (by omega)]
theorem jn_self {n : Nat} {x : Int × Int} (h : Lp n x) : jn 1 x x = (0, 1) := by
  rw [jn_sub, Int.sub_self]
  exact low_zero (Int.mul_pos h.1 h.1)
end G

/-! Pairs as numbers. -/
namespace G
open PySem
/-- the number that a pair stands for -/
def val (x : Int × Int) : _root_.Rat := (x.1 : _root_.Rat) / (x.2 : _root_.Rat)
theorem cast_ne {j : Int} (h : j ≠ 0) : (j : _root_.Rat) ≠ 0 := by
  intro z
  exact h (by exact_mod_cast z)
theorem val_low {i j : Int} (h : 0 < j) : val (low i j) = (i : _root_.Rat) / (j : _root_.Rat) := by
  have g := Int.gcd_pos_of_ne_zero_right i (show j ≠ 0 by omega)
  obtain ⟨a, ha⟩ : (Int.gcd i j : Int) ∣ i := Int.gcd_dvd_left i j
  obtain ⟨b, hb⟩ : (Int.gcd i j : Int) ∣ j := Int.gcd_dvd_right i j
  have g0 : (Int.gcd i j : Int) ≠ 0 := by omega
  unfold val low
  show ((i / (Int.gcd i j : Int) : Int) : _root_.Rat) / ((j / (Int.gcd i j : Int) : Int) : _root_.Rat) = _
  generalize hg : (Int.gcd i j : Int) = d at *
  have e1 : i / d = a := by rw [ha]; exact Int.mul_ediv_cancel_left a g0
  have e2 : j / d = b := by rw [hb]; exact Int.mul_ediv_cancel_left b g0
  rw [e1, e2]
  have b0 : b ≠ 0 := by
    intro z
    rw [z] at hb
    omega
  have q1 := cast_ne b0
  have q2 := cast_ne g0
  have c1 : (i : _root_.Rat) = d * a := by exact_mod_cast ha
  have c2 : (j : _root_.Rat) = d * b := by exact_mod_cast hb
  rw [c1, c2]
  grind
theorem dvd_of {a b c : Int} (h : a ∣ b * c) (g : Int.gcd a b = 1) : a ∣ c := by
  have e := Int.gcd_mul_right_right_of_gcd_eq_one (k := c) g
  have d : a ∣ (Int.gcd a (b * c) : Int) := Int.dvd_coe_gcd (Int.dvd_refl a) h
  rw [e] at d
  exact Int.dvd_trans d (Int.gcd_dvd_right a c)
theorem val_inj {n m : Nat} {x y : Int × Int} (hx : Lp n x) (hy : Lp m y) (h : val x = val y) : x = y := by
  obtain ⟨x1, x2, _⟩ := hx
  obtain ⟨y1, y2, _⟩ := hy
  have q1 := cast_ne (show x.2 ≠ 0 by omega)
  have q2 := cast_ne (show y.2 ≠ 0 by omega)
  unfold val at h
  have c : (x.1 : _root_.Rat) * y.2 = y.1 * x.2 := by grind
  have c : x.1 * y.2 = y.1 * x.2 := by exact_mod_cast c
  have d1 : x.2 ∣ y.2 := dvd_of (b := x.1) ⟨y.1, by rw [c, Int.mul_comm]⟩ (by rw [Int.gcd_comm]; exact x2)
  have d2 : y.2 ∣ x.2 := dvd_of (b := y.1) ⟨x.1, by rw [← c, Int.mul_comm]⟩ (by rw [Int.gcd_comm]; exact y2)
  have e : x.2 = y.2 := Int.dvd_antisymm (by omega) (by omega) d1 d2
  refine Prod.ext ?_ e
  rw [← e] at c
  exact Int.eq_of_mul_eq_mul_right (by omega) c
theorem val_jn0 {n m : Nat} {x y : Int × Int} (hx : Lp n x) (hy : Lp m y) : val (jn 0 x y) = val x + val y := by
  have q1 := cast_ne (show x.2 ≠ 0 by have := hx.1; omega)
  have q2 := cast_ne (show y.2 ≠ 0 by have := hy.1; omega)
  rw [jn_add, val_low (Int.mul_pos hx.1 hy.1)]
  unfold val
  push_cast
  grind
theorem val_jn1 {n m : Nat} {x y : Int × Int} (hx : Lp n x) (hy : Lp m y) : val (jn 1 x y) = val x - val y := by
  have q1 := cast_ne (show x.2 ≠ 0 by have := hx.1; omega)
  have q2 := cast_ne (show y.2 ≠ 0 by have := hy.1; omega)
  rw [jn_sub, val_low (Int.mul_pos hx.1 hy.1)]
  unfold val
  push_cast
  grind
theorem val_jn2 {n m : Nat} {x y : Int × Int} (hx : Lp n x) (hy : Lp m y) : val (jn 2 x y) = val x * val y := by
  have q1 := cast_ne (show x.2 ≠ 0 by have := hx.1; omega)
  have q2 := cast_ne (show y.2 ≠ 0 by have := hy.1; omega)
  rw [jn_mul, val_low (Int.mul_pos hx.1 hy.1)]
  unfold val
  push_cast
  grind
theorem val_neg {n : Nat} {x : Int × Int} (hx : Lp n x) : val (-x.1, x.2) = -val x := by
  have q1 := cast_ne (show x.2 ≠ 0 by have := hx.1; omega)
  unfold val
  push_cast
  grind
theorem val_ne {n : Nat} {x : Int × Int} (hx : Lp n x) (h : x.1 ≠ 0) : val x ≠ 0 := by
  have q1 := cast_ne (show x.2 ≠ 0 by have := hx.1; omega)
  have q2 := cast_ne h
  unfold val
  grind
/-! ### quotients -/
def qt (x y : Int × Int) : Int × Int := if 0 < x.2 * y.1 then low (x.1 * y.2) (x.2 * y.1) else low (-(x.1 * y.2)) (-(x.2 * y.1))
theorem mul_ne {n : Nat} {x y : Int × Int} (hx : Lp n x) (h : y.1 ≠ 0) : x.2 * y.1 ≠ 0 := Int.mul_ne_zero (by have := hx.1; omega) h
theorem qt_lp {n m : Nat} {x y : Int × Int} (hx : Lp n x) (hy : Lp m y) (h : y.1 ≠ 0) : Lp (n + m) (qt x y) := by
  have hne := mul_ne hx h
  obtain ⟨x1, x2, x3, x4⟩ := hx
  obtain ⟨y1, y2, y3, y4⟩ := hy
  unfold qt
  split
  · exact Lp.low (by omega) (Bt.mul x3 y4) (Bt.mul x4 y3)
  · exact Lp.low (by omega) (Bt.mul x3 y4).neg (Bt.mul x4 y3).neg
theorem val_qt {n m : Nat} {x y : Int × Int} (hx : Lp n x) (hy : Lp m y) (h : y.1 ≠ 0) : val (qt x y) = val x / val y := by
  have q1 := cast_ne (show x.2 ≠ 0 by have := hx.1; omega)
  have q2 := cast_ne (show y.2 ≠ 0 by have := hy.1; omega)
  have q3 := cast_ne h
  have hne := mul_ne hx h
  unfold qt
  split
  · rw [val_low (by omega)]
    unfold val
    push_cast
    grind
  · rw [val_low (by omega)]
    unfold val
    push_cast
    grind
end G
namespace G
/-! what the quotients keep -/
theorem qt_mul {n m : Nat} {x y : Int × Int} (hx : Lp n x) (hy : Lp m y) (h : y.1 ≠ 0) : jn 2 (qt x y) y = x := by
  have q := val_ne hy h
  refine val_inj (jn_lp (.inr (.inr rfl)) (qt_lp hx hy h) hy) hx ?_
  rw [val_jn2 (qt_lp hx hy h) hy, val_qt hx hy h]
  grind
theorem lp_one : Lp 2 (1, 1) := ⟨by decide, by decide, by decide, by decide⟩
theorem qt_one {n : Nat} {x : Int × Int} (hx : Lp n x) : qt x (1, 1) = x := by
  refine val_inj (qt_lp hx lp_one (by decide)) hx ?_
  rw [val_qt hx lp_one (by decide)]
  have e : val (1, 1) = 1 := by unfold val; decide +kernel
  rw [e]
  grind
theorem qt_self {n : Nat} {y : Int × Int} (hy : Lp n y) (h : y.1 ≠ 0) : qt y y = (1, 1) := by
  have q := val_ne hy h
  refine val_inj (qt_lp hy hy h) lp_one ?_
  rw [val_qt hy hy h]
  have e : val (1, 1) = 1 := by unfold val; decide +kernel
  rw [e]
  grind
theorem qt_neg {n m : Nat} {x y : Int × Int} (hx : Lp n x) (hy : Lp m y) (h : y.1 ≠ 0) : qt x (-y.1, y.2) = (-(qt x y).1, (qt x y).2) := by
  have q := val_ne hy h
  have h' : (-y.1, y.2).1 ≠ 0 := by show -y.1 ≠ 0; omega
  refine val_inj (qt_lp hx hy.neg h') (qt_lp hx hy h).neg ?_
  rw [val_qt hx hy.neg h', val_neg (qt_lp hx hy h), val_qt hx hy h, val_neg hy]
  grind
theorem jn2_ne {n m : Nat} {x y : Int × Int} (hx : Lp n x) (hy : Lp m y) (h1 : x.1 ≠ 0) (h2 : y.1 ≠ 0) : (jn 2 x y).1 ≠ 0 := by
  intro z
  have e := val_jn2 hx hy
  have q1 := val_ne hx h1
  have q2 := val_ne hy h2
  have e0 : val (jn 2 x y) = 0 := by
    unfold val
    rw [z]
    grind
  rw [e0] at e
  grind
theorem qt_twice {n m : Nat} {x y : Int × Int} (hx : Lp n x) (hy : Lp m y) (h : y.1 ≠ 0) : qt (qt x y) y = qt x (jn 2 y y) := by
  have q := val_ne hy h
  have h' := jn2_ne hy hy h h
  have l := jn_lp (.inr (.inr rfl)) hy hy
  refine val_inj (qt_lp (qt_lp hx hy h) hy h) (qt_lp hx l h') ?_
  rw [val_qt (qt_lp hx hy h) hy h, val_qt hx hy h, val_qt hx l h', val_jn2 hy hy]
  grind
end G
namespace G
open PySem PySem.Spec PyProof.Rows L2
section
variable {X : Cx} {CX : CXT} {k : Nat} {f C : Addr} {fd : FuncData} {ps ks : List Str} {sp : Sp} {E : XK} {m : Str} {pos apos : Pos} {o : Expr} {kws : List Keyword} {ta : TE} {tk : TA} {g : List Value → List Value → List Value} {gV : List V → List V → List V}
/-- o.m(k = v, ..) -/
def tMethN (C : Addr) (m : Str) (n : Nat) (sp : Sp) (gV : List V → List V → List V) (E : XK) (ta : TE) (tk : TA) : TE := fun σ H Q => ta σ H fun x H1 => ∃ a dx fs, x = .ref a ∧ H1 a = some (.ins C dx fs) ∧ fs.lookup m = none ∧
  tk σ H1 fun zs H2 => zs.length = n ∧ sp (gV [x] zs) H2 Q E
theorem pe_methN0 {pl : Sem Bool} (he : PE X o ta) (c : Cls X.K C) (hm : Meth X.K C m f) (F : FnOk X.prog X.w X.K X.mg X.base CX k f fd ps sp) (hr : Room k X.A) (hb : KBn X.K fd ps 1 ks g gV) (hx : Passes CX X E) (hkw : PK X kws tk)
    (hall : (backToKw pos (keywordEach kws X.env)).all (·.1.isSome) = true := by rfl) (hks : (backToKw pos (keywordEach kws X.env)).filterMap (·.1) = ks := by rfl)
    (hpl : ((backTo pos (starEach [] X.env)).any (·.1) || (backToKw pos (keywordEach kws X.env)).any (·.1.isNone)) = false := by rfl)
    (ht : eval (.Call (.Attribute o m apos) [] kws pos) X.env = (do
      let ov ← eval o X.env
      standAt apos.atName
      let (f, first) ← holding [ov] (getMethod ov m pl)
      callWith pos f first (backTo pos (starEach [] X.env)) (backToKw pos (keywordEach kws X.env))) := by rfl) :
    PE X (.Call (.Attribute o m apos) [] kws pos) (tMethN C m ks.length sp gV E ta tk) := by
  refine ⟨fun pins s σ H Q I h => ?_⟩
  refine PySem.W.methodCall_KW (pl := pl) (thn (he.run pins s σ H _ I h) fun u s1 ⟨x, H1, I1, rx, a, dx, fs, ex, ea, l, q⟩ => ?_) ht
  subst ex
  obtain rfl : u = Value.ref a := rx
  refine getmeth_ok I1 ea c hm l ?_
  refine PySem.W.callWith_KW0 (first := [.ref a]) (h₀ := X.base) I.ok.mod.kin hm.kp hall ?_ hpl
  refine thn (hkw.run pos pins s1 σ H1 _ I1 q) fun ws s2 ⟨zs, H2, I2, rz, l2, q2⟩ => ⟨I2.kIn, ?_⟩
  rw [hks]
  exact run_fnN (us := [.ref a]) (vs := [.ref a]) F hr hb hx I2 (.cons rfl .nil) rz rfl l2 q2
/-- self and every other parameter by its name, in their order -/
theorem kbn_self {K : PySem.W.Frag} (h : ∀ us ws : List Value, us.length = 1 → ws.length = ks.length → bindArgs fd ⟨us, ks.zip ws⟩ = pure (ps.zip (us ++ ws))) : KBn K fd ps 1 ks (fun us ws => us ++ ws) (fun vs zs => vs ++ zs) :=
  ⟨fun s us ws _ l1 l2 => .of_eq (h us ws l1 l2), fun r1 r2 => r1.append r2⟩
end
section
variable {σ : L2.St} {H : Hp} {Q : VK} {ta : TE} {tk : TA} {sp : Sp} {E : XK} {C a dx : Addr} {fs : List (Str × V)} {m : Str} {n : Nat} {gV : List V → List V → List V}
theorem w_methN (q : ta σ H fun x H1 => ∃ a dx fs, x = .ref a ∧ H1 a = some (.ins C dx fs) ∧ fs.lookup m = none ∧ tk σ H1 fun zs H2 => zs.length = n ∧ sp (gV [x] zs) H2 Q E) : tMethN C m n sp gV E ta tk σ H Q := q
/-- the method is read off a ratio -/
theorem w_ofR {p : Addr} {i j : Int} {R : Prop} (h : Rat C H p i j) (hm : (m == ("_bottom" : Str)) = false) (hm2 : (m == ("_top" : Str)) = false) (q : R) : ∃ a dx fs, V.ref p = .ref a ∧ H a = some (.ins C dx fs) ∧ fs.lookup m = none ∧ R := by
  obtain ⟨dx, h⟩ := h
  refine ⟨p, dx, _, rfl, h, ?_, q⟩
  unfold rf
  rw [lookup_putF, if_neg (by intro z; rw [z] at hm; simp at hm), lookup_putF, if_neg (by intro z; rw [z] at hm2; simp at hm2)]
  rfl
/-- a quotient's promise: the divisor is not 0 -/
def spOver (C : Addr) : Sp := fun vs H Q _ => ∃ p q x y n, vs = [.ref p, .ref q] ∧ Rat C H p x.1 x.2 ∧ Rat C H q y.1 y.2 ∧ Lp n x ∧ Lp n y ∧ n ≤ 3500 ∧ y.1 ≠ 0 ∧
  ∀ r H', H r = none → Same H H' → Rat C H' r (qt x y).1 (qt x y).2 → Q (.ref r) H'
end
end G
namespace G
open PySem PySem.Spec L2
theorem w_cut {t u : TS} {D : Ends} {σ : L2.St} {H : Hp} (Mid : L2.St → Hp → Prop) (h : t { nx := Mid, rt := D.rt, bk := D.bk, ct := D.ct } σ H) (k : ∀ σ' H', Mid σ' H' → u D σ' H') : C8.tCut t u D σ H := ⟨Mid, h, k⟩
theorem low_pos1 {i j : Int} (hi : 0 < i) (h : 0 < j) : (low i j).1 ≠ 0 := by
  have g := Int.gcd_pos_of_ne_zero_right i (show j ≠ 0 by omega)
  have d : (Int.gcd i j : Int) ∣ i := Int.gcd_dvd_left i j
  have : 0 < i / (Int.gcd i j : Int) := Int.ediv_pos_of_pos_of_dvd hi (by omega) d
  show i / (Int.gcd i j : Int) ≠ 0
  omega
end G

/-! Sums of lists of pairs. -/
namespace G
open PySem L2
/-- the pairs of a list, joined from 0 on -/
def tot (xs : List (Int × Int)) : Int × Int := xs.foldl (jn 0) (0, 1)
/-- their numbers, added -/
def vsum : List (Int × Int) → _root_.Rat
  | [] => 0
  | x :: xs => val x + vsum xs
theorem vsum_app : ∀ xs ys : List (Int × Int), vsum (xs ++ ys) = vsum xs + vsum ys
  | [], ys => by
    show vsum ys = 0 + vsum ys
    grind
  | x :: xs, ys => by
    show val x + vsum (xs ++ ys) = val x + vsum xs + vsum ys
    rw [vsum_app xs ys]
    grind
theorem vsum_rev : ∀ xs : List (Int × Int), vsum xs.reverse = vsum xs
  | [] => rfl
  | x :: xs => by
    rw [List.reverse_cons, vsum_app, vsum_rev xs]
    show vsum xs + (val x + 0) = val x + vsum xs
    grind
theorem fold_lp : ∀ (xs : List (Int × Int)) (n m : Nat) (a : Int × Int), Lp m a → (∀ x ∈ xs, Lp n x) → Lp (m + xs.length * (n + 1)) (xs.foldl (jn 0) a) ∧ val (xs.foldl (jn 0) a) = val a + vsum xs
  | [], n, m, a, ha, _ => ⟨ha.mono (by omega), by show val a = val a + 0; grind⟩
  | x :: xs, n, m, a, ha, h => by
    have hx := h x List.mem_cons_self
    have q := fold_lp xs n (m + n + 1) (jn 0 a x) (jn_lp (.inl rfl) ha hx) fun y hy => h y (List.mem_cons_of_mem _ hy)
    refine ⟨q.1.mono ?_, ?_⟩
    · rw [List.length_cons, Nat.succ_mul]
      omega
    · show val (xs.foldl (jn 0) (jn 0 a x)) = val a + (val x + vsum xs)
      rw [q.2, val_jn0 ha hx]
      grind
theorem val_zero : val (0, 1) = 0 := by unfold val; decide +kernel
theorem lp_zero : Lp 1 (0, 1) := ⟨by decide, by decide, by decide, by decide⟩
theorem tot_lp {n : Nat} {xs : List (Int × Int)} (h : ∀ x ∈ xs, Lp n x) : Lp (1 + xs.length * (n + 1)) (tot xs) := (fold_lp xs n 1 _ lp_zero h).1
theorem tot_val {n : Nat} {xs : List (Int × Int)} (h : ∀ x ∈ xs, Lp n x) : val (tot xs) = vsum xs := by
  refine (fold_lp xs n 1 _ lp_zero h).2.trans ?_
  rw [val_zero]
  grind
theorem tot_snoc (xs : List (Int × Int)) (x : Int × Int) : tot (xs ++ [x]) = jn 0 (tot xs) x := by
  unfold tot
  rw [List.foldl_append]
  rfl
theorem tot_same {n m : Nat} {xs ys : List (Int × Int)} (h : ∀ x ∈ xs, Lp n x) (k : ∀ x ∈ ys, Lp m x) (e : vsum xs = vsum ys) : tot xs = tot ys :=
  val_inj (tot_lp h) (tot_lp k) (by rw [tot_val h, tot_val k, e])
theorem tot_rev {n : Nat} {xs : List (Int × Int)} (h : ∀ x ∈ xs, Lp n x) : tot xs.reverse = tot xs :=
  tot_same (n := n) (m := n) (fun x hx => h x (List.mem_reverse.mp hx)) h (vsum_rev xs)
theorem tot_cut {n : Nat} {xs : List (Int × Int)} (h : ∀ x ∈ xs, Lp n x) (c : Nat) : jn 0 (tot (xs.take c)) (tot (xs.drop c)) = tot xs := by
  have h1 : ∀ x ∈ xs.take c, Lp n x := fun x hx => h x (List.mem_of_mem_take hx)
  have h2 : ∀ x ∈ xs.drop c, Lp n x := fun x hx => h x (List.mem_of_mem_drop hx)
  refine val_inj (jn_lp (.inl rfl) (tot_lp h1) (tot_lp h2)) (tot_lp h) ?_
  rw [val_jn0 (tot_lp h1) (tot_lp h2), tot_val h1, tot_val h2, tot_val h, ← vsum_app, List.take_append_drop]
theorem tot_take {n m : Nat} {xs : List (Int × Int)} (h : ∀ x ∈ xs, Lp n x) (hm : 1 + xs.length * (n + 1) ≤ m) : ∀ k, k ≤ xs.length → Lp m (tot (xs.take k)) := fun k hk => by
  have h1 : ∀ x ∈ xs.take k, Lp n x := fun x hx => h x (List.mem_of_mem_take hx)
  refine (tot_lp h1).mono (Nat.le_trans ?_ hm)
  have : (xs.take k).length ≤ xs.length := by rw [List.length_take]; omega
  have := Nat.mul_le_mul_right (n + 1) this
  omega
/-- k times 1 / b -/
theorem tot_same_parts {b n : Nat} (hb : 0 < b) (h1 : Lp n (1, (b : Int))) : ∀ k : Nat, tot (List.replicate k (1, (b : Int))) = low k b
  | 0 => by
    refine val_inj (n := 1) (m := 1) lp_zero ?_ ?_
    · have : Lp 1 (low 0 (b : Int)) := by rw [low_zero (by omega)]; exact lp_zero
      exact this
    · show val (0, 1) = val (low 0 (b : Int))
      rw [low_zero (by omega)]
  | k + 1 => by
    have hb' : (0 : Int) < b := by omega
    have e := tot_same_parts hb h1 k
    rw [List.replicate_succ', tot_snoc, e]
    have l : Lp ((k : Int).natAbs.log2 + 1 + ((b : Int).natAbs.log2 + 1)) (low k b) := Lp.low hb' (Bt.any.mono (by omega)) (Bt.any.mono (by omega))
    have l' : Lp (((k + 1 : Nat) : Int).natAbs.log2 + 1 + ((b : Int).natAbs.log2 + 1)) (low ((k + 1 : Nat) : Int) b) := Lp.low hb' (Bt.any.mono (by omega)) (Bt.any.mono (by omega))
    refine val_inj (jn_lp (.inl rfl) l h1) l' ?_
    rw [val_jn0 l h1, val_low hb', val_low hb']
    unfold val
    have c := cast_ne (show (b : Int) ≠ 0 by omega)
    have e1 : (((k + 1 : Nat) : Int) : _root_.Rat) = ((k : Int) : _root_.Rat) + 1 := by push_cast; rfl
    rw [e1]
    have e2 : (((1 : Int), (b : Int)).1 : _root_.Rat) = 1 := by rfl
    rw [e2]
    grind
theorem Tups.get {H : Hp} {vs : List V} {xs : List (Int × Int)} (h : Tups H vs xs) : ∀ {k : Nat} {v : V}, vs[k]? = some v → ∃ r x, v = .ref r ∧ xs[k]? = some x ∧ H r = some (.tup [.int x.1, .int x.2]) := by
  induction h with
  | nil => intro k v e; simp at e
  | @cons s x vs xs a t ih =>
    intro k v e
    cases k with
    | zero =>
      have e : V.ref s = v := by simpa using e
      exact ⟨s, x, e.symm, rfl, a⟩
    | succ k => exact ih (by simpa using e)
theorem Tups.len {H : Hp} {vs : List V} {xs : List (Int × Int)} (h : Tups H vs xs) : vs.length = xs.length := by
  induction h with
  | nil => rfl
  | cons a t ih => simp [ih]
/-- a, b = a pair -/
theorem w_g2 {K : PySem.W.Frag} {n i1 i2 : Nat} {p : Addr} {u v : V} {σ : L2.St} {H : Hp} {Q : L2.St → Hp → Prop} (h : SqT K H p [u, v]) (hn : n = 2) (q : Q ((σ.set i1 (some u)).set i2 (some v)) H) :
    gTup K n (gCons (gName i1) (gCons (gName i2) gNil)) (.ref p) σ H Q := by
  subst hn
  exact ⟨p, _, rfl, h, rfl, u, [v], rfl, v, [], rfl, rfl, q⟩
end G
namespace G
open PySem PySem.Spec PyProof.Rows L2
section
variable {X : Cx} {e k : Expr} {te : TE} {tk : TO} {p2 pos : Pos}
theorem ix_tupK {X : Cx} {K : PySem.W.Frag} (h : X.K = K) : IxR X (rIxT K) := by rw [← h]; exact ix_tup
theorem ix_listK {X : Cx} {K : PySem.W.Frag} (h : X.K = K) : IxR X (rIxL K) := by rw [← h]; exact ix_list
/-- xs[::-1] -/
def tRevL (K : PySem.W.Frag) (te : TE) (tk : TO) : TE := fun σ H Q => te σ H fun x H1 => tk σ H1 fun k H2 => ∃ a xs, x = .ref a ∧ k = some (-1) ∧ SqL K H2 a xs ∧ ∀ p H', H2 p = none → Same H2 H' → H' p = some (.lst xs.reverse) → Q (.ref p) H'
theorem pe_revL (he : PE X e te) (hk : PO X (some k) tk) : PE X (.Subscript e (.Slice none none (some k) p2) pos) (tRevL X.K te tk) := by
  refine ⟨fun pins s σ H Q I h => ?_⟩
  refine Subscript_ (thn (he.run pins s σ H _ I h) fun v s1 ⟨x, H1, I1, r1, q1⟩ => ?_)
  refine wpAny_Slice ?_
  rw [evalPart_none]
  refine wpAny_pure ?_
  refine wpAny_pure ?_
  refine thn (hk.run pins s1 σ H1 _ I1 q1) fun vk s3 ⟨u, H3, I3, pk, a, xs, ex, eu, hx, q3⟩ => ?_
  subst ex
  subst eu
  cases r1
  have I4 : Inv X pins σ H3 { s3 with heap := s3.heap.push { cls := .type "slice", data := .fields #[.none, .none, vk] } } := I3.kept (t' := s3.toks) fun b ob q => Heap.get?_push_of_some _ q
  show wpAny (model X.prog X.w) X.A (subscriptTail e (.Slice none none (some k) p2) (.ref a) (.ref s3.heap.objs.size)) (EP X pins σ Q) X.xe { s3 with heap := s3.heap.push { cls := .type "slice", data := .fields #[.none, .none, vk] } }
  obtain ⟨its, r, ht, hz⟩ := I4.list hx
  have hlen := r.length
  refine tail_any (ops := [.ref a, .ref s3.heap.objs.size]) ht.isList.typeIs slot_list_getitem.lookup ?_ (by with_unfolding_all rfl)
  refine wpAny_getItem_list_slice ht.isList (Heap.IsSliceOf.new ..) .none .none pk (by simp) ?_ (by rw [List.size_toArray]; omega)
  rw [PySem.W.krv_pick]
  generalize hs4 : ({ s3 with heap := s3.heap.push { cls := .type "slice", data := .fields #[.none, .none, vk] } } : Shared) = s4 at *
  refine ⟨.ref s4.heap.objs.size, _, I4.laid (t' := s4.toks) (o := .lst xs.reverse) (fun b ob q => Heap.get?_push_of_some _ q) (Nat.le_refl _) ?_, rfl, q3 _ _ (I4.hok.fresh (Nat.le_refl _)) (same_new (I4.hok.fresh (Nat.le_refl _))) upd_same⟩
  refine ⟨by rw [List.length_reverse]; exact hz, _, 0, ?_, Heap.get?_push_size _ rfl⟩
  exact Vals.reverse r
end
section
variable {K : PySem.W.Frag} {σ : L2.St} {H : Hp} {Q : VK} {te : TE} {tk : TO}
theorem w_revL (q : te σ H fun x H1 => tk σ H1 fun k H2 => ∃ a xs, x = .ref a ∧ k = some (-1) ∧ SqL K H2 a xs ∧ ∀ p H', H2 p = none → Same H2 H' → H' p = some (.lst xs.reverse) → Q (.ref p) H') : tRevL K te tk σ H Q := q
end
end G

/-! Comprehensions. -/
namespace G
open PySem PySem.Spec L2
/-- the items of two lists, one by one -/
inductive PL {β : Type} (O : V → β → Prop) : List V → List β → Prop
  | nil : PL O [] []
  | cons {v : V} {y : β} {vs : List V} {ys : List β} : O v y → PL O vs ys → PL O (v :: vs) (y :: ys)
theorem PL.snoc {β : Type} {O : V → β → Prop} {vs : List V} {ys : List β} {v : V} {y : β} (h : PL O vs ys) (a : O v y) : PL O (vs ++ [v]) (ys ++ [y]) := by
  induction h with
  | nil => exact .cons a .nil
  | cons b _ ih => exact .cons b ih
theorem PL.imp {β : Type} {O O' : V → β → Prop} {vs : List V} {ys : List β} (h : PL O vs ys) (f : ∀ v y, O v y → O' v y) : PL O' vs ys := by
  induction h with
  | nil => exact .nil
  | cons b _ ih => exact .cons (f _ _ b) ih
def TupV (H : Hp) (v : V) (x : Int × Int) : Prop := ∃ s, v = .ref s ∧ H s = some (.tup [.int x.1, .int x.2])
def RatV (C : Addr) (H : Hp) (v : V) (x : Int × Int) : Prop := ∃ s, v = .ref s ∧ Rat C H s x.1 x.2
theorem PL.tups {H : Hp} {vs : List V} {ys : List (Int × Int)} (h : PL (TupV H) vs ys) : Tups H vs ys := by
  induction h with
  | nil => exact .nil
  | cons b _ ih =>
    obtain ⟨s, rfl, h⟩ := b
    exact .cons h ih
theorem PL.rats {C : Addr} {H : Hp} {vs : List V} {ys : List (Int × Int)} (h : PL (RatV C H) vs ys) : Rats C H vs ys := by
  induction h with
  | nil => exact .nil
  | cons b _ ih =>
    obtain ⟨s, rfl, h⟩ := b
    exact .cons h ih
/-- what is kept of a thing while other things come and a list is filled -/
structure Kept {β : Type} (O : Hp → V → β → Prop) : Prop where
  same : ∀ {H H' : Hp} {v : V} {y : β}, O H v y → Same H H' → O H' v y
  fill : ∀ {H H' : Hp} {L : Addr} {zs : List V} {v : V} {y : β}, O H v y → H L = some (.lst zs) → Fr L H H' → O H' v y
theorem kept_tup : Kept TupV where
  same := fun ⟨s, e, h⟩ f => ⟨s, e, f _ _ h⟩
  fill := fun ⟨s, e, h⟩ hL f => ⟨s, e, f _ _ (ne_of h hL (by intro z; cases z)) h⟩
theorem kept_rat {C : Addr} : Kept (RatV C) where
  same := fun ⟨s, e, h⟩ f => ⟨s, e, h.same f⟩
  fill := fun ⟨s, e, ⟨dx, h⟩⟩ hL f => ⟨s, e, dx, f _ _ (ne_of h hL (by intro z; cases z)) h⟩
def LcW (J : It) (g : TG) (tt : TT) (te : TE) (vs : List Nat) (σ : L2.St) (Q : VK) (H1 : Hp) : Prop := ∀ D, H1 D = none → ∃ W : Nat → Nat → Hp → Prop, (∃ m, W 0 m (upd H1 D (.lst []))) ∧ ∀ i m H, W i m H →
  (J.stop i H ∧ Q (.ref D) H) ∨ (J.go i H ∧ ∃ Nx : Hp → Prop, (∀ H', Nx H' → ∃ m', m' < m ∧ W (i + 1) m' H') ∧ ∀ x H', J.yld i H x H' → g x (wipe σ vs) H' fun σ2 H2 => wipe σ2 vs = wipe σ vs ∧ tt σ2 H2 fun b H3 =>
    if b = true then te σ2 H3 fun y H4 => ∃ acc, H4 D = some (.lst acc) ∧ acc.length < sizeLine ∧ Nx (upd H4 D (.lst (acc ++ [y]))) else Nx H3)
theorem w_lc {wi : TI} {g : TG} {tt : TT} {te : TE} {vs : List Nat} {σ : L2.St} {H : Hp} {Q : VK} (q : wi σ H fun J H1 => LcW J g tt te vs σ Q H1) : tLc wi g tt te vs σ H Q := q
/-- [te for x in a list]: the items are those of ys -/
theorem w_lcMap {β : Type} {K : PySem.W.Frag} {O : Hp → V → β → Prop} (KO : Kept O) {te : TE} {σ : L2.St} {Q : VK} {H1 : Hp} {t : Addr} {rs : List V} {j : Nat} (ys : List β) (hl : H1 t = some (.lst rs)) (ly : rs.length = ys.length) (hn : rs.length ≤ 1000)
    (step : ∀ (k : Nat) v y H' (R : VK), rs[k]? = some v → ys[k]? = some y → Same H1 H' → (∀ u H2, Same H' H2 → O H2 u y → R u H2) → te ((σ.set j none).set j (some v)) H' R)
    (q : ∀ L acc H', H1 L = none → Same H1 H' → H' L = some (.lst acc) → PL (O H') acc ys → Q (.ref L) H') : LcW (Itl K t) (gName j) tYes te [j] σ Q H1 := by
  intro L nL
  refine lc_list (K := K) (xs := rs) (fun i H' => Fills (fun L k acc H' => Same H1 H' ∧ PL (O H') acc (ys.take k) ∧ acc.length = k) L i H') ⟨[], upd_same, same_new nL, .nil, rfl⟩ (fun i H' hi ⟨acc, _, p⟩ => SqL.of (p.1 _ _ hl)) ?_ ?_
  · rintro k v H' hv ⟨acc, hL, e, ps, hk⟩
    have kl : k < rs.length := (List.getElem?_eq_some_iff.mp hv).1
    obtain ⟨y, hy⟩ : ∃ y, ys[k]? = some y := ⟨ys[k]'(by omega), by rw [List.getElem?_eq_getElem]⟩
    refine ⟨?_, ?_⟩
    · show ((σ.set j none).set j (some v)).set j none = σ.set j none
      rw [List.set_set, List.set_set]
    · refine w_yes ?_
      refine w_iteT rfl ?_
      refine step k v y H' _ hv hy e fun u H2 e2 o2 => ?_
      refine fills_more (Pv := fun L k acc H' => Same H1 H' ∧ PL (O H') acc (ys.take k) ∧ acc.length = k) (e2 _ _ hL) (by omega) fun H5 f5 h5 => ⟨Fr.unseen nL (e.trans e2) f5, ?_, by rw [List.length_append, hk]; rfl⟩
      rw [take_snoc hy]
      exact (ps.imp fun v y o => KO.fill (KO.same o e2) (e2 _ _ hL) f5).snoc (KO.fill o2 (e2 _ _ hL) f5)
  · rintro H' ⟨acc, hL, e, ps, _⟩
    rw [ly, List.take_length] at ps
    exact q L acc H' nL e hL ps
theorem Src.fr {b : Nat} {H H' : Hp} {a L : Addr} (h : Src b H a) (n : a ≠ L) (f : Fr L H H') : Src b H' a :=
  let ⟨x, y, z, h1, r⟩ := h; ⟨x, y, z, f _ _ n h1, r⟩
/-- pairs in lowest terms, drawn -/
theorem w_lcPairs {K : PySem.W.Frag} {E E' : XK} {σ : L2.St} {Q : VK} {H1 : Hp} {a : Addr} {j b n : Nat} (ha : σ[0]? = some (some (.ref a))) (hj : j ≠ 0) (hS : Src b H1 a) (hn : n ≤ 1000) (hb : b ≤ 1000000)
    (q : ∀ L acc xs H', H1 L = none → L ≠ a → Fr a H1 H' → Src (b + 10 * n) H' a → H' L = some (.lst acc) → Tups H' acc xs → xs.length = n → (∀ x ∈ xs, Lp 104 x) → Q (.ref L) H') :
    LcW (Itr 0 n) (gName j) tYes (tCall (spLowest K) [] E (tCons (tCall spPair [] E' (tCons (tVar 0) tNil)) tNil)) [j] σ Q H1 := by
  intro L nL
  have La : a ≠ L := let ⟨_, _, _, h1, _⟩ := hS; ne_of_none h1 nL
  refine lc_range (fun i H' => Fills (fun L k acc H' => Fr a H1 H' ∧ Src (b + 10 * k) H' a ∧ acc.length = k ∧ ∃ xs, Tups H' acc xs ∧ xs.length = k ∧ ∀ x ∈ xs, Lp 104 x) L i H') ⟨[], upd_same, Fr.same (same_new nL), hS.new nL, rfl, [], .nil, rfl, by intro x hx; cases hx⟩ ?_ ?_
  · rintro k H' hk ⟨acc, hL, f, S, lk, xs, ts, lx, hx⟩
    refine ⟨?_, ?_⟩
    · show ((σ.set j none).set j (some (.int (0 + (k : Int))))).set j none = σ.set j none
      rw [List.set_set, List.set_set]
    · refine w_yes ?_
      refine w_iteT rfl ?_
      refine w_call (w_cons (w_call (w_cons (w_var (v := .ref a) ?_ (w_nil ?_)))))
      · show ((σ.set j none).set j (some (.int (0 + (k : Int)))))[0]? = _
        rw [List.getElem?_set_ne hj, List.getElem?_set_ne hj]
        exact ha
      · refine ⟨a, _, rfl, S, by omega, fun i1 j1 p1 H2 hi1 hj1 hk1 hp1 hpa1 S2 f2 => ?_⟩
        refine w_nil ?_
        refine ⟨p1, i1, j1, rfl, SqT.of hp1, hj1, bt_of_31 hi1 rfl, bt_of_p31 hj1 hk1 rfl, fun d H3 n3 e3 h3 => ?_⟩
        have L3 : H3 L = some (.lst acc) := e3 _ _ (f2 _ _ (Ne.symm La) hL)
        have tl : Tups H3 acc xs := (let ⟨_, _, _, h1, _⟩ := S; ts.fr h1 f2).same e3
        refine fills_more (Pv := fun L k acc H' => Fr a H1 H' ∧ Src (b + 10 * k) H' a ∧ acc.length = k ∧ ∃ xs, Tups H' acc xs ∧ xs.length = k ∧ ∀ x ∈ xs, Lp 104 x) L3 (by omega) fun H5 f5 h5 => ⟨?_, ?_, by rw [List.length_append, lk]; rfl, xs ++ [low i1 j1], ?_, by rw [List.length_append, lx]; rfl, ?_⟩
        · exact fun c o nc h => f5 _ _ (ne_of_none h nL) (e3 _ _ (f2 _ _ nc (f _ _ nc h)))
        · exact ((S2.same e3).fr La f5).mono (by omega)
        · exact (tl.fr L3 f5).snoc (f5 _ _ (ne_of h3 L3 (by intro z; cases z)) h3)
        · intro x h
          rcases List.mem_append.mp h with h | h
          · exact hx x h
          · rw [List.mem_singleton] at h
            subst h
            exact lp_drawn hi1 hj1 hk1
  · rintro H' ⟨acc, hL, f, S, lk, xs, ts, lx, hx⟩
    exact q L acc xs H' nL (Ne.symm La) f S hL ts lx hx
end G
namespace G
open PySem PySem.Spec L2
theorem prds_shaped (xs : List (Int × Int)) : SeqAt.shaped (.list (xs.map prd)) = true := by
  have h1 : PyData.canLayAll0 (xs.map prd) = true := by
    induction xs with
    | nil => simp only [List.map_nil, PyData.canLayAll0]
    | cons n r ih => simp only [List.map_cons, prd, PyData.canLayAll0, PyData.canLay0, ih, Bool.and_self]
  have h2 : PyData.depthAll (xs.map prd) ≤ 1 := by
    clear h1
    induction xs with
    | nil => simp only [List.map_nil, PyData.depthAll]; omega
    | cons n r ih =>
      simp only [List.map_cons, PyData.depthAll]
      have : (prd n).depth ≤ 1 := by simp only [prd, PyData.depth, PyData.depthAll]; decide
      omega
  unfold SeqAt.shaped
  simp only [PyData.canLay0, PyData.depth, h1, Bool.true_and]
  exact decide_eq_true (by omega)
theorem prds_depth (xs : List (Int × Int)) : decide ((PyData.list (xs.map prd)).depth ≤ 40) = true := by
  have h2 : PyData.depthAll (xs.map prd) ≤ 1 := by
    induction xs with
    | nil => simp only [List.map_nil, PyData.depthAll]; omega
    | cons n r ih =>
      simp only [List.map_cons, PyData.depthAll]
      have : (prd n).depth ≤ 1 := by simp only [prd, PyData.depth, PyData.depthAll]; decide
      omega
  simp only [PyData.depth]
  exact decide_eq_true (by omega)
theorem prds_cnt {xs : List (Int × Int)} (h : xs.length ≤ 1000) : decide (cnt (.list (xs.map prd)) ≤ 8000) = true := by
  have h2 : cntAll (xs.map prd) ≤ 4 * xs.length := by
    clear h
    induction xs with
    | nil => simp only [List.map_nil, cntAll]; omega
    | cons n r ih =>
      simp only [List.map_cons, cntAll, List.length_cons]
      have : cnt (prd n) ≤ 4 := by simp only [prd, cnt, cntAll]; decide
      omega
  simp only [cnt]
  exact decide_eq_true (by omega)
theorem lp_abs {n : Nat} {x : Int × Int} (h : Lp n x) : Lp n (if x.1 < 0 then -x.1 else x.1, x.2) := by
  by_cases c : x.1 < 0
  · rw [if_pos c]; exact h.neg
  · rw [if_neg c]; exact h
theorem ix_last {K : PySem.W.Frag} {H : Hp} {acc : List V} {xs : List (Int × Int)} (h : Tups H acc xs) (ne : xs ≠ []) : ∃ s x, atI acc (-1) = some (.ref s) ∧ x ∈ xs ∧ H s = some (.tup [.int x.1, .int x.2]) := by
  have hl := h.len
  have h0 : 0 < xs.length := List.length_pos_iff.mpr ne
  obtain ⟨v, hv⟩ : ∃ v, acc[acc.length - 1]? = some v := ⟨acc[acc.length - 1]'(by omega), by rw [List.getElem?_eq_getElem]⟩
  obtain ⟨s, x, rfl, hx, hs⟩ := h.get hv
  refine ⟨s, x, ?_, List.mem_of_getElem? hx, hs⟩
  rw [← hv]
  unfold atI
  have e : ixN acc.length (-1) = some (acc.length - 1) := by
    unfold ixN
    rw [if_neg (by decide), if_pos (by omega)]
    congr 1
    omega
  rw [e]
  rfl
theorem Tups.app {H : Hp} {vs ws : List V} {xs ys : List (Int × Int)} (h : Tups H vs xs) (k : Tups H ws ys) : Tups H (vs ++ ws) (xs ++ ys) := by
  induction h with
  | nil => exact k
  | cons a _ ih => exact .cons a ih
end G
namespace G
open PySem PySem.Spec L2
theorem Rats.cut {C : Addr} {H : Hp} {vs : List V} {xs : List (Int × Int)} (h : Rats C H vs xs) : ∀ k : Nat, Rats C H (vs.take k) (xs.take k) ∧ Rats C H (vs.drop k) (xs.drop k) := by
  induction h with
  | nil => intro k; simp only [List.take_nil, List.drop_nil]; exact ⟨.nil, .nil⟩
  | cons a t ih =>
    intro k
    cases k with
    | zero => exact ⟨.nil, .cons a t⟩
    | succ k => exact ⟨.cons a (ih k).1, (ih k).2⟩
theorem Rats.app {C : Addr} {H : Hp} {vs ws : List V} {xs ys : List (Int × Int)} (h : Rats C H vs xs) (k : Rats C H ws ys) : Rats C H (vs ++ ws) (xs ++ ys) := by
  induction h with
  | nil => exact k
  | cons a _ ih => exact .cons a ih
theorem Rats.rev {C : Addr} {H : Hp} {vs : List V} {xs : List (Int × Int)} (h : Rats C H vs xs) : Rats C H vs.reverse xs.reverse := by
  induction h with
  | nil => exact .nil
  | cons a _ ih =>
    rw [List.reverse_cons, List.reverse_cons]
    exact ih.snoc a
theorem Rats.rep {C : Addr} {H : Hp} {r : Addr} {x : Int × Int} (h : Rat C H r x.1 x.2) : ∀ k : Nat, Rats C H (List.replicate k (.ref r)) (List.replicate k x)
  | 0 => .nil
  | k + 1 => by
    rw [List.replicate_succ, List.replicate_succ]
    exact .cons h (Rats.rep h k)
theorem cut_take {vs : List V} {c : Int} (h0 : 0 ≤ c) (h : c ≤ vs.length) : cutV vs none (some c) = vs.take c.toNat := by
  unfold cutV HT.sIx
  simp only [List.drop_zero]
  congr 1
  rw [if_neg (by omega)]
  omega
theorem cut_drop {vs : List V} {c : Int} (h0 : 0 ≤ c) (h : c ≤ vs.length) : cutV vs (some c) none = vs.drop c.toNat := by
  obtain ⟨k, rfl⟩ : ∃ k : Nat, c = k := ⟨c.toNat, by omega⟩
  unfold cutV
  rw [HT.sIx_none, HT.sIx_nat, Nat.min_eq_left (by omega), Int.toNat_natCast]
  exact List.take_of_length_le (by rw [List.length_drop]; omega)
theorem tot_400 : tot (List.replicate 400 (1, 400)) = (1, 1) := by
  have e := tot_same_parts (b := 400) (n := 10) (by decide) ⟨by decide, by decide, by decide, by decide⟩ 400
  exact e.trans (by decide +kernel)
theorem take_400 (k : Nat) (hk : k ≤ 400) : Lp 3500 (tot ((List.replicate 400 ((1 : Int), (400 : Int))).take k)) := by
  rw [List.take_replicate, Nat.min_eq_left hk]
  have e := tot_same_parts (b := 400) (n := 10) (by decide) ⟨by decide, by decide, by decide, by decide⟩ k
  have e' : tot (List.replicate k ((1 : Int), (400 : Int))) = low (k : Int) 400 := e
  rw [e']
  exact (Lp.low (n := 10) (by decide) (by unfold Bt; omega) (by decide)).mono (by decide)
end G

/-! == and != with an object that has its own __eq__ on either side. -/
namespace PySem.SeqAt
open AutoSeq1 (wpAny_loadPart')
open MeetsSeq
section
variable {prog : Program} {w : World} {A : Around} {E : Value → Shared → Prop} {s : Shared} {K : PySem.W.Frag} {x C : Addr} {ox : Obj} {od : Option Obj}
/-- what is known of the object: no list, tuple, dict -/
structure Onx (prog : Program) (w : World) (h : Heap) (b : Addr) : Prop where
  at_ : ∃ c d sl, h.get? b = some { cls := c, dict := d, data := .plain, slots := sl }
  li : PySem.W.Looks (model prog w) h (isInstance (.ref b) (.type "list")) false
  tu : PySem.W.Looks (model prog w) h (isInstance (.ref b) (.type "tuple")) false
  di : PySem.W.Looks (model prog w) h (isInstance (.ref b) (.type "dict")) false

theorem no_int_eq {b : Addr} {i : Int} {u : Tok} : MeetsIn prog w (Builtin.«int.__eq__» ⟨[.int i u, .ref b], []⟩) (fun _ R s => Onx prog w s.heap b ∧ R (.ok (.ret .notImplemented)) s) := by
  intro A R s h
  obtain ⟨hp, g, d, tk, os⟩ := s
  obtain ⟨⟨⟨c, dd, sl, hl⟩, _, _, _⟩, h⟩ := h
  wp_walk using wpAny_loadPart' hl, wpAny_load hl
  exact h

theorem no_bool_eq {b : Addr} {i : Bool} : MeetsIn prog w (Builtin.«int.__eq__» ⟨[.bool i, .ref b], []⟩) (fun _ R s => Onx prog w s.heap b ∧ R (.ok (.ret .notImplemented)) s) := by
  intro A R s h
  obtain ⟨hp, g, d, tk, os⟩ := s
  obtain ⟨⟨⟨c, dd, sl, hl⟩, _, _, _⟩, h⟩ := h
  wp_walk using wpAny_loadPart' hl, wpAny_load hl
  exact h

theorem no_str_eq {b : Addr} {i : Str} {u : Tok} : MeetsIn prog w (Builtin.«str.__eq__» ⟨[.str i u, .ref b], []⟩) (fun _ R s => Onx prog w s.heap b ∧ R (.ok (.ret .notImplemented)) s) := by
  intro A R s h
  obtain ⟨hp, g, d, tk, os⟩ := s
  obtain ⟨⟨⟨c, dd, sl, hl⟩, _, _, _⟩, h⟩ := h
  wp_walk using wpAny_loadPart' hl, wpAny_load hl
  exact h

theorem no_none_eq {b : Addr}  : MeetsIn prog w (Builtin.«NoneType.__eq__» ⟨[.none, .ref b], []⟩) (fun _ R s => Onx prog w s.heap b ∧ R (.ok (.ret .notImplemented)) s) := by
  intro A R s h
  obtain ⟨hp, g, d, tk, os⟩ := s
  obtain ⟨⟨⟨c, dd, sl, hl⟩, _, _, _⟩, h⟩ := h
  wp_walk using wpAny_loadPart' hl, wpAny_load hl
  exact h

theorem no_list_eq {a b : Addr} {items : Array Value} {n : Nat} {dd : Option Addr} {sl : Array (Option Value)} : MeetsIn prog w (Builtin.«list.__eq__» ⟨[.ref a, .ref b], []⟩) (fun _ R s => s.heap.get? a = some { cls := .type "list", dict := dd, data := .seq items n, slots := sl } ∧ Onx prog w s.heap b ∧ R (.ok (.ret .notImplemented)) s) := by
  intro A R s h
  obtain ⟨hp, g, d, tk, os⟩ := s
  obtain ⟨ha, ⟨⟨c, dd, sl, hl⟩, hli, htu, hdi⟩, h⟩ := h
  wp_walk using wpAny_loadPart' ha, (PySem.W.Looks.at hli)
  exact h

theorem no_tuple_eq {a b : Addr} {items : Array Value} {n : Nat} {dd : Option Addr} {sl : Array (Option Value)} : MeetsIn prog w (Builtin.«tuple.__eq__» ⟨[.ref a, .ref b], []⟩) (fun _ R s => s.heap.get? a = some { cls := .type "tuple", dict := dd, data := .seq items n, slots := sl } ∧ Onx prog w s.heap b ∧ R (.ok (.ret .notImplemented)) s) := by
  intro A R s h
  obtain ⟨hp, g, d, tk, os⟩ := s
  obtain ⟨ha, ⟨⟨c, dd, sl, hl⟩, hli, htu, hdi⟩, h⟩ := h
  wp_walk using wpAny_loadPart' ha, (PySem.W.Looks.at htu)
  exact h

theorem no_dict_eq {a b : Addr} {items : Array DictEntry} {n : Nat} {dd : Option Addr} {sl : Array (Option Value)} : MeetsIn prog w (Builtin.«dict.__eq__» ⟨[.ref a, .ref b], []⟩) (fun _ R s => s.heap.get? a = some { cls := .type "dict", dict := dd, data := .dict items n, slots := sl } ∧ Onx prog w s.heap b ∧ R (.ok (.ret .notImplemented)) s) := by
  intro A R s h
  obtain ⟨hp, g, d, tk, os⟩ := s
  obtain ⟨ha, ⟨⟨c, dd, sl, hl⟩, hli, htu, hdi⟩, h⟩ := h
  wp_walk using wpAny_loadPart' ha, (PySem.W.Looks.at hdi)
  exact h

theorem no_int_ne {b : Addr} {i : Int} {u : Tok} : MeetsIn prog w (Builtin.«int.__ne__» ⟨[.int i u, .ref b], []⟩) (fun _ R s => Onx prog w s.heap b ∧ R (.ok (.ret .notImplemented)) s) := by
  intro A R s h
  obtain ⟨hp, g, d, tk, os⟩ := s
  obtain ⟨⟨⟨c, dd, sl, hl⟩, _, _, _⟩, h⟩ := h
  wp_walk using wpAny_loadPart' hl, wpAny_load hl
  exact h

theorem no_bool_ne {b : Addr} {i : Bool} : MeetsIn prog w (Builtin.«int.__ne__» ⟨[.bool i, .ref b], []⟩) (fun _ R s => Onx prog w s.heap b ∧ R (.ok (.ret .notImplemented)) s) := by
  intro A R s h
  obtain ⟨hp, g, d, tk, os⟩ := s
  obtain ⟨⟨⟨c, dd, sl, hl⟩, _, _, _⟩, h⟩ := h
  wp_walk using wpAny_loadPart' hl, wpAny_load hl
  exact h

theorem no_str_ne {b : Addr} {i : Str} {u : Tok} : MeetsIn prog w (Builtin.«str.__ne__» ⟨[.str i u, .ref b], []⟩) (fun _ R s => Onx prog w s.heap b ∧ R (.ok (.ret .notImplemented)) s) := by
  intro A R s h
  obtain ⟨hp, g, d, tk, os⟩ := s
  obtain ⟨⟨⟨c, dd, sl, hl⟩, _, _, _⟩, h⟩ := h
  wp_walk using wpAny_loadPart' hl, wpAny_load hl
  exact h

theorem no_none_ne {b : Addr}  : MeetsIn prog w (Builtin.«NoneType.__ne__» ⟨[.none, .ref b], []⟩) (fun _ R s => Onx prog w s.heap b ∧ R (.ok (.ret .notImplemented)) s) := by
  intro A R s h
  obtain ⟨hp, g, d, tk, os⟩ := s
  obtain ⟨⟨⟨c, dd, sl, hl⟩, _, _, _⟩, h⟩ := h
  wp_walk using wpAny_loadPart' hl, wpAny_load hl
  exact h

theorem no_list_ne {a b : Addr} {items : Array Value} {n : Nat} {dd : Option Addr} {sl : Array (Option Value)} : MeetsIn prog w (Builtin.«list.__ne__» ⟨[.ref a, .ref b], []⟩) (fun _ R s => s.heap.get? a = some { cls := .type "list", dict := dd, data := .seq items n, slots := sl } ∧ Onx prog w s.heap b ∧ R (.ok (.ret .notImplemented)) s) := by
  intro A R s h
  obtain ⟨hp, g, d, tk, os⟩ := s
  obtain ⟨ha, ⟨⟨c, dd, sl, hl⟩, hli, htu, hdi⟩, h⟩ := h
  wp_walk using wpAny_loadPart' ha, (PySem.W.Looks.at hli)
  exact h

theorem no_tuple_ne {a b : Addr} {items : Array Value} {n : Nat} {dd : Option Addr} {sl : Array (Option Value)} : MeetsIn prog w (Builtin.«tuple.__ne__» ⟨[.ref a, .ref b], []⟩) (fun _ R s => s.heap.get? a = some { cls := .type "tuple", dict := dd, data := .seq items n, slots := sl } ∧ Onx prog w s.heap b ∧ R (.ok (.ret .notImplemented)) s) := by
  intro A R s h
  obtain ⟨hp, g, d, tk, os⟩ := s
  obtain ⟨ha, ⟨⟨c, dd, sl, hl⟩, hli, htu, hdi⟩, h⟩ := h
  wp_walk using wpAny_loadPart' ha, (PySem.W.Looks.at htu)
  exact h

theorem no_dict_ne {a b : Addr} {items : Array DictEntry} {n : Nat} {dd : Option Addr} {sl : Array (Option Value)} : MeetsIn prog w (Builtin.«dict.__ne__» ⟨[.ref a, .ref b], []⟩) (fun _ R s => s.heap.get? a = some { cls := .type "dict", dict := dd, data := .dict items n, slots := sl } ∧ Onx prog w s.heap b ∧ R (.ok (.ret .notImplemented)) s) := by
  intro A R s h
  obtain ⟨hp, g, d, tk, os⟩ := s
  obtain ⟨ha, ⟨⟨c, dd, sl, hl⟩, hli, htu, hdi⟩, h⟩ := h
  wp_walk using wpAny_loadPart' ha, (PySem.W.Looks.at hdi)
  exact h

end
end PySem.SeqAt

namespace G
open PySem PySem.Spec PyProof.Rows PySem.SeqAt L2
/-- no object of the class is one of these -/
structure Far (K : PySem.W.Frag) (C : Addr) : Prop where
  i : PySem.W.subIn K (.ref C) (.type "int") = some false
  b : PySem.W.subIn K (.ref C) (.type "bool") = some false
  s : PySem.W.subIn K (.ref C) (.type "str") = some false
  n : PySem.W.subIn K (.ref C) (.type "NoneType") = some false
  l : PySem.W.subIn K (.ref C) (.type "list") = some false
  t : PySem.W.subIn K (.ref C) (.type "tuple") = some false
  d : PySem.W.subIn K (.ref C) (.type "dict") = some false
/-- a value of a built-in kind -/
inductive Pl (H : Hp) : V → String → Prop
  | non : Pl H .non "NoneType"
  | bl (x : Bool) : Pl H (.bl x) "bool"
  | int (i : Int) : Pl H (.int i) "int"
  | str (x : Str) : Pl H (.str x) "str"
  | lst {a : Addr} {xs : List V} (e : H a = some (.lst xs)) : Pl H (.ref a) "list"
  | tup {a : Addr} {xs : List V} (e : H a = some (.tup xs)) : Pl H (.ref a) "tuple"
  | dK {a : Addr} {kvs : List (Key × V)} (e : H a = some (.dK kvs)) : Pl H (.ref a) "dict"
theorem Pl.ty {K : PySem.W.Frag} {H : Hp} {x : V} {T : String} (h : Pl H x T) : TyX K H x (.type T) := by
  cases h with
  | non => exact .base .non
  | bl x => exact .base (.bl x)
  | int i => exact .base (.int i)
  | str x => exact .base (.str x)
  | lst e => exact .base (.lst e)
  | tup e => exact .base (.tup e)
  | dK e => exact .base (.dK e)
theorem Pl.same {H H' : Hp} {x : V} {T : String} (h : Pl H x T) (e : Same H H') : Pl H' x T := by
  cases h with
  | non => exact .non
  | bl x => exact .bl x
  | int i => exact .int i
  | str x => exact .str x
  | lst h => exact .lst (e _ _ h)
  | tup h => exact .tup (e _ _ h)
  | dK h => exact .dK (e _ _ h)
section
variable {X : Cx} {pins : List (Addr × Obj)} {σ : L2.St} {H : Hp} {s : Shared} {b C dx : Addr} {fs : List (Str × V)} {A : Around} {E : Value → Shared → Prop}
theorem onx {od : Option Obj} {prog : Program} {w : World} {K : PySem.W.Frag} (X : K.In s.heap) (J : PySem.W.InstAt s.heap b (PySem.W.instObj C dx) C od) (far : Far K C) : Onx prog w s.heap b where
  at_ := ⟨_, _, _, J.1⟩
  li := J.type.andThen (PySem.W.looks_subIn X far.l)
  tu := J.type.andThen (PySem.W.looks_subIn X far.t)
  di := J.type.andThen (PySem.W.looks_subIn X far.d)
/-- a built-in kind's own == and != decline -/
theorem Pl.dec {x : V} {u : Value} {T : String} (h : Pl H x T) (I : Inv X pins σ H s) (r : RelV x u) (o : Onx X.prog X.w s.heap b) {K : PySem.W.Frag} (far : Far K C) (op : CmpOp) (hop : op = .Eq ∨ op = .NotEq) :
    s.TypeIs u T ∧ PySem.W.subIn K (.ref C) (.type T) = some false ∧ ∃ id, Slot T (cmpInfo op).2.1 id ∧ ∀ (A : Around) (E Q : Value → Shared → Prop), Q .notImplemented s → wpAny (model X.prog X.w) A (call (.builtin id) [u, .ref b]) Q E s := by
  cases h with
  | non =>
    cases (show u = Value.none from r)
    refine ⟨rfl, far.n, ?_⟩
    rcases hop with rfl | rfl
    · exact ⟨_, F.slot_NoneType_eq, fun A E Q q => call_meetsIn F.slot_NoneType_eq rfl F.entry_NoneType_eq (F.args_NoneType_eq_2 _ _) no_none_eq ⟨o, q⟩⟩
    · exact ⟨_, F.slot_NoneType_ne, fun A E Q q => call_meetsIn F.slot_NoneType_ne rfl F.entry_NoneType_ne (F.args_NoneType_ne_2 _ _) no_none_ne ⟨o, q⟩⟩
  | bl y =>
    cases (show u = Value.bool y from r)
    refine ⟨rfl, far.b, ?_⟩
    rcases hop with rfl | rfl
    · exact ⟨_, F.slot_bool_eq, fun A E Q q => call_meetsIn F.slot_bool_eq rfl F.entry_int_eq (F.args_int_eq_2 _ _) no_bool_eq ⟨o, q⟩⟩
    · exact ⟨_, F.slot_bool_ne, fun A E Q q => call_meetsIn F.slot_bool_ne rfl F.entry_int_ne (F.args_int_ne_2 _ _) no_bool_ne ⟨o, q⟩⟩
  | int i =>
    obtain ⟨t, rfl⟩ := (show ∃ t, u = Value.int i t from r)
    refine ⟨rfl, far.i, ?_⟩
    rcases hop with rfl | rfl
    · exact ⟨_, F.slot_int_eq, fun A E Q q => call_meetsIn F.slot_int_eq rfl F.entry_int_eq (F.args_int_eq_2 _ _) no_int_eq ⟨o, q⟩⟩
    · exact ⟨_, F.slot_int_ne, fun A E Q q => call_meetsIn F.slot_int_ne rfl F.entry_int_ne (F.args_int_ne_2 _ _) no_int_ne ⟨o, q⟩⟩
  | str y =>
    obtain ⟨t, rfl⟩ := (show ∃ t, u = Value.str y t from r)
    refine ⟨rfl, far.s, ?_⟩
    rcases hop with rfl | rfl
    · exact ⟨_, F.slot_str_eq, fun A E Q q => call_meetsIn F.slot_str_eq rfl F.entry_str_eq (F.args_str_eq_2 _ _) no_str_eq ⟨o, q⟩⟩
    · exact ⟨_, F.slot_str_ne, fun A E Q q => call_meetsIn F.slot_str_ne rfl F.entry_str_ne (F.args_str_ne_2 _ _) no_str_ne ⟨o, q⟩⟩
  | @lst a xs ea =>
    cases (show u = Value.ref a from r)
    obtain ⟨_, _, n, _, h1⟩ := (show ObjOk X.prog X.w H s.heap a (.lst xs) from I.hok a _ ea)
    refine ⟨⟨_, h1, rfl⟩, far.l, ?_⟩
    rcases hop with rfl | rfl
    · exact ⟨_, F.slot_list_eq, fun A E Q q => call_meetsIn F.slot_list_eq ⟨_, h1, rfl⟩ F.entry_list_eq (F.args_list_eq_2 _ _) no_list_eq ⟨h1, o, q⟩⟩
    · exact ⟨_, F.slot_list_ne, fun A E Q q => call_meetsIn F.slot_list_ne ⟨_, h1, rfl⟩ F.entry_list_ne (F.args_list_ne_2 _ _) no_list_ne ⟨h1, o, q⟩⟩
  | @tup a xs ea =>
    cases (show u = Value.ref a from r)
    obtain ⟨_, _, _, ob, h1, h2, n, h3⟩ := (show ObjOk X.prog X.w H s.heap a (.tup xs) from I.hok a _ ea)
    obtain ⟨oc, od, dt, sl⟩ := ob
    simp only at h2 h3
    subst h2 h3
    refine ⟨⟨_, h1, rfl⟩, far.t, ?_⟩
    rcases hop with rfl | rfl
    · exact ⟨_, F.slot_tuple_eq, fun A E Q q => call_meetsIn F.slot_tuple_eq ⟨_, h1, rfl⟩ F.entry_tuple_eq (F.args_tuple_eq_2 _ _) no_tuple_eq ⟨h1, o, q⟩⟩
    · exact ⟨_, F.slot_tuple_ne, fun A E Q q => call_meetsIn F.slot_tuple_ne ⟨_, h1, rfl⟩ F.entry_tuple_ne (F.args_tuple_ne_2 _ _) no_tuple_ne ⟨h1, o, q⟩⟩
  | @dK a kvs ea =>
    cases (show u = Value.ref a from r)
    obtain ⟨_, _, vs, _, p⟩ := (show ObjOk X.prog X.w H s.heap a (.dK kvs) from I.hok a _ ea)
    obtain ⟨ob, es, ep, h1, h2, h3, _⟩ := p
    obtain ⟨oc, od, dt, sl⟩ := ob
    obtain ⟨h4, h5, h6⟩ := h2
    simp only at h3 h4 h5 h6
    subst h3 h4 h5 h6
    refine ⟨⟨_, h1, rfl⟩, far.d, ?_⟩
    rcases hop with rfl | rfl
    · exact ⟨_, F.slot_dict_eq, fun A E Q q => call_meetsIn F.slot_dict_eq ⟨_, h1, rfl⟩ F.entry_dict_eq (F.args_dict_eq_2 _ _) no_dict_eq ⟨h1, o, q⟩⟩
    · exact ⟨_, F.slot_dict_ne, fun A E Q q => call_meetsIn F.slot_dict_ne ⟨_, h1, rfl⟩ F.entry_dict_ne (F.args_dict_ne_2 _ _) no_dict_ne ⟨h1, o, q⟩⟩
end
end G
namespace G
open PySem PySem.Spec PyProof.Rows PySem.SeqAt L2
section
variable {M : Model} {prog : Program} {w : World} {A : Around} {E : Value → Shared → Prop} {s : Shared} {K : PySem.W.Frag} {x C f : Addr} {ox : Obj} {od : Option Obj} {y : Value}
/-- an own class keeps object's != -/
structure NeM (K : PySem.W.Frag) (C : Addr) : Prop where
  ne : PySem.W.findIn K (.ref C) "__ne__" = some (some (.builtin "object.__ne__"))
  ob : PySem.W.mroIn K C (.type "object") = some true
theorem ifBound_objNe {args : List Value} {Q : Option Value → Shared → Prop} (X : K.In s.heap) (I : PySem.W.InstAt s.heap x ox C od) (hs : PySem.W.findIn K (.ref C) "__ne__" = some (some (.builtin "object.__ne__")))
    (h : wpAny M A (call (.builtin "object.__ne__") (.ref x :: args)) (fun v => Q (some v)) E s) : wpAny M A (callSpecialIfBound? (.ref x) "__ne__" args) Q E s := by
  simp only [callSpecialIfBound?, bindSpecialIfBound?]
  refine wpAny_holding (wpAny_bind (wpAny_bind (wpAny_bind (I.type.here ((PySem.W.looks_findIn X hs).here ?_)))))
  refine wpAny_bind (wpAny_askSetting (wpAny_ite ?_))
  have fin : wpAny M A (call (.builtin "object.__ne__") ([.ref x] ++ args) >>= fun v => pure (some v)) Q E s := wpAny_bind (wpAny_mono h (fun v s' h' => wpAny_pure h') fun _ _ h' => h')
  split
  · exact wpAny_bind (wpAny_of_eq (F.cmp_object.ne.bind _) (wpAny_pure (by exact fin)))
  · exact wpAny_tryCatch (wpAny_bind (wpAny_of_eq (F.cmp_object.ne.bind _) (wpAny_pure (by exact fin))))
theorem try_ne {Q : Option Value → Shared → Prop} (X : K.In s.heap) (I : PySem.W.InstAt s.heap x ox C od) (N : NeM K C) (he : PySem.W.findIn K (.ref C) "__eq__" = some (some (.ref f))) (hf : PySem.W.isFn K (.ref f) = true) (hu : A.units + 1 < cLine)
    (h : wpAny (model prog w) A.in1 (call (.ref f) [.ref x, y]) (fun v s' => ∃ k, v = .bool k ∧ Q (some (.bool (!k))) s') E s) : wpAny (model prog w) A (tryCompare (.ref x) "__ne__" y) Q E s := by
  unfold tryCompare
  refine wpAny_bind (ifBound_objNe X I N.ne ?_)
  refine wpAny_call (codeAny_call_builtin F.cmp_object.ne.plain F.cmpEntry_ne (PySem.W.check_slot F.cmpKind_ne F.cmpSplit_ne (I.type.andThen (PySem.W.looks_mroIn X N.ob)) (F.cmpArgs_ne _ _) ?_))
  unfold Builtin.«object.__ne__»
  repeat (first
    | with_reducible refine wpAny_cRoomFor hu ?_
    | (refine wpAny_bind (m := callSpecialIfBound? (.ref x) (Str.ofString "__eq__") [y]) (PySem.W.ifBound_K X I he hf (wpAny_mono h (fun r s' hr => by
          obtain ⟨b, rfl, hq⟩ := hr
          repeat (first | exact wpAny_pure (wpAny_pure hq) | exact wpAny_pure hq | (refine wpAny_bind (m := truthy (.bool _)) (wpAny_truthy_bool ?_)) | wp_step)) fun _ _ e => e)))
    | wp_step)
end
end G
namespace G
open PySem PySem.Spec PyProof.Rows PySem.SeqAt L2
section
variable {prog : Program} {w : World} {A : Around} {E : Value → Shared → Prop} {s : Shared} {K : PySem.W.Frag} {x C f : Addr} {ox : Obj} {od : Option Obj} {y : Value}
/-- the left one declines, the right one's class answers -/
theorem rc_refl {op : CmpOp} {u : Value} {T id : String} {Q : Value → Shared → Prop} (hu : A.units < cLine) (ht : s.TypeIs u T) (X : K.In s.heap) (I : PySem.W.InstAt s.heap x ox C od) (hsub : PySem.W.subIn K (.ref C) (.type T) = some false)
    (sl : Slot T (cmpInfo op).2.1 id) (hd : ∀ (A : Around) (E Q : Value → Shared → Prop), Q .notImplemented s → wpAny (model prog w) A (call (.builtin id) [u, .ref x]) Q E s)
    (h : wpAny (model prog w) A (tryCompare (.ref x) (cmpInfo op).2.2 u) (fun r s' => ∃ v, r = some v ∧ Q v s') E s) : wpAny (model prog w) A (richCompare op u (.ref x)) Q E s := by
  rcases hi : cmpInfo op with ⟨sym, m, r⟩
  rw [hi] at sl h
  simp only [richCompare, hi, ht.oneThing_none]
  refine wpAny_holding (wpAny_bind (wpAny_cRoomFor hu ?_))
  refine wpAny_bind (wpAny_typeOf ht (wpAny_bind (I.type.here ?_)))
  have hne : (Value.type T != Value.ref C) = true := by simp
  simp only [hne, if_true]
  refine wpAny_bind ((PySem.W.looks_subIn X hsub).here ?_)
  simp only [Bool.false_eq_true, if_false, Bool.not_false, if_true]
  refine wpAny_bind (m := tryCompare u _ (.ref x)) (wpAny_tryCompare_declines ht sl (hd _ _ _ ⟨rfl, ?_⟩))
  refine wpAny_bind (m := tryCompare (.ref x) _ u) (wpAny_mono h (fun r s' z => ?_) fun _ _ e => e)
  obtain ⟨v, rfl, q⟩ := z
  exact wpAny_pure q
theorem rc_ne {tb : Value} {Q : Value → Shared → Prop} (hu : A.units < cLine) (X : K.In s.heap) (I : PySem.W.InstAt s.heap x ox C od) (hb : PySem.W.Looks (model prog w) s.heap (typeOf y) tb) (hn : PySem.W.notFirst K C tb = true)
    (one : wpAny (model prog w) A (tryCompare (.ref x) "__ne__" y) (fun r s' => ∃ v, r = some v ∧ Q v s') E s) : wpAny (model prog w) A (richCompare .NotEq (.ref x) y) Q E s := by
  unfold richCompare
  simp only [oneThing_ref]
  rw [cmpInfo_NotEq]
  refine wpAny_holding (wpAny_bind (wpAny_cRoomFor hu ?_))
  refine wpAny_bind (I.type.here (wpAny_bind (hb.here ?_)))
  split
  · rename_i q
    have e : PySem.W.subIn K tb (.ref C) = some false := by
      rcases Bool.or_eq_true_iff.mp hn with e | e
      · rw [beq_iff_eq.mp e] at q; simp at q
      · exact beq_iff_eq.mp e
    refine wpAny_bind ((PySem.W.looks_subIn X e).here ?_)
    simp only [Bool.false_eq_true, if_false]
    refine wpAny_bind (wpAny_mono one (fun r s' z => ?_) fun _ _ e => e)
    obtain ⟨v, rfl, hq⟩ := z
    exact wpAny_pure hq
  · refine wpAny_bind (wpAny_pure ?_)
    simp only [Bool.false_eq_true, if_false]
    refine wpAny_bind (wpAny_mono one (fun r s' z => ?_) fun _ _ e => e)
    obtain ⟨v, rfl, hq⟩ := z
    exact wpAny_pure hq
end
section
variable {X : Cx} {k : Nat} {f C : Addr} {fd : FuncData} {ps : List Str} {sp : Sp} {E : XK}
/-- a def run from an inner step of a built-in -/
theorem run_in {CX : CXT} {pins : List (Addr × Obj)} {σ : L2.St} {H : Hp} {s : Shared} {Q : VK} {us : List Value} {vs : List V} {A : Around} (F : FnOk X.prog X.w X.K X.mg X.base CX k f fd ps sp) (hA : A.frames = X.A.frames) (hr : Room k A) (hb : Binds X.K fd ps [])
    (hx : Passes CX X E) (I : Inv X pins σ H s) (r : Vals vs us) (h : sp vs H Q E) : wpAny (model X.prog X.w) A (call (.ref f) us) (EP X pins σ Q) X.xe s := by
  have e0 : Env0 X.prog X.w X.K X.mg X.base A X.stack s H := by
    have e := I.env0
    exact ⟨by rw [hA]; exact e.frames, e.mod, e.bs, e.bsz, e.funs, e.frf, e.hok, e.bare⟩
  have hl := F.len _ _ _ _ h
  refine wpAny_call (codeAny_mono (F.run A X.stack s H ⟨us, []⟩ us vs Q E hr e0 (by
    have := hb s us I.kIn (by rw [List.append_nil, ← r.length]; exact hl)
    simpa using this) r h) fun r s' hq => ?_)
  cases r with
  | error e => exact hx pins σ H s e s' I hq
  | ok fl =>
    cases fl with
    | ret w => exact I.after hq
    | next => exact False.elim hq
    | brk => exact False.elim hq
    | cont => exact False.elim hq
/-- x != y by the left one's __eq__ -/
def rNeO (K : PySem.W.Frag) (C : Addr) (sp : Sp) (E : XK) : R2 := fun x y H Q => ∃ a dx fs t, x = .ref a ∧ H a = some (.ins C dx fs) ∧ TyX K H y t ∧ PySem.W.notFirst K C t = true ∧ sp [x, y] H (fun v H' => ∃ c, v = .bl c ∧ Q (.bl (!c)) H') E
theorem op_neO {CX : CXT} (F : FnOk X.prog X.w X.K X.mg X.base CX k f fd ps sp) (hr : Room (k + 1) X.A) (hb : Binds X.K fd ps []) (hx : Passes CX X E) (m : OpM X.K C "__eq__" f) (N : NeM X.K C) :
    OpR X (compareOp .NotEq) (rNeO X.K C sp E) := by
  intro pins s σ H x y v u Q I rx ry h
  obtain ⟨a, dx, fs, t, rfl, ea, ty, hn, q⟩ := h
  obtain rfl : v = Value.ref a := rx
  obtain ⟨mA, O, _⟩ := ins_get I.hok ea
  obtain ⟨od, J, _⟩ := O.look
  obtain ⟨mm, fr⟩ := I.fr
  obtain ⟨P, Z, hp, hne⟩ := kit_of I ry ty
  show wpAny _ _ (richCompare .NotEq (.ref a) u) _ _ _
  have lk : PySem.W.Looks (model X.prog X.w) s.heap (typeOf u) t := Z.ty _ _ I.kIn hp
  refine rc_ne hr.units0 I.kIn J lk hn ?_
  refine try_ne I.kIn J N m.at_ m.fn (by have := hr.un; omega) ?_
  refine wpAny_mono (run_in (A := X.A.in1) (us := [.ref a, u]) (vs := [.ref a, y]) F rfl hr.in1 hb hx I (.cons rfl (.cons ry .nil)) q) (fun w s' hw => ?_) fun _ _ e => e
  obtain ⟨z, H', I', rz, c, ez, qz⟩ := hw
  subst ez
  cases (show w = Value.bool c from rz)
  exact ⟨c, rfl, .bool (!c), rfl, .bl (!c), H', I', rfl, qz⟩
/-- v == x, v of a built-in kind, by x's __eq__ -/
def rEqR (C : Addr) (sp : Sp) (E : XK) : R2 := fun x y H Q => ∃ b dx fs T, y = .ref b ∧ H b = some (.ins C dx fs) ∧ Pl H x T ∧ sp [y, x] H Q E
theorem op_eqR {CX : CXT} (F : FnOk X.prog X.w X.K X.mg X.base CX k f fd ps sp) (hr : Room k X.A) (hb : Binds X.K fd ps []) (hx : Passes CX X E) (m : OpM X.K C "__eq__" f) (far : Far X.K C) :
    OpR X (compareOp .Eq) (rEqR C sp E) := by
  intro pins s σ H x y v u Q I rx ry h
  obtain ⟨b, dx, fs, T, rfl, eb, pl, q⟩ := h
  obtain rfl : u = Value.ref b := ry
  obtain ⟨mA, O, _⟩ := ins_get I.hok eb
  obtain ⟨od, J, _⟩ := O.look
  obtain ⟨ht, hs, id, sl, hd⟩ := pl.dec I rx (onx I.kIn J far) far .Eq (.inl rfl)
  show wpAny _ _ (richCompare .Eq v (.ref b)) _ _ _
  refine rc_refl hr.units0 ht I.kIn J hs sl hd ?_
  show wpAny _ _ (tryCompare (.ref b) "__eq__" v) _ _ _
  unfold tryCompare
  refine wpAny_bind (PySem.W.ifBound_K I.kIn J m.at_ m.fn (wpAny_mono (run_fn (us := [.ref b, v]) (vs := [.ref b, x]) F hr hb .nil hx I (.cons rfl (.cons rx .nil)) q) (fun w s' hw => ?_) fun _ _ e => e))
  obtain ⟨z, H', I', rz, qz⟩ := hw
  have cb : PySem.W.CmpBack (EP X pins σ Q) w s' := mono_rel rz ⟨z, H', I', rz, qz⟩
  cases w <;> first | exact cb.elim | exact wpAny_pure ⟨_, rfl, ⟨z, H', I', rz, qz⟩⟩
/-- v != x -/
def rNeR (C : Addr) (sp : Sp) (E : XK) : R2 := fun x y H Q => ∃ b dx fs T, y = .ref b ∧ H b = some (.ins C dx fs) ∧ Pl H x T ∧ sp [y, x] H (fun v H' => ∃ c, v = .bl c ∧ Q (.bl (!c)) H') E
theorem op_neR {CX : CXT} (F : FnOk X.prog X.w X.K X.mg X.base CX k f fd ps sp) (hr : Room (k + 1) X.A) (hb : Binds X.K fd ps []) (hx : Passes CX X E) (m : OpM X.K C "__eq__" f) (N : NeM X.K C) (far : Far X.K C) :
    OpR X (compareOp .NotEq) (rNeR C sp E) := by
  intro pins s σ H x y v u Q I rx ry h
  obtain ⟨b, dx, fs, T, rfl, eb, pl, q⟩ := h
  obtain rfl : u = Value.ref b := ry
  obtain ⟨mA, O, _⟩ := ins_get I.hok eb
  obtain ⟨od, J, _⟩ := O.look
  obtain ⟨ht, hs, id, sl, hd⟩ := pl.dec I rx (onx I.kIn J far) far .NotEq (.inr rfl)
  show wpAny _ _ (richCompare .NotEq v (.ref b)) _ _ _
  refine rc_refl hr.units0 ht I.kIn J hs sl hd ?_
  refine try_ne I.kIn J N m.at_ m.fn (by have := hr.un; omega) ?_
  refine wpAny_mono (run_in (A := X.A.in1) (us := [.ref b, v]) (vs := [.ref b, x]) F rfl hr.in1 hb hx I (.cons rfl (.cons rx .nil)) q) (fun w s' hw => ?_) fun _ _ e => e
  obtain ⟨z, H', I', rz, c, ez, qz⟩ := hw
  subst ez
  cases (show w = Value.bool c from rz)
  exact ⟨c, rfl, .bool (!c), rfl, .bl (!c), H', I', rfl, qz⟩
end
end G
namespace G
open PySem PySem.Spec PyProof.Rows L2
/-- x is a bool, x None or a bool -/
def rIsNB : R2 := fun x y H Q => ∃ b, y = .bl b ∧ ((x = .non ∧ Q (.bl false) H) ∨ ∃ a, x = .bl a ∧ Q (.bl (decide (a = b))) H)
def rIsNn : R2 := fun x y H Q => y = .non ∧ Q (.bl (decide (x = .non))) H
def rNotNn : R2 := fun x y H Q => y = .non ∧ Q (.bl (!decide (x = .non))) H
theorem op_isNn {X : Cx} : OpR X (compareOp .Is) rIsNn := op_isN
theorem op_notNn {X : Cx} : OpR X (compareOp .IsNot) rNotNn := op_notN
theorem op_isNB {X : Cx} : OpR X (compareOp .Is) rIsNB := by
  intro pins s σ H x y v u Q I rx ry h
  obtain ⟨b, rfl, h⟩ := h
  rcases h with ⟨rfl, q⟩ | ⟨a, rfl, q⟩
  · cases (show v = Value.none from rx)
    cases (show u = Value.bool b from ry)
    exact wpAny_is_other rfl (fun z => nomatch z) ⟨.bl false, H, I, rfl, q⟩
  · exact op_isBl pins s σ H (.bl a) (.bl b) v u Q I rx ry ⟨a, b, rfl, rfl, q⟩
section
variable {C a : Addr} {H : Hp} {Q : VK} {E : XK} {K : PySem.W.Frag} {x : V} {T : String} {i : Int × Int}
theorem w_isNB0 {b : Bool} (q : Q (.bl false) H) : rIsNB .non (.bl b) H Q := ⟨b, rfl, .inl ⟨rfl, q⟩⟩
theorem w_isNB {a b : Bool} (q : Q (.bl (decide (a = b))) H) : rIsNB (.bl a) (.bl b) H Q := ⟨b, rfl, .inr ⟨a, rfl, q⟩⟩
theorem w_isN {b : Bool} (e : decide (x = .non) = b) (q : Q (.bl b) H) : rIsNn x .non H Q := ⟨rfl, by rw [e]; exact q⟩
theorem w_notN {b : Bool} (e : decide (x = .non) = b) (q : Q (.bl (!b)) H) : rNotNn x .non H Q := ⟨rfl, by rw [e]; exact q⟩
/-- a walk over a tuple -/
theorem w_walkT {t : Addr} {g : TG} {tb : TS} {D : Ends} {σ : L2.St} {xs : List V} (hl : SqT K H t xs) (Pv : Nat → L2.St → Hp → Prop) (h0 : Pv 0 σ H) (hk : ∀ i σ' H', i ≤ xs.length → Pv i σ' H' → SqT K H' t xs)
    (hs : ∀ (i : Nat) x σ' H', xs[i]? = some x → Pv i σ' H' → g x σ' H' fun σ2 H2 => tb { nx := Pv (i + 1), rt := D.rt, ct := Pv (i + 1), bk := D.nx } σ2 H2) (hd : ∀ σ' H', Pv xs.length σ' H' → D.nx σ' H') :
    ∃ b, V.ref t = .ref b ∧ (∃ xs, SqT K H b xs) ∧ ForW (Itt K b) g tb D σ H := ⟨t, rfl, ⟨_, hl⟩, for_tup Pv h0 hk hs hd⟩
end
end G
namespace G
open PySem PySem.Spec PyProof.Rows L2
theorem notFirst_ty {K : PySem.W.Frag} {C : Addr} {T : String} {l : List String} (h : fastBuiltinMro T = some (l.map Value.type)) : PySem.W.notFirst K C (.type T) = true := by
  have e : PySem.W.subIn K (.type T) (.ref C) = some false := by
    show (fastBuiltinMro T).map (·.contains (.ref C)) = some false
    rw [h]
    simp
  unfold PySem.W.notFirst
  rw [e]
  simp
theorem Pl.notFirst {K : PySem.W.Frag} {C : Addr} {H : Hp} {x : V} {T : String} (h : Pl H x T) : PySem.W.notFirst K C (.type T) = true := by
  cases h with
  | non => exact notFirst_ty (l := ["NoneType", "object"]) (by decide +kernel)
  | bl x => exact notFirst_ty (l := ["bool", "int", "object"]) (by decide +kernel)
  | int i => exact notFirst_ty (l := ["int", "object"]) (by decide +kernel)
  | str x => exact notFirst_ty (l := ["str", "object"]) (by decide +kernel)
  | lst e => exact notFirst_ty (l := ["list", "object"]) (by decide +kernel)
  | tup e => exact notFirst_ty (l := ["tuple", "object"]) (by decide +kernel)
  | dK e => exact notFirst_ty (l := ["dict", "object"]) (by decide +kernel)
section
variable {C p q : Addr} {H : Hp} {Q : VK} {E : XK} {K : PySem.W.Frag} {y : V} {T : String} {x z : Int × Int}
theorem w_eqPl (R : Rat C H p x.1 x.2) (h : Pl H y T) (k : PySem.W.kitOne K (.type T) (.ref C) = some false) (w : Q (.bl false) H) : rEqO K C (spEq K C) E (.ref p) y H Q :=
  let ⟨dx, e⟩ := R; ⟨p, dx, _, _, rfl, e, h.ty, h.notFirst, .inr ⟨p, x, y, _, rfl, ⟨dx, e⟩, h.ty, k, w⟩⟩
theorem w_nePl (R : Rat C H p x.1 x.2) (h : Pl H y T) (k : PySem.W.kitOne K (.type T) (.ref C) = some false) (w : Q (.bl true) H) : rNeO K C (spEq K C) E (.ref p) y H Q :=
  let ⟨dx, e⟩ := R; ⟨p, dx, _, _, rfl, e, h.ty, h.notFirst, .inr ⟨p, x, y, _, rfl, ⟨dx, e⟩, h.ty, k, false, rfl, w⟩⟩
theorem w_eqPr (R : Rat C H p x.1 x.2) (h : Pl H y T) (k : PySem.W.kitOne K (.type T) (.ref C) = some false) (w : Q (.bl false) H) : rEqR C (spEq K C) E y (.ref p) H Q :=
  let ⟨dx, e⟩ := R; ⟨p, dx, _, _, rfl, e, h, .inr ⟨p, x, y, _, rfl, ⟨dx, e⟩, h.ty, k, w⟩⟩
theorem w_nePr (R : Rat C H p x.1 x.2) (h : Pl H y T) (k : PySem.W.kitOne K (.type T) (.ref C) = some false) (w : Q (.bl true) H) : rNeR C (spEq K C) E y (.ref p) H Q :=
  let ⟨dx, e⟩ := R; ⟨p, dx, _, _, rfl, e, h, .inr ⟨p, x, y, _, rfl, ⟨dx, e⟩, h.ty, k, false, rfl, w⟩⟩
theorem w_neR (I : InsTy K C) (R : Rat C H p x.1 x.2) (S : Rat C H q z.1 z.2) (k : Q (.bl (!decide (x = z))) H) : rNeO K C (spEq K C) E (.ref p) (.ref q) H Q :=
  let ⟨dx, e⟩ := R; let ⟨dy, e'⟩ := S
  ⟨p, dx, _, _, rfl, e, I _ _ _ _ e', by unfold PySem.W.notFirst; simp, .inl ⟨p, q, x, z, rfl, ⟨dx, e⟩, ⟨dy, e'⟩, _, rfl, k⟩⟩
end
/-! ### what is less -/
theorem low_parts {u v : Int} (h : 0 < v) : ∃ g : Int, 0 < g ∧ u = g * (low u v).1 ∧ v = g * (low u v).2 := by
  have g := Int.gcd_pos_of_ne_zero_right u (show v ≠ 0 by omega)
  refine ⟨(Int.gcd u v : Int), by omega, ?_, ?_⟩
  · exact (Int.mul_ediv_cancel' (Int.gcd_dvd_left u v)).symm
  · exact (Int.mul_ediv_cancel' (Int.gcd_dvd_right u v)).symm
theorem lt_low {a b u v : Int} (h : 0 < v) : (a * (low u v).2 < (low u v).1 * b) ↔ a * v < u * b := by
  obtain ⟨g, g0, e1, e2⟩ := low_parts (u := u) h
  generalize hc : (low u v).1 = c at *
  generalize hd : (low u v).2 = d at *
  rw [e1, e2, Int.mul_left_comm a g d, Int.mul_assoc g c b]
  exact (Int.mul_lt_mul_left g0).symm
theorem low_lt {a b u v : Int} (h : 0 < v) : ((low u v).1 * b < a * (low u v).2) ↔ u * b < a * v := by
  obtain ⟨g, g0, e1, e2⟩ := low_parts (u := u) h
  generalize hc : (low u v).1 = c at *
  generalize hd : (low u v).2 = d at *
  rw [e1, e2, Int.mul_left_comm a g d, Int.mul_assoc g c b]
  exact (Int.mul_lt_mul_left g0).symm
theorem eq_low {n : Nat} {x : Int × Int} {u v : Int} (hx : Lp n x) (h : 0 < v) : x = low u v ↔ x.1 * v = u * x.2 := by
  obtain ⟨g, g0, e1, e2⟩ := low_parts (u := u) h
  constructor
  · intro e
    rw [← e] at e1 e2
    rw [e1, e2]
    grind
  · intro e
    have bu : Bt (u.natAbs.log2 + v.natAbs.log2 + 2) u := Bt.any.mono (by omega)
    have bv : Bt (u.natAbs.log2 + v.natAbs.log2 + 2) v := Bt.any.mono (by omega)
    refine val_inj hx (Lp.low h bu bv) ?_
    rw [val_low h]
    unfold val
    have q1 := cast_ne (show x.2 ≠ 0 by have := hx.1; omega)
    have q2 := cast_ne (show v ≠ 0 by omega)
    have c : (x.1 : _root_.Rat) * v = u * x.2 := by exact_mod_cast e
    grind
theorem jn2_pos {t y : Int × Int} (ht : 0 < t.1) (hy : 0 < y.1) (t2 : 0 < t.2) (y2 : 0 < y.2) : 0 < (jn 2 t y).1 := by
  rw [jn_mul]
  obtain ⟨g, g0, e1, e2⟩ := low_parts (u := t.1 * y.1) (Int.mul_pos t2 y2)
  have p := Int.mul_pos ht hy
  rw [e1] at p
  generalize (low (t.1 * y.1) (t.2 * y.2)).1 = c at *
  by_cases hc : 0 < c
  · exact hc
  · have z := Int.mul_le_mul_of_nonneg_left (show c ≤ 0 by omega) (show 0 ≤ g by omega)
    rw [Int.mul_zero] at z
    omega
theorem lt_add {h t : Int × Int} (h2 : 0 < h.2) (t1 : 0 < t.1) (t2 : 0 < t.2) : h.1 * (jn 0 h t).2 < (jn 0 h t).1 * h.2 := by
  rw [jn_add, lt_low (Int.mul_pos h2 t2), Int.add_mul]
  have p := Int.mul_pos (Int.mul_pos t1 h2) h2
  have e : h.1 * (h.2 * t.2) = h.1 * t.2 * h.2 := by rw [Int.mul_comm h.2, Int.mul_assoc]
  rw [e]
  omega
theorem sub_lt {h t : Int × Int} (h2 : 0 < h.2) (t1 : 0 < t.1) (t2 : 0 < t.2) : (jn 1 h t).1 * h.2 < h.1 * (jn 1 h t).2 := by
  rw [jn_sub, low_lt (Int.mul_pos h2 t2), Int.sub_mul]
  have p := Int.mul_pos (Int.mul_pos t1 h2) h2
  have e : h.1 * (h.2 * t.2) = h.1 * t.2 * h.2 := by rw [Int.mul_comm h.2, Int.mul_assoc]
  rw [e]
  omega
end G

/-! == of two dicts whose values are ratios. -/
namespace G
open PySem PySem.Spec PyProof.Rows PySem.SeqAt L2
section
variable {κ : Type} [DecidableEq κ] {prog : Program} {w : World} {A : Around} {knd : KeyKind prog w κ}
/-- what a dict's entries meet in another dict, the values compared by code that keeps J -/
inductive Meet {κ : Type} [DecidableEq κ] (M : Model) (A : Around) (E : Value → Shared → Prop) (J : Shared → Prop) (kb : List (κ × Value)) : List (κ × Value) → Bool → Prop
  | nil : Meet M A E J kb [] true
  | miss {k : κ} {v : Value} {r : List (κ × Value)} : valueAt kb k = none → Meet M A E J kb ((k, v) :: r) false
  | hit {k : κ} {v y : Value} {r : List (κ × Value)} {e b : Bool} : valueAt kb k = some y → (∀ s, J s → wpAny M A (eqBool v y) (fun c s' => c = e ∧ J s') E s) → Meet M A E J kb r b → Meet M A E J kb ((k, v) :: r) (e && b)
theorem Meet.inv {M : Model} {E : Value → Shared → Prop} {J : Shared → Prop} {kb : List (κ × Value)} {k : κ} {v : Value} {r : List (κ × Value)} {b : Bool} (h : Meet M A E J kb ((k, v) :: r) b) :
    (valueAt kb k = none ∧ b = false) ∨ ∃ y e b', valueAt kb k = some y ∧ (∀ s, J s → wpAny M A (eqBool v y) (fun c s' => c = e ∧ J s') E s) ∧ Meet M A E J kb r b' ∧ b = (e && b') := by
  cases h with
  | miss hn => exact .inl ⟨hn, rfl⟩
  | hit hy he hr => exact .inr ⟨_, _, _, hy, he, hr, rfl⟩
/-- two dicts whose objects stay while the values are compared -/
theorem same_pairs {nm : String} {a b : Addr} {oa ob : Obj} {es es' : Array DictEntry} {ep ep' : Nat} {va vb : List (κ × Value)} {r : Bool} {J : Shared → Prop} {E : Value → Shared → Prop} {Q : Bool → Shared → Prop}
    (ya : (a == sysModules) = false) (yb : (b == sysModules) = false) (ga : ∀ s, J s → s.heap.get? a = some oa) (gb : ∀ s, J s → s.heap.get? b = some ob) (da : oa.data = .dict es ep) (db : ob.data = .dict es' ep')
    (ka : KeysOf knd es) (kb : KeysOf knd es') (pa : Pairs knd es.toList va) (pb : Pairs knd es'.toList vb) (m : Meet (model prog w) A E J vb va r) (q : ∀ s, J s → Q (va.length == vb.length && r) s) {s : Shared} (j : J s) :
    wpAny (model prog w) A (Builtin.Dict.samePairs nm a b) Q E s := by
  have la : va.length = es.size := by rw [← pa.length]; exact Array.length_toList
  have lb : vb.length = es'.size := by rw [← pb.length]; exact Array.length_toList
  have look : ∀ k, findBy knd.is es' k = valueAt vb k := fun k => by
    rw [← pb.find k]
    clear lb pb kb db gb
    obtain ⟨l⟩ := es'
    simp [findBy]
  rw [la, lb] at q
  unfold Builtin.Dict.samePairs Builtin.Dict.showsAll
  rw [if_neg (by rw [ya]; exact Bool.false_ne_true), if_neg (by rw [yb]; exact Bool.false_ne_true)]
  refine wpAny_bind (wpAny_pure (wpAny_bind (wpAny_pure ?_)))
  refine wpAny_bind (wpAny_dictEntries (ga s j) da ?_)
  dsimp only
  refine wpAny_bind (wpAny_dictEntries (gb s j) db ?_)
  by_cases hz : es.size = es'.size
  case neg =>
    rw [if_pos (by simpa using hz)]
    have hf : (es.size == es'.size) = false := by simpa using hz
    refine wpAny_bind (wpAny_rule (wpAny_pure ?_))
    have := q s j
    rw [hf, Bool.false_and] at this
    exact this
  case pos =>
    have q' : ∀ s, J s → Q r s := fun s j => by simpa [hz] using q s j
    rw [if_neg (by rw [hz]; simp)]
    refine wpAny_bind (wpAny_dictEpoch (ga s j) da ?_)
    refine wpAny_bind ?_
    rw [Std.Legacy.Range.forIn_eq_forIn_range']
    simp only [Std.Legacy.Range.size, Nat.sub_zero, Nat.add_sub_cancel, Nat.div_one]
    refine wpAny_forIn_list _
      (fun rest c s' => J s' ∧ c = (none, ()) ∧ ∃ i, rest = List.range' i (es.size - i) ∧ i ≤ es.size ∧ Meet (model prog w) A E J vb (va.drop i) r)
      _ ?_ ?_ _ _ ⟨j, rfl, 0, by simp, Nat.zero_le _, m⟩
    · rintro x rest c s' ⟨j', rfl, i, hr, hi, hm⟩
      obtain ⟨lt, rfl, hrest⟩ : i < es.size ∧ x = i ∧ rest = List.range' (i + 1) (es.size - (i + 1)) := by
        cases hn : es.size - i with
        | zero => rw [hn] at hr; cases hr
        | succ n =>
          rw [hn, List.range'_succ] at hr
          injection hr with h1 h2
          exact ⟨by omega, h1, by rw [h2, show es.size - (i + 1) = n by omega]⟩
      have ltv : x < va.length := by omega
      rw [List.drop_eq_getElem_cons ltv] at hm
      refine wpAny_bind (wpAny_dictEntries (ga s' j') da ?_)
      rw [Array.getElem?_eq_getElem lt]
      obtain ⟨hkey, hval⟩ := pa.get? (i := x) (e := es[x]) (k := va[x].1) (v := va[x].2) (by rw [Array.getElem?_toList]; exact Array.getElem?_eq_getElem lt) (List.getElem?_eq_getElem ltv)
      have hash : es[x].hash = knd.hash va[x].1 := by
        obtain ⟨k, hk, hh⟩ := ka es[x] (Array.getElem_mem lt)
        rw [hh, knd.inj _ _ _ hk hkey]
      refine wpAny_bind (wpAny_mono (Q := fun c s2 => J s2 ∧ if c = true then Meet (model prog w) A E J vb (va.drop (x + 1)) r else r = false) ?_ (fun c s2 hc => ?_) fun _ _ z => z)
      · rw [hash]
        refine wpAny_holding (wpAny_bind (wpAny_dictFind_of hkey (gb s' j') db kb ?_))
        have at_ := (look va[x].1).symm.trans (findBy_of_findIdx? knd.is es' va[x].1)
        cases hp : es'.findIdx? fun e => knd.is va[x].1 e.key with
        | none =>
          rw [hp] at at_
          rcases hm.inv with ⟨_, er⟩ | ⟨y, _, _, hy, _⟩
          · exact wpAny_pure ⟨j', by rw [if_neg (by decide)]; exact er⟩
          · exact nomatch at_.symm.trans hy
        | some p =>
          obtain ⟨plt, _, _⟩ := Array.findIdx?_eq_some_iff_getElem.mp hp
          rw [hp] at at_
          have at2 : valueAt vb va[x].1 = some es'[p].val := by rw [at_]; simp [Array.getElem?_eq_getElem plt]
          refine wpAny_bind (wpAny_dictEntries (gb s' j') db ?_)
          rw [Array.getElem?_eq_getElem plt]
          rcases hm.inv with ⟨hn, _⟩ | ⟨y, e, b', hy, he, hrr, er⟩
          · exact nomatch at2.symm.trans hn
          · obtain rfl : es'[p].val = y := Option.some.inj (at2.symm.trans hy)
            have he' : ∀ s, J s → wpAny (model prog w) A (eqBool es[x].val es'[p].val) (fun c s' => c = e ∧ J s') E s := by rw [hval]; exact he
            refine wpAny_holding (wpAny_mono (he' s' j') (fun c s2 hc => ?_) fun _ _ z => z)
            obtain ⟨rfl, j2⟩ := hc
            refine ⟨j2, ?_⟩
            cases c with
            | false => rw [if_neg (by decide), er, Bool.false_and]
            | true => rw [if_pos rfl, er, Bool.true_and]; exact hrr
      · obtain ⟨j2, hc⟩ := hc
        cases c with
        | false =>
          rw [if_neg (by decide)] at hc
          subst hc
          exact wpAny_ite_split (fun _ => wpAny_pure (wpAny_pure (q' s2 j2))) fun h => absurd rfl h
        | true =>
          rw [if_pos rfl] at hc
          refine wpAny_ite_split (fun h => absurd h (by decide)) fun _ => wpAny_bind (wpAny_dictEpoch (ga s2 j2) da ?_)
          exact wpAny_ite_split (fun h => absurd h (by simp)) fun _ => wpAny_pure ⟨j2, rfl, x + 1, hrest, lt, hc⟩
    · rintro c s' ⟨j', rfl, i, hr, hi, hm⟩
      have hin : i = es.size := by
        cases hn : es.size - i with
        | zero => omega
        | succ n => rw [hn, List.range'_succ] at hr; cases hr
      rw [hin, ← la, List.drop_length] at hm
      cases hm
      exact wpAny_pure (q' s' j')
end
end G
namespace G
open PySem PySem.Spec PyProof.Rows PySem.SeqAt L2
theorem Rat.one {C p : Addr} {H : Hp} {x y : Int × Int} (R : Rat C H p x.1 x.2) (S : Rat C H p y.1 y.2) : x = y := by
  obtain ⟨dx, h⟩ := R
  obtain ⟨dy, h'⟩ := S
  rw [h] at h'
  injection h' with h'
  injection h' with _ _ h'
  have a := rf_top x.1 x.2
  have b := rf_bottom x.1 x.2
  rw [h', rf_top] at a
  rw [h', rf_bottom] at b
  injection a with a
  injection b with b
  injection a with a
  injection b with b
  exact Prod.ext a.symm b.symm
section
variable {X : Cx} {k : Nat} {f C : Addr} {fd : FuncData} {ps : List Str} {E : XK} {CX : CXT}
/-- == of two ratios inside a built-in -/
theorem eqb_R {pins : List (Addr × Obj)} {σ : L2.St} {H : Hp} {s : Shared} {A : Around} {p q : Addr} {x y : Int × Int} (F : FnOk X.prog X.w X.K X.mg X.base CX k f fd ps (spEq X.K C)) (hA : A.frames = X.A.frames) (hr : Room k A) (hb : Binds X.K fd ps [])
    (hx : Passes CX X E) (m : OpM X.K C "__eq__" f) (T : InsTy X.K C) (I : Inv X pins σ H s) (R : Rat C H p x.1 x.2) (S : Rat C H q y.1 y.2) :
    wpAny (model X.prog X.w) A (eqBool (.ref p) (.ref q)) (fun c s' => c = decide (x = y) ∧ Inv X pins σ H s') X.xe s := by
  by_cases hab : p = q
  · subst hab
    exact SeqAt.EqAt.same (A := A) (s := s) (.ref p) X.prog X.w X.xe _ ⟨(decide_eq_true (R.one S)).symm, I⟩
  · refine GQ.eqBool_refG hab ?_
    obtain ⟨dx, ea⟩ := id R
    obtain ⟨dy, eb⟩ := id S
    obtain ⟨_, O, _⟩ := ins_get I.hok ea
    obtain ⟨_, J, _⟩ := O.look
    obtain ⟨_, fr⟩ := I.fr
    obtain ⟨P, Z, hp, _⟩ := kit_of I (show RelV (.ref q) (Value.ref q) from rfl) (T _ _ _ _ eb)
    have lk : PySem.W.Looks (model X.prog X.w) s.heap (typeOf (.ref q)) (.ref C) := Z.ty _ _ I.kIn hp
    refine PySem.W.cmp_K (op := .Eq) hr.units0 fr I.ok.mod.kin J lk notFirst_self m.at_ m.fn ?_
    refine wpAny_mono (run_in (us := [.ref p, .ref q]) (vs := [.ref p, .ref q]) (Q := fun v H' => v = .bl (decide (x = y)) ∧ H' = H) F hA hr hb hx I (.cons rfl (.cons rfl .nil)) (.inl ⟨p, q, x, y, rfl, R, S, rfl, rfl⟩)) (fun v s' hv => ?_) fun _ _ e => e
    obtain ⟨z, H', I', rz, ez, eH⟩ := hv
    subst ez eH
    cases (show v = Value.bool _ from rz)
    exact ⟨_, rfl, rfl, I'⟩
end
end G
namespace G
open PySem PySem.Spec PyProof.Rows PySem.SeqAt L2
/-! ### dicts whose values stand for pairs of numbers: ratios, tuples -/
/-- how a value stands for a pair -/
abbrev RepP := Hp → V → Int × Int → Prop
/-- the entries of a dict -/
def Ent (R : RepP) (H : Hp) (ks : List (Key × V)) (xs : List (Key × (Int × Int))) : Prop := Paired (fun (p : Key × V) (q : Key × (Int × Int)) => p.1 = q.1 ∧ R H p.2 q.2) ks xs
/-- a ratio at a reference -/
def RpR (C : Addr) : RepP := fun H v x => ∃ r, v = .ref r ∧ Rat C H r x.1 x.2
/-- a tuple at a reference -/
def RpT : RepP := fun H v x => ∃ t, v = .ref t ∧ H t = some (.tup [.int x.1, .int x.2])
/-- a locked dict changes nothing of it -/
def Still (R : RepP) : Prop := ∀ (H : Hp) (d : Addr) (o : Obj) (kvs : List (Key × V)) (v : V) (x : Int × Int), H d = some (.dK kvs) → R H v x → R (upd H d (.frz o (.dK kvs))) v x
theorem still_R {C : Addr} : Still (RpR C) := fun H d o kvs v x hd ⟨r, e, dx, h⟩ => ⟨r, e, dx, by rw [upd_ne (ne_of h hd (by intro z; cases z))]; exact h⟩
theorem still_T : Still RpT := fun H d o kvs v x hd ⟨r, e, h⟩ => ⟨r, e, by rw [upd_ne (ne_of h hd (by intro z; cases z))]; exact h⟩
def lk (xs : List (Key × (Int × Int))) (k : Key) : Option (Int × Int) := (xs.find? fun p => decide (p.1 = k)).map (·.2)
/-- each key of the one has its pair in the other, and they are as many -/
def dEq (xs ys : List (Key × (Int × Int))) : Bool := xs.length == ys.length && xs.all fun p => decide (lk ys p.1 = some p.2)
theorem Ent.mono {R : RepP} {H H' : Hp} {ks : List (Key × V)} {xs : List (Key × (Int × Int))} (h : Ent R H ks xs) (g : ∀ v x, R H v x → R H' v x) : Ent R H' ks xs := by
  unfold Ent at h ⊢
  exact Paired.mapP h fun p q ⟨a, b⟩ => ⟨a, g _ _ b⟩
theorem Ent.lk {R : RepP} {H : Hp} {ks : List (Key × V)} {xs : List (Key × (Int × Int))} (h : Ent R H ks xs) (k : Key) : (valV ks k = none ∧ G.lk xs k = none) ∨ ∃ v x, valV ks k = some v ∧ G.lk xs k = some x ∧ R H v x := by
  unfold Ent at h
  induction h with
  | nil => exact .inl ⟨rfl, rfl⟩
  | @cons p q ps qs a _ ih =>
    obtain ⟨e, r⟩ := a
    by_cases c : p.1 = k
    · have c' : q.1 = k := e ▸ c
      exact .inr ⟨p.2, q.2, valV_pos c, by unfold G.lk; rw [List.find?_cons_of_pos (by simpa using c')]; rfl, r⟩
    · have c' : ¬ q.1 = k := e ▸ c
      rw [valV_neg c]
      have : G.lk (q :: qs) k = G.lk qs k := by unfold G.lk; rw [List.find?_cons_of_neg (by simpa using c')]
      rw [this]
      exact ih
section
variable {X : Cx} {k : Nat} {f C : Addr} {fd : FuncData} {ps : List Str} {E : XK} {CX : CXT} {R : RepP}
/-- two such values are compared inside a built-in -/
def EqB (X : Cx) (A : Around) (R : RepP) : Prop := ∀ (pins : List (Addr × Obj)) (σ : L2.St) (H : Hp) (s : Shared) (v w : V) (u t : Value) (x y : Int × Int), Inv X pins σ H s → RelV v u → RelV w t → R H v x → R H w y →
  wpAny (model X.prog X.w) A (eqBool u t) (fun c s' => c = decide (x = y) ∧ Inv X pins σ H s') X.xe s
theorem eqb_ratios {A : Around} (F : FnOk X.prog X.w X.K X.mg X.base CX k f fd ps (spEq X.K C)) (hA : A.frames = X.A.frames) (hr : Room k A) (hb : Binds X.K fd ps []) (hx : Passes CX X E) (m : OpM X.K C "__eq__" f) (T : InsTy X.K C) : EqB X A (RpR C) := by
  intro pins σ H s v w u t x y I ru rt R S
  obtain ⟨p, rfl, R⟩ := R
  obtain ⟨q, rfl, S⟩ := S
  obtain rfl : u = Value.ref p := ru
  obtain rfl : t = Value.ref q := rt
  exact eqb_R F hA hr hb hx m T I R S
theorem eqv_prd (x y : Int × Int) : PyData.eqv (prd x) (prd y) = decide (x = y) := by
  obtain ⟨a, b⟩ := x
  obtain ⟨c, d⟩ := y
  simp only [prd, PyData.eqv, PyData.eqvAll]
  by_cases h1 : a = c <;> by_cases h2 : b = d <;> simp [h1, h2]
theorem eqb_pairs {A : Around} (hu : A.units + 64 < cLine) : EqB X A RpT := by
  intro pins σ H s v w u t x y I ru rt R S
  obtain ⟨p, rfl, R⟩ := R
  obtain ⟨q, rfl, S⟩ := S
  obtain ⟨as, r1⟩ := Dp.reads I _ _ u (prd_dp R) ru
  obtain ⟨bs, r2⟩ := Dp.reads I _ _ t (prd_dp S) rt
  have e := SeqAt.eqAt_reads _ _ A s u t as bs r1 r2 (by rfl) (by rfl) (by
    have : (prd (x.1, x.2)).depth ≤ 40 := by simp only [prd, PyData.depth, PyData.depthAll]; omega
    omega) X.prog X.w X.xe
  rw [eqv_prd] at e
  exact e _ ⟨rfl, I⟩
theorem meet_ent {pins : List (Addr × Obj)} {σ : L2.St} {H : Hp} {A : Around} {ls : List (Key × V)} {vb : List (Key × Value)} {ys : List (Key × (Int × Int))} (he : EqB X A R) (rb : KV ls vb) (db : Ent R H ls ys) : ∀ {ks : List (Key × V)} {va : List (Key × Value)} {xs : List (Key × (Int × Int))}, KV ks va → Ent R H ks xs →
    Meet (model X.prog X.w) A X.xe (fun s' => Inv X pins σ H s') vb va (xs.all fun p => decide (G.lk ys p.1 = some p.2)) := by
  intro ks va xs ra da
  unfold KV at ra
  unfold Ent at da
  induction da generalizing va with
  | nil => cases ra; exact .nil
  | @cons p q ps' qs a _ ih =>
    cases ra with
    | @cons _ u _ us hu ht =>
      obtain ⟨e, r⟩ := a
      obtain ⟨e1, e2⟩ := hu
      obtain ⟨ku, vu⟩ := u
      obtain rfl : p.1 = ku := e1
      rw [List.all_cons]
      have o := rb.val p.1
      rcases db.lk p.1 with ⟨c1, c2⟩ | ⟨v', y, c1, c2, S⟩
      · rw [c1] at o
        rw [← e, c2]
        have z : decide ((none : Option (Int × Int)) = some q.2) = false := by simp
        rw [z, Bool.false_and]
        cases hv : valueAt vb p.1 with
        | none => exact .miss hv
        | some t => rw [hv] at o; exact False.elim o
      · rw [c1] at o
        rw [← e, c2]
        cases hv : valueAt vb p.1 with
        | none => rw [hv] at o; exact False.elim o
        | some t =>
          rw [hv] at o
          have z : decide (some y = some q.2) = decide (q.2 = y) := by
            by_cases h : q.2 = y
            · simp [h]
            · have h' : ¬ y = q.2 := fun z => h z.symm
              simp [h, h']
          rw [z]
          exact .hit hv (fun s j => he pins σ H s p.2 v' vu t q.2 y j e2 o r S) (ih ht)
theorem rc_ent {pins : List (Addr × Obj)} {σ : L2.St} {H : Hp} {s : Shared} {a b : Addr} {oa ob : Obj} {ks ls : List (Key × V)} {xs ys : List (Key × (Int × Int))} (he : EqB X X.A.in1 R) (hu : X.A.units < cLine) (I : Inv X pins σ H s)
    (ea : H a = some (.frz oa (.dK ks))) (eb : H b = some (.frz ob (.dK ls))) (da : Ent R H ks xs) (db : Ent R H ls ys) :
    wpAny (model X.prog X.w) X.A (richCompare .Eq (.ref a) (.ref b)) (fun v s' => v = .bool (dEq xs ys) ∧ Inv X pins σ H s') X.xe s := by
  obtain ⟨ga, _, ya, va, ra, ta⟩ := (show ObjOk X.prog X.w H s.heap a (.frz oa (.dK ks)) from I.hok a _ ea)
  obtain ⟨gb, _, yb, vb, rb, tb⟩ := (show ObjOk X.prog X.w H s.heap b (.frz ob (.dK ls)) from I.hok b _ eb)
  refine wpAny_richCompare_same_room (op := .Eq) ta.typeIs tb.typeIs PySem.F.slot_dict_eq (wpAny_call_entry PySem.F.slot_dict_eq ta.typeIs PySem.F.entry_dict_eq ?_ (PySem.F.args_dict_eq_2 _ _)) hu
  show wpAny _ _ (Builtin.Dict.dictSlotArgs "__eq__" ⟨[.ref a, .ref b], []⟩ >>= _) _ _ s
  have hT := ta.typeIs
  have hT2 := tb.typeIs
  obtain ⟨oa', es, ep, h1, _, d1, k1, p1, _⟩ := ta
  obtain ⟨ob', es', ep', h2, _, d2, k2, p2, _⟩ := tb
  obtain rfl : oa = oa' := Option.some.inj (ga.symm.trans h1)
  obtain rfl : ob = ob' := Option.some.inj (gb.symm.trans h2)
  refine wpAny_bind ?_
  unfold Builtin.Dict.dictSlotArgs
  refine wpAny_bind (wpAny_notOrdered_dict hT ?_)
  show wpAny _ _ (pure (Value.ref a, Value.ref b)) _ _ s
  refine wpAny_pure (wpAny_bind (wpAny_isInstance (T := "dict") hT2 PySem.F.sub_dict_dict ?_))
  simp only [Bool.not_true, Bool.false_eq_true, if_false]
  refine wpAny_bind (wpAny_pure (wpAny_bind (wpAny_pure ?_)))
  refine wpAny_bind (same_pairs (knd := mixKind X.prog X.w) (J := fun s' => Inv X pins σ H s') ya yb (fun s' j => (j.hok a _ ea).1) (fun s' j => (j.hok b _ eb).1) d1 d2 k1 k2 p1 p2 (meet_ent he rb db ra da) (fun s' j => ?_) I)
  refine wpAny_pure ⟨_, rfl, fun z => (nomatch z), ?_, j⟩
  have l1 : va.length = xs.length := by rw [← ra.length]; exact Paired.length da
  have l2 : vb.length = ys.length := by rw [← rb.length]; exact Paired.length db
  rw [l1, l2]
  unfold dEq
  cases (xs.length == ys.length && xs.all fun p => decide (lk ys p.1 = some p.2)) <;> rfl
theorem upd_id {H : Hp} {a : Addr} {o : HO} (h : H a = some o) : upd H a o = H := by
  funext b
  by_cases e : b = a
  · rw [e, upd_same, h]
  · rw [upd_ne e]
/-- d == e, dicts of such values -/
def rEqEnt (R : RepP) : R2 := fun x y H Q => ∃ a b ks ls xs ys, x = .ref a ∧ y = .ref b ∧ H a = some (.dK ks) ∧ H b = some (.dK ls) ∧ Ent R H ks xs ∧ Ent R H ls ys ∧ Q (.bl (dEq xs ys)) H
theorem op_eqEnt (he : EqB X X.A.in1 R) (st : Still R) (hu : X.A.units < cLine) : OpR X (compareOp .Eq) (rEqEnt R) := by
  intro pins s σ H x y v u Q I rx ry h
  obtain ⟨a, b, ks, ls, xs, ys, rfl, rfl, ea, eb, da, db, q⟩ := h
  obtain rfl : v = Value.ref a := rx
  obtain rfl : u = Value.ref b := ry
  obtain ⟨oa, I1⟩ := I.lock ea True.intro
  have na := I.nofrz ea True.intro
  show wpAny _ _ (richCompare .Eq (.ref a) (.ref b)) _ _ _
  by_cases hab : b = a
  · subst hab
    rw [ea] at eb
    cases eb
    refine wpAny_mono (rc_ent he hu I1 upd_same upd_same (da.mono fun v x => st _ _ _ _ v x ea) (db.mono fun v x => st _ _ _ _ v x ea)) (fun v s' hv => ?_) fun _ _ e => e
    obtain ⟨rfl, I2⟩ := hv
    have I3 := I2.unlock upd_same na
    rw [upd_upd, upd_id ea] at I3
    exact ⟨.bl _, H, I3, rfl, q⟩
  · have eb1 : upd H a (.frz oa (.dK ks)) b = some (.dK ls) := by rw [upd_ne hab]; exact eb
    obtain ⟨ob, I2⟩ := I1.lock eb1 True.intro
    have nb := I1.nofrz eb1 True.intro
    have ea2 : upd (upd H a (.frz oa (.dK ks))) b (.frz ob (.dK ls)) a = some (.frz oa (.dK ks)) := by rw [upd_ne (Ne.symm hab), upd_same]
    refine wpAny_mono (rc_ent he hu I2 ea2 upd_same ((da.mono fun v x => st _ _ _ _ v x ea).mono fun v x => st _ _ _ _ v x eb1) ((db.mono fun v x => st _ _ _ _ v x ea).mono fun v x => st _ _ _ _ v x eb1)) (fun v s' hv => ?_) fun _ _ e => e
    obtain ⟨rfl, I3⟩ := hv
    have I4 := I3.unlock upd_same nb
    rw [upd_upd, upd_id eb1] at I4
    have I5 := I4.unlock upd_same na
    rw [upd_upd, upd_id ea] at I5
    exact ⟨.bl _, H, I5, rfl, q⟩
end
end G
namespace G
open PySem PySem.Spec PyProof.Rows L2
/-! ### {k: d[k] for k in range(n) if k in d} -/
/-- the entries whose keys are below n, in order -/
def pick {α : Type} (f : Key → Option α) (n : Nat) : List (Key × α) := (List.range n).filterMap fun i : Nat => (f (.inl (i : Int))).map fun v => (.inl (i : Int), v)
theorem pick_succ {α : Type} (f : Key → Option α) (n : Nat) : pick f (n + 1) = pick f n ++ ((f (.inl (n : Int))).map fun v => (Sum.inl (n : Int), v)).toList := by
  unfold pick
  rw [List.range_succ, List.filterMap_append]
  cases h : f (.inl (n : Int)) with
  | none => simp [h]
  | some v => simp [h]
theorem pick_none {f : Key → Option V} {n : Nat} : ∀ {m : Nat}, m ≤ n → valV (pick f m) (.inl (n : Int)) = none := by
  intro m
  induction m with
  | zero => intro _; rfl
  | succ m ih =>
    intro h
    rw [pick_succ]
    cases e : f (.inl (m : Int)) with
    | none => simpa using ih (by omega)
    | some v =>
      show valV (pick f m ++ [(Sum.inl (m : Int), v)]) _ = _
      unfold valV
      rw [List.find?_append]
      have i0 := ih (by omega)
      unfold valV at i0
      rw [Option.map_eq_none_iff] at i0
      rw [i0]
      have ne : ¬ ((Sum.inl (m : Int) : Key) = .inl (n : Int)) := by
        intro z
        injection z with z
        omega
      simp [ne]
theorem pick_len {α : Type} {f : Key → Option α} : ∀ {n : Nat}, (pick f n).length ≤ n
  | 0 => Nat.le_refl _
  | n + 1 => by
    rw [pick_succ, List.length_append]
    have := @pick_len α f n
    cases f (.inl (n : Int)) <;> simp <;> omega
theorem comp_dict {σ : L2.St} {H : Hp} {Q : VK} {i0 j : Nat} {a : Addr} {ks : List (Key × V)} {n : Nat} {tr : TA} {tt : TT} (hr : ∀ R : List V → Hp → Prop, R [.int (n : Int)] H → tr σ H R) (hn : n ≤ 1000000) (hv : σ[i0]? = some (some (.ref a))) (hj : j < σ.length) (hji : j ≠ i0) (ha : H a = some (.dK ks))
    (ht : ∀ (i : Nat) (σ' : L2.St) (H' : Hp) (R : Bool → Hp → Prop), σ'[j]? = some (some (.int (i : Int))) → σ'[i0]? = some (some (.ref a)) → H' a = some (.dK ks) → R (valV ks (.inl (i : Int))).isSome H' → tt σ' H' R)
    (q : ∀ D, H D = none → Q (.ref D) (upd H D (.dK (pick (valV ks) n)))) :
    tDc (iRng1 tr) (gName j) tt (tVar j) (tDGet (tVar i0) (tVar j)) [j] σ H Q := by
  refine hr _ ⟨(n : Int), rfl, by omega, by omega, fun D hD => ⟨fun i m H' => m = n - i ∧ i ≤ n ∧ H' = upd H D (.dK (pick (valV ks) i)), ⟨n, by omega, by omega, rfl⟩, ?_⟩⟩
  rintro i m H' ⟨rfl, hi, rfl⟩
  have hne : a ≠ D := ne_of_none ha hD
  have ha' : upd H D (.dK (pick (valV ks) i)) a = some (.dK ks) := by rw [upd_ne hne]; exact ha
  by_cases hin : i = n
  · subst hin
    exact .inl ⟨by show (i : Int).toNat ≤ i; omega, q D hD⟩
  · refine .inr ⟨by show i < (n : Int).toNat; omega, fun H' => H' = upd H D (.dK (pick (valV ks) (i + 1))), fun H' e => ⟨n - (i + 1), by omega, rfl, by omega, e⟩, ?_⟩
    rintro x H' ⟨rfl, rfl⟩
    have z : ((0 : Int) + (i : Int)) = (i : Int) := Int.zero_add _
    rw [z]
    have s1 : ((σ.set j none).set j (some (.int (i : Int))))[j]? = some (some (.int (i : Int))) := by rw [List.getElem?_set_self (by rw [List.length_set]; exact hj)]
    have s2 : ((σ.set j none).set j (some (.int (i : Int))))[i0]? = some (some (.ref a)) := by rw [List.getElem?_set_ne hji, List.getElem?_set_ne hji]; exact hv
    refine ⟨?_, ht i _ _ _ s1 s2 ha' ?_⟩
    · show ((σ.set j none).set j (some (.int (i : Int)))).set j none = σ.set j none
      rw [List.set_set, List.set_set]
    · have ps := pick_succ (valV ks) i
      cases e : valV ks (.inl (i : Int)) with
      | none =>
        rw [e] at ps
        show _ = _
        rw [ps]
        simp
      | some v =>
        rw [e] at ps
        have g : DGet (upd H D (.dK (pick (valV ks) i))) a (.int (i : Int)) (some v) := by
          have g0 := DGet.k (k := .inl (i : Int)) ha'
          rw [e] at g0
          exact g0
        refine ⟨_, s1, _, s2, _, s1, a, v, rfl, g, pick (valV ks) i, .inl (i : Int), rfl, upd_same, ?_, ?_⟩
        · have l := @pick_len V (valV ks) i
          rw [show sizeLine = 16777216 from sizeLine_eq]
          omega
        · show upd (upd H D _) D _ = _
          rw [upd_upd, putK_new v (pick_none (Nat.le_refl _)), ps]
          rfl
end G
namespace G
open PySem PySem.Spec PyProof.Rows L2
/-! ### amounts in ascending order -/
theorem Ent.snoc {R : RepP} {H : Hp} {ks : List (Key × V)} {xs : List (Key × (Int × Int))} {i : Key} {v : V} {x : Int × Int} (h : Ent R H ks xs) (r : R H v x) : Ent R H (ks ++ [(i, v)]) (xs ++ [(i, x)]) := by
  unfold Ent at h ⊢
  induction h with
  | nil => exact .cons ⟨rfl, r⟩ .nil
  | cons a _ ih => exact .cons a ih
theorem Ent.pick {R : RepP} {H : Hp} {ks : List (Key × V)} {xs : List (Key × (Int × Int))} (h : Ent R H ks xs) : ∀ n, Ent R H (G.pick (valV ks) n) (G.pick (G.lk xs) n)
  | 0 => .nil
  | n + 1 => by
    have ih := h.pick n
    rw [pick_succ, pick_succ]
    rcases h.lk (.inl (n : Int)) with ⟨a, b⟩ | ⟨v, x, a, b, r⟩
    · rw [a, b]
      simpa using ih
    · rw [a, b]
      exact ih.snoc r
theorem mem_pick {α : Type} {f : Key → Option α} {n : Nat} {p : Key × α} : p ∈ pick f n ↔ ∃ i : Nat, i < n ∧ p.1 = .inl (i : Int) ∧ f p.1 = some p.2 := by
  obtain ⟨k, v⟩ := p
  unfold pick
  rw [List.mem_filterMap]
  constructor
  · rintro ⟨i, hi, e⟩
    rw [Option.map_eq_some_iff] at e
    obtain ⟨w, e1, e2⟩ := e
    injection e2 with e2 e3
    subst e2 e3
    exact ⟨i, List.mem_range.mp hi, rfl, e1⟩
  · rintro ⟨i, hi, e1, e2⟩
    have e1 : k = .inl (i : Int) := e1
    subst e1
    have e2 : f (.inl (i : Int)) = some v := e2
    exact ⟨i, List.mem_range.mpr hi, by rw [e2]; rfl⟩
theorem pick_congr {α : Type} {f g : Key → Option α} : ∀ {n : Nat}, (∀ i : Nat, i < n → f (.inl (i : Int)) = g (.inl (i : Int))) → pick f n = pick g n
  | 0, _ => rfl
  | n + 1, h => by rw [pick_succ, pick_succ, pick_congr fun i hi => h i (by omega), h n (by omega)]
theorem pick_le {α : Type} {f g : Key → Option α} : ∀ {n : Nat}, (∀ (i : Nat) v, i < n → f (.inl (i : Int)) = some v → g (.inl (i : Int)) = some v) →
    (pick f n).length ≤ (pick g n).length ∧ ((pick f n).length = (pick g n).length → ∀ i : Nat, i < n → f (.inl (i : Int)) = g (.inl (i : Int)))
  | 0, _ => ⟨Nat.le_refl _, fun _ i hi => absurd hi (by omega)⟩
  | n + 1, h => by
    obtain ⟨a, b⟩ := @pick_le α f g n fun i v hi e => h i v (by omega) e
    rw [pick_succ, pick_succ, List.length_append, List.length_append]
    cases e : f (.inl (n : Int)) with
    | some v =>
      rw [h n v (by omega) e]
      refine ⟨by simpa using a, fun z i hi => ?_⟩
      by_cases c : i = n
      · subst c; rw [e, h i v (by omega) e]
      · exact b (by simpa using z) i (by omega)
    | none =>
      cases e' : g (.inl (n : Int)) with
      | none =>
        refine ⟨by simpa using a, fun z i hi => ?_⟩
        by_cases c : i = n
        · subst c; rw [e, e']
        · exact b (by simpa using z) i (by omega)
      | some w =>
        refine ⟨by simp; omega, fun z => ?_⟩
        simp at z
        omega
/-- in ascending order, keys below n -/
def Asc (n : Nat) (xs : List (Key × (Int × Int))) : Prop := pick (lk xs) n = xs
theorem lk_pick {n : Nat} {f : Key → Option (Int × Int)} {i : Nat} (hi : i < n) : lk (pick f n) (.inl (i : Int)) = f (.inl (i : Int)) := by
  induction n with
  | zero => omega
  | succ n ih =>
    rw [pick_succ]
    unfold lk
    rw [List.find?_append]
    by_cases c : i = n
    · subst c
      have z : (pick f i).find? (fun p => decide (p.1 = .inl (i : Int))) = none := by
        rw [List.find?_eq_none]
        intro p hp
        obtain ⟨j, hj, e, _⟩ := mem_pick.mp hp
        rw [e]
        simp
        omega
      rw [z]
      cases e : f (.inl (i : Int)) with
      | none => rfl
      | some v => simp
    · have ih := ih (by omega)
      unfold lk at ih
      cases e : (pick f n).find? (fun p => decide (p.1 = .inl (i : Int))) with
      | some q => rw [e] at ih; exact ih
      | none =>
        rw [e] at ih
        rw [← ih]
        cases e' : f (.inl (n : Int)) with
        | none => rfl
        | some v =>
          have ne : ¬ ((Sum.inl (n : Int) : Key) = .inl (i : Int)) := by
            intro z
            injection z with z
            omega
          simp [ne]
theorem asc_pick {n : Nat} {f : Key → Option (Int × Int)} : Asc n (pick f n) := pick_congr fun _ hi => lk_pick hi
theorem dEq_asc {n : Nat} {xs ys : List (Key × (Int × Int))} (hx : Asc n xs) (hy : Asc n ys) : dEq xs ys = decide (xs = ys) := by
  have ux : ∀ p ∈ xs, lk xs p.1 = some p.2 := fun p hp => by
    rw [← hx] at hp
    obtain ⟨_, _, _, e⟩ := mem_pick.mp hp
    exact e
  unfold dEq
  by_cases h : xs = ys
  · subst h
    rw [decide_eq_true (show xs = xs from rfl), beq_self_eq_true, Bool.true_and, List.all_eq_true]
    exact fun p hp => decide_eq_true (ux p hp)
  · rw [decide_eq_false h]
    cases hz : (xs.length == ys.length && xs.all fun p => decide (lk ys p.1 = some p.2)) with
    | false => rfl
    | true =>
      rw [Bool.and_eq_true, beq_iff_eq, List.all_eq_true] at hz
      obtain ⟨hl, ha⟩ := hz
      have sub : ∀ (i : Nat) v, i < n → lk xs (.inl (i : Int)) = some v → lk ys (.inl (i : Int)) = some v := fun i v hi e => by
        have hp : ((Sum.inl (i : Int), v) : Key × (Int × Int)) ∈ xs := by
          rw [← hx]
          exact mem_pick.mpr ⟨i, hi, rfl, e⟩
        exact of_decide_eq_true (ha _ hp)
      have q := (pick_le sub).2 (by rw [show pick (lk xs) n = xs from hx, show pick (lk ys) n = ys from hy]; exact hl)
      exact absurd (hx.symm.trans ((pick_congr q).trans hy)) h
/-! ### mixtures -/
/-- a mixture of the class at M stands at p: its dict, the amounts ratios of the class at C -/
def Mix (M C : Addr) (H : Hp) (p : Addr) (xs : List (Key × (Int × Int))) : Prop := ∃ dx d ks, H p = some (.ins M dx (putF "_amounts" (.ref d) [])) ∧ H d = some (.dK ks) ∧ Ent (RpR C) H ks xs ∧ Asc 8 xs
theorem RpR.same {C : Addr} {H H' : Hp} {v : V} {x : Int × Int} (h : RpR C H v x) (e : Same H H') : RpR C H' v x := let ⟨r, a, b⟩ := h; ⟨r, a, b.same e⟩
theorem Mix.same {M C p : Addr} {H H' : Hp} {xs : List (Key × (Int × Int))} (h : Mix M C H p xs) (e : Same H H') : Mix M C H' p xs :=
  let ⟨dx, d, ks, a, b, c, o⟩ := h; ⟨dx, d, ks, e _ _ a, e _ _ b, c.mono fun v x r => r.same e, o⟩
/-- self._amounts == other._amounts -/
theorem w_eqMix {M C p q d d' : Addr} {H : Hp} {Q : VK} {ks ls : List (Key × V)} {xs ys : List (Key × (Int × Int))} (ha : H d = some (.dK ks)) (hb : H d' = some (.dK ls)) (ea : Ent (RpR C) H ks xs) (eb : Ent (RpR C) H ls ys) (oa : Asc 8 xs) (ob : Asc 8 ys)
    (k : Q (.bl (decide (xs = ys))) H) : rEqEnt (RpR C) (.ref d) (.ref d') H Q := ⟨d, d', ks, ls, xs, ys, rfl, rfl, ha, hb, ea, eb, by rw [dEq_asc oa ob]; exact k⟩
end G
namespace G
open PySem PySem.Spec PyProof.Rows L2
/-! ### for k, v in d.items(), d locked meanwhile -/
theorem same_unlock {H H' : Hp} {d : Addr} {od : Obj} {ks : List (Key × V)} (ha : H d = some (.dK ks)) (e : Same (upd H d (.frz od (.dK ks))) H') : Same H (upd H' d (.dK ks)) := by
  intro b o h
  by_cases c : b = d
  · subst c
    rw [ha] at h
    cases h
    exact upd_same
  · rw [upd_ne c]
    exact e _ _ (by rw [upd_ne c]; exact h)
theorem same_locked {H H' : Hp} {d : Addr} {od : Obj} {ks : List (Key × V)} (e : Same (upd H d (.frz od (.dK ks))) H') : H' d = some (.frz od (.dK ks)) := e _ _ upd_same
theorem w_items {td : TE} {g : TG} {tb : TS} {D : Ends} {σ : L2.St} {H : Hp} {d : Addr} {ks : List (Key × V)} (ha : H d = some (.dK ks)) (hv : ∀ (H' : Hp) (R : V → Hp → Prop), R (.ref d) H' → td σ H' R) (Pv : Nat → L2.St → Prop) (h0 : Pv 0 σ)
    (hs : ∀ (od : Obj) (i : Nat) (k : Key) (v : V) (T : Addr) (σ' : L2.St) (H' : Hp), ks[i]? = some (k, v) → Pv i σ' → Same (upd H d (.frz od (.dK ks))) H' → H' T = some (.tup [kV k, v]) → g (.ref T) σ' H' fun σ2 H2 =>
      tb { nx := fun σ3 H3 => Pv (i + 1) σ3 ∧ Same (upd H d (.frz od (.dK ks))) H3, ct := fun σ3 H3 => Pv (i + 1) σ3 ∧ Same (upd H d (.frz od (.dK ks))) H3, bk := fun σ3 H3 => H3 d = some (.frz od (.dK ks)) ∧ D.nx σ3 (upd H3 d (.dK ks)), rt := fun v H3 => H3 d = some (.frz od (.dK ks)) ∧ D.rt v (upd H3 d (.dK ks)) } σ2 H2)
    (hd : ∀ σ' H', Pv ks.length σ' → Same H H' → D.nx σ' H') : tLock (tFor (iItems td) g tb) D σ H := by
  refine ⟨d, .dK ks, ha, True.intro, fun od => w_for (hv _ _ ⟨d, od, ks, rfl, upd_same, ?_⟩)⟩
  refine ⟨fun i m σ' H' => m = ks.length - i ∧ i ≤ ks.length ∧ Pv i σ' ∧ Same (upd H d (.frz od (.dK ks))) H', ⟨ks.length, by omega, Nat.zero_le _, h0, fun _ _ h => h⟩, ?_⟩
  rintro i m σ' H' ⟨rfl, hi, p, e⟩
  have hl := same_locked e
  by_cases lt : i < ks.length
  · refine .inr ⟨⟨hl, lt⟩, fun σ3 H3 => Pv (i + 1) σ3 ∧ Same (upd H d (.frz od (.dK ks))) H3, fun σ3 H3 ⟨a, b⟩ => ⟨ks.length - (i + 1), by omega, rfl, by omega, a, b⟩, ?_⟩
    rintro x H2 ⟨T, k, v, hk, rfl, hT, rfl⟩
    exact hs od i k v T σ' _ hk p (fun b o h => by rw [upd_ne (ne_of_none (e _ _ h) hT)]; exact e _ _ h) upd_same
  · obtain rfl : i = ks.length := by omega
    exact .inl ⟨⟨hl, Nat.le_refl _⟩, hl, hd _ _ p (same_unlock ha e)⟩
end G
namespace G
open PySem PySem.Spec PyProof.Rows L2
/-! ### list(d.values()) -/
def rValsL : V → Hp → VK → Prop := fun x H Q => ∃ (d : Addr) (kvs : List (Key × V)), x = .ref d ∧ H d = some (.dK kvs) ∧ ∀ p, H p = none → Q (.ref p) (upd H p (.lst (kvs.map (·.2))))
def tListVals (te : TE) : TE := fun σ H Q => te σ H fun x H1 => rValsL x H1 Q
theorem vals_at {kvs : List (Key × V)} {vs : List (Key × Value)} (kv : KV kvs vs) : ∀ {us : List Value}, us.length = vs.length → (∀ (j : Nat) (v : Value), us[j]? = some v → ∃ k, vs[j]? = some (k, v)) → Vals (kvs.map (·.2)) us := by
  unfold KV at kv
  induction kv with
  | nil => intro us h _; cases us with | nil => exact .nil | cons _ _ => cases h
  | @cons p q ps qs a _ ih =>
    intro us h g
    cases us with
    | nil => cases h
    | cons u us =>
      obtain ⟨k, e⟩ := g 0 u rfl
      have e : q = (k, u) := Option.some.inj e
      subst e
      exact .cons a.2 (ih (Nat.succ.inj h) fun j v e => g (j + 1) v e)
section
variable {X : Cx} {e : Expr} {te : TE} {p apos cpos pos : Pos}
theorem pe_listVals (hc : X.calm = true) (he : PE X e te) (hg : Gl X "list") (hm : X.mg "list" = none) (hv : bootBuiltins "list" = some (.type "list")) (hbase : attributeBase e "values" X.env (eval e X.env) = eval e X.env := by rfl) (hline : (apos.endLine == cpos.line) = true := by rfl)
    (hs : starEach [.Call (.Attribute e "values" apos) [] [] cpos] X.env = (false, eval (.Call (.Attribute e "values" apos) [] [] cpos) X.env) :: starEach [] X.env := by rfl) :
    PE X (.Call (.Name "list" p) [.Call (.Attribute e "values" apos) [] [] cpos] [] pos) (tListVals te) := by
  refine ⟨fun pins s σ H Q I hq => wpAny_Call_Name_kw (ld_blt I hg hm hv (PyProof.Rows.callWith_type1 ?_ hs rfl))⟩
  rw [hs]
  show wpAny _ _ (spliced ((false, eval (.Call (.Attribute e "values" apos) [] [] cpos) X.env) :: backTo pos (starEach [] X.env))) _ _ s
  refine Calls.spliced_cons ?_
  refine wpAny_Call_method (T := "dict") (id := "dict.values") hbase rfl hline F.plainAttrs_dict F.slot_dict_values F.type_dict_values (thn (he.run pins s σ H _ I hq) fun u s1 h1 => ?_)
  obtain ⟨x, H1, I1, rx, d, kvs, rfl, hd, q⟩ := h1
  obtain rfl : u = Value.ref d := rx
  obtain ⟨hz, lo, vs, kv, hdo⟩ := I1.hok d _ hd
  obtain ⟨ep, hat⟩ := hdo.dictAt
  have I2 : Inv X pins σ H1 { s1 with heap := s1.heap.push { cls := .type "dict_values", data := .fields #[.ref d] } } := I1.kept (t' := s1.toks) fun b ob q => Heap.get?_push_of_some _ q
  refine ⟨hdo.typeIs, hdo.mapOf.noDict, ?_⟩
  show wpAny _ _ (callWith cpos (.builtin "dict.values") [.ref d] [] []) _ X.xe s1
  refine method_meetsIn F.slot_dict_values F.entry_dict_values rfl (PySem.evalArgs_none ⟨rfl, hdo.typeIs, F.args_dict_values_1 _, _, meets_dict_values (mixKind X.prog X.w) d lo, ⟨vs, hdo⟩, ?_⟩)
  refine Calls.spliced_nil ?_
  refine PySem.W.kdl_call (PySem.W.kdl_values (knd := mixKind X.prog X.w) (kvs := vs) (ep := ep)) (I1.ok.hd hc) ⟨⟨_, Heap.get?_push_size _ rfl, rfl, rfl⟩, hat.push _⟩ (by rw [← kv.length]; exact hz) fun h' tk acc c hk hD hacc => ?_
  have hvs : Vals (kvs.map (·.2)) acc.toList := vals_at kv (by rw [Array.length_toList]; exact hacc.1) fun j v e => hacc.2 j v (by rw [← Array.getElem?_toList]; exact e)
  exact ⟨.ref _, _, I2.laid (t' := tk) (o := .lst (kvs.map (·.2))) hk (Nat.le_refl _) (show ObjOk X.prog X.w _ _ _ (.lst (kvs.map (·.2))) from ⟨by rw [List.length_map]; exact hz, acc.toList, c, hvs, by rw [Array.toArray_toList]; exact hD⟩), rfl, q _ (I2.hok.fresh (Nat.le_refl _))⟩
end
end G
namespace G
open PySem PySem.Spec PyProof.Rows L2
/-! ### stores and removals -/
def putX (xs : List (Key × (Int × Int))) (k : Key) (x : Int × Int) : List (Key × (Int × Int)) :=
  if (xs.any fun p => decide (p.1 = k)) = true then xs.map (fun p => if p.1 = k then (p.1, x) else p) else xs ++ [(k, x)]
def dropX (xs : List (Key × (Int × Int))) (k : Key) : List (Key × (Int × Int)) := xs.filter fun p => !decide (p.1 = k)
theorem Ent.any {R : RepP} {H : Hp} {ks : List (Key × V)} {xs : List (Key × (Int × Int))} (h : Ent R H ks xs) (k : Key) : (ks.any fun p => decide (p.1 = k)) = xs.any fun p => decide (p.1 = k) := by
  unfold Ent at h
  induction h with
  | nil => rfl
  | cons a _ ih => rw [List.any_cons, List.any_cons, ih, a.1]
theorem Ent.put {R : RepP} {H : Hp} {ks : List (Key × V)} {xs : List (Key × (Int × Int))} {k : Key} {v : V} {x : Int × Int} (h : Ent R H ks xs) (r : R H v x) : Ent R H (putK ks k v) (putX xs k x) := by
  unfold putK putX
  rw [h.any k]
  by_cases e : (xs.any fun p => decide (p.1 = k)) = true
  · rw [if_pos e, if_pos e]
    clear e
    unfold Ent at h ⊢
    induction h with
    | nil => exact .nil
    | @cons p q ps qs a _ ih =>
      refine .cons ?_ ih
      show (if p.1 = k then (p.1, v) else p).1 = (if q.1 = k then (q.1, x) else q).1 ∧ R H (if p.1 = k then (p.1, v) else p).2 (if q.1 = k then (q.1, x) else q).2
      by_cases c : p.1 = k
      · rw [if_pos c, if_pos (a.1 ▸ c)]
        exact ⟨a.1, r⟩
      · rw [if_neg c, if_neg (a.1 ▸ c)]
        exact a
  · rw [if_neg e, if_neg e]
    exact h.snoc r
theorem lk_put (xs : List (Key × (Int × Int))) (k j : Key) (x : Int × Int) : lk (putX xs k x) j = if j = k then some x else lk xs j := by
  unfold putX
  by_cases e : (xs.any fun p => decide (p.1 = k)) = true
  · rw [if_pos e]
    induction xs with
    | nil => simp at e
    | cons p ps ih =>
      rw [List.any_cons, Bool.or_eq_true] at e
      rw [List.map_cons]
      unfold lk at ih ⊢
      by_cases c : p.1 = k
      · rw [if_pos c]
        by_cases cj : j = k
        · rw [if_pos cj, List.find?_cons_of_pos (by simp [c, cj])]
          rfl
        · have n1 : ¬ (p.1 = j) := fun z => cj (z.symm.trans c)
          rw [if_neg cj, List.find?_cons_of_neg (by simpa using n1), List.find?_cons_of_neg (by simpa using n1)]
          by_cases ea : (ps.any fun p => decide (p.1 = k)) = true
          · have := ih ea
            rw [if_neg cj] at this
            exact this
          · have m : ps.map (fun p => if p.1 = k then (p.1, x) else p) = ps := by
              clear ih e
              induction ps with
              | nil => rfl
              | cons q qs ih =>
                rw [List.any_cons, Bool.or_eq_true, not_or] at ea
                rw [List.map_cons, ih ea.2, if_neg (fun z => ea.1 (decide_eq_true z))]
            rw [m]
      · have ea : (ps.any fun p => decide (p.1 = k)) = true := e.resolve_left fun z => c (of_decide_eq_true z)
        rw [if_neg c]
        by_cases cj : p.1 = j
        · have nj : ¬ j = k := fun z => c (cj.trans z)
          rw [if_neg nj, List.find?_cons_of_pos (by simpa using cj), List.find?_cons_of_pos (by simpa using cj)]
        · rw [List.find?_cons_of_neg (by simpa using cj), List.find?_cons_of_neg (by simpa using cj)]
          exact ih ea
  · rw [if_neg e]
    unfold lk
    rw [List.find?_append]
    by_cases cj : j = k
    · subst cj
      have z : xs.find? (fun p => decide (p.1 = j)) = none := by
        rw [List.find?_eq_none]
        intro p hp c
        exact e (List.any_eq_true.mpr ⟨p, hp, c⟩)
      rw [if_pos rfl, z]
      simp
    · have nk : ¬ k = j := fun z => cj z.symm
      rw [if_neg cj]
      cases hz : xs.find? (fun p => decide (p.1 = j)) with
      | some q => rfl
      | none => simp [nk]
theorem Ent.drop {R : RepP} {H : Hp} {ks : List (Key × V)} {xs : List (Key × (Int × Int))} {k : Key} (h : Ent R H ks xs) : Ent R H (dropK ks k) (dropX xs k) := by
  unfold Ent at h ⊢
  unfold dropK dropX
  induction h with
  | nil => exact .nil
  | @cons p q ps qs a _ ih =>
    by_cases c : p.1 = k
    · have c' : q.1 = k := a.1 ▸ c
      rw [List.filter_cons_of_neg (by simp [c]), List.filter_cons_of_neg (by simp [c'])]
      exact ih
    · have c' : ¬ q.1 = k := a.1 ▸ c
      rw [List.filter_cons_of_pos (by simp [c]), List.filter_cons_of_pos (by simp [c'])]
      exact .cons a ih
theorem lk_drop (xs : List (Key × (Int × Int))) (k j : Key) : lk (dropX xs k) j = if j = k then none else lk xs j := by
  unfold lk dropX
  induction xs with
  | nil => by_cases c : j = k <;> simp [c]
  | cons p ps ih =>
    by_cases c : p.1 = k
    · rw [List.filter_cons_of_neg (by simp [c]), ih]
      by_cases cj : j = k
      · rw [if_pos cj, if_pos cj]
      · rw [if_neg cj, if_neg cj, List.find?_cons_of_neg (by simpa using fun z => cj (z.symm.trans c))]
    · rw [List.filter_cons_of_pos (by simp [c])]
      by_cases cj : p.1 = j
      · have nj : ¬ j = k := fun z => c (cj.trans z)
        rw [if_neg nj, List.find?_cons_of_pos (by simpa using cj), List.find?_cons_of_pos (by simpa using cj)]
      · rw [List.find?_cons_of_neg (by simpa using cj), List.find?_cons_of_neg (by simpa using cj), ih]
end G
namespace G
open PySem PySem.Spec PyProof.Rows L2
/-- for k in d, d locked meanwhile; what else changes stands in Pv -/
theorem w_keys {td : TE} {g : TG} {tb : TS} {D : Ends} {σ : L2.St} {H : Hp} {d : Addr} {ks : List (Key × V)} (ha : H d = some (.dK ks)) (hv : ∀ (H' : Hp) (R : V → Hp → Prop), R (.ref d) H' → td σ H' R) (Pv : Obj → Nat → L2.St → Hp → Prop) (h0 : ∀ od, Pv od 0 σ (upd H d (.frz od (.dK ks))))
    (hl : ∀ od i σ' H', Pv od i σ' H' → H' d = some (.frz od (.dK ks)))
    (hs : ∀ (od : Obj) (i : Nat) (k : Key) (v : V) (σ' : L2.St) (H' : Hp), ks[i]? = some (k, v) → Pv od i σ' H' → g (kV k) σ' H' fun σ2 H2 =>
      tb { nx := Pv od (i + 1), ct := Pv od (i + 1), bk := fun σ3 H3 => H3 d = some (.frz od (.dK ks)) ∧ D.nx σ3 (upd H3 d (.dK ks)), rt := fun v H3 => H3 d = some (.frz od (.dK ks)) ∧ D.rt v (upd H3 d (.dK ks)) } σ2 H2)
    (hd : ∀ od σ' H', Pv od ks.length σ' H' → D.nx σ' (upd H' d (.dK ks))) : tLock (tFor (iKeys td) g tb) D σ H := by
  refine ⟨d, .dK ks, ha, True.intro, fun od => w_for (hv _ _ ⟨d, od, rfl, .inl ⟨ks, upd_same, ?_⟩⟩)⟩
  refine ⟨fun i m σ' H' => m = ks.length - i ∧ i ≤ ks.length ∧ Pv od i σ' H', ⟨ks.length, by omega, Nat.zero_le _, h0 od⟩, ?_⟩
  rintro i m σ' H' ⟨rfl, hi, p⟩
  have e := hl od i σ' H' p
  by_cases lt : i < ks.length
  · refine .inr ⟨⟨e, lt⟩, Pv od (i + 1), fun σ3 H3 b => ⟨ks.length - (i + 1), by omega, rfl, by omega, b⟩, ?_⟩
    rintro x H2 ⟨rfl, k, v, hk, rfl⟩
    exact hs od i k v σ' _ hk p
  · obtain rfl : i = ks.length := by omega
    exact .inl ⟨⟨e, Nat.le_refl _⟩, e, hd od _ _ p⟩
end G

/-! An operator whose right operand is of another own class. -/
namespace G
open PySem PySem.Calls PyProof.Rows Builtin PySem.W
section
variable {M : Model} {A : Around} {E : Value → Shared → Prop} {s : Shared} {K : Frag} {x C D L f g : Addr} {h₀ : Heap} {m : Str → Option Value} {ox : Obj} {od : Option Obj} {v : Value}
theorem inPy_K {h : Heap} {nm : String} (X : K.In h) (hs : findIn K (.ref C) (PySem.dunder nm) = some (some (.ref f))) (hr : findIn K (.ref C) (PySem.dunderR nm) = some none) : Looks M h (numberSlotInPython (.ref C) nm) true := by
  intro A Q E s k q
  unfold numberSlotInPython
  dsimp only
  refine wpAny_bind (looks_findIn X hs A _ E s k ?_)
  refine wpAny_bind (m := calledByName _ _ _) (wpAny_pure ?_)
  refine wpAny_bind (looks_findIn X hr A _ E s k ?_)
  refine wpAny_bind (m := calledByName _ _ _) (wpAny_pure ?_)
  exact wpAny_pure q
theorem fills_S {h : Heap} {nm : String} (X : K.In h) (hc : selfFirst K C = true) (hs : findIn K (.ref C) (PySem.dunder nm) = some (some (.ref f))) : Looks M h (fillsNumberSlot (.ref C) nm) true := by
  obtain ⟨cd, hcd, hm⟩ := any_some hc
  obtain ⟨rest, hm⟩ : ∃ rest, cd.mro = .ref C :: rest := by
    cases q : cd.mro with
    | nil => rw [q] at hm; cases hm
    | cons a r => rw [q] at hm; exact ⟨r, by rw [List.head?_cons] at hm; cases (beq_iff_eq.mp hm); rfl⟩
  exact fills_K X hcd hm hs
theorem binop_K2 {prog : Program} {w : World} {op : Operator} {b : Value} {Q : Value → Shared → Prop} (F : PyProof.Rows.Fr h₀ L s.heap m) (X₀ : K.In h₀) (I : InstAt s.heap x ox C od) (hb : Looks (model prog w) s.heap (typeOf b) (.ref D)) (hne : C ≠ D)
    (hc : selfFirst K C = true) (hd : selfFirst K D = true) (hs : findIn K (.ref C) (PySem.dunder op.info.2) = some (some (.ref f))) (hs' : findIn K (.ref D) (PySem.dunder op.info.2) = some (some (.ref g)))
    (hr : findIn K (.ref C) (PySem.dunderR op.info.2) = some none) (hr' : findIn K (.ref D) (PySem.dunderR op.info.2) = some none) (hsub : subIn K (.ref D) (.ref C) = some false) (hf : isFn K (.ref f) = true)
    (h : wpAny (model prog w) A (call (.ref f) [.ref x, b]) (PySem.W.CmpBack Q) E s) : wpAny (model prog w) A (binaryOp op (.ref x) b) Q E s := by
  have X := X₀.keeps F.keep
  unfold binaryOp
  refine wpAny_holding (wpAny_bind ?_)
  unfold binaryOp1
  refine wpAny_bind (I.type.here (wpAny_bind (hb.here (wpAny_bind ((fills_S X hc hs).here ?_)))))
  have ne : (Value.ref C == Value.ref D) = false := by simpa using hne
  simp only [ne, Bool.false_eq_true, if_false]
  refine wpAny_bind ((fills_S X hd hs').here ?_)
  simp only [Bool.and_self, if_true]
  refine wpAny_bind ((looks_subIn X hsub).here ?_)
  simp only [Bool.false_eq_true, if_false]
  simp only [Bool.not_false, Bool.and_self, if_true]
  refine wpAny_bind ((inPy_K X hs hr).here ?_)
  simp only [if_true]
  refine wpAny_bind ((inPy_K X hs' hr').here ?_)
  simp only [Bool.not_true, Bool.false_eq_true, if_false]
  refine wpAny_bind (m := tryMethod (.ref x) _ b) ?_
  unfold tryMethod
  refine wpAny_bind (special_fn X I hs (beq_iff_eq.mp hf) (wpAny_mono h (fun v s' hv => ?_) fun _ _ e => e))
  cases v <;> first | exact hv.elim | exact wpAny_pure (wpAny_pure (wpAny_pure hv))
end
end G
namespace G
open PySem PySem.Spec PyProof.Rows L2
section
variable {X : Cx} {k k' : Nat} {f f' C D : Addr} {fd fd' : FuncData} {ps ps' : List Str} {sp sp' : Sp} {E E' : XK} {op : Operator}
/-- what the operator looks up in the two classes -/
structure OpX (K : PySem.W.Frag) (C D : Addr) (op : Operator) (f g : Addr) : Prop where
  ne : C ≠ D
  at_ : OpM K C (PySem.dunder op.info.2) f
  at' : OpM K D (PySem.dunder op.info.2) g
  s1 : PySem.W.selfFirst K C = true
  s2 : PySem.W.selfFirst K D = true
  r1 : PySem.W.findIn K (.ref C) (PySem.dunderR op.info.2) = some none
  r2 : PySem.W.findIn K (.ref D) (PySem.dunderR op.info.2) = some none
  sub : PySem.W.subIn K (.ref D) (.ref C) = some false
def rOwn2 (C D : Addr) (sp : Sp) (E : XK) : R2 := fun x y H Q => ∃ a dx fs b dy gs, x = .ref a ∧ y = .ref b ∧ H a = some (.ins C dx fs) ∧ H b = some (.ins D dy gs) ∧ sp [x, y] H Q E
theorem op_own2 {g : Addr} {CX : CXT} (F : FnOk X.prog X.w X.K X.mg X.base CX k f fd ps sp) (hr : Room k X.A) (hb : Binds X.K fd ps []) (hx : Passes CX X E) (m : OpX X.K C D op f g) :
    OpR X (binaryOp op) (rOwn2 C D sp E) := by
  intro pins s σ H x y v u Q I rx ry h
  obtain ⟨a, dx, fs, b, dy, gs, rfl, rfl, ea, eb, q⟩ := h
  obtain rfl : v = Value.ref a := rx
  obtain rfl : u = Value.ref b := ry
  obtain ⟨mA, O, _⟩ := ins_get I.hok ea
  obtain ⟨od, J, _⟩ := O.look
  obtain ⟨mB, O2, _⟩ := ins_get I.hok eb
  obtain ⟨od2, J2, _⟩ := O2.look
  obtain ⟨mm, fr⟩ := I.fr
  refine binop_K2 fr I.ok.mod.kin J J2.type m.ne m.s1 m.s2 m.at_.at_ m.at'.at_ m.r1 m.r2 m.sub m.at_.fn ?_
  refine wpAny_mono (run_fn (us := [.ref a, .ref b]) (vs := [.ref a, .ref b]) F hr hb .nil hx I (.cons rfl (.cons rfl .nil)) q) (fun w s' hw => ?_) fun _ _ e => e
  obtain ⟨z, H', I', rz, qz⟩ := hw
  exact mono_rel rz ⟨z, H', I', rz, qz⟩
/-- v == x, x of a class; v of a built-in kind, or of another own class with an __eq__ -/
def rEqV (K : PySem.W.Frag) (C D : Addr) (sp sp' : Sp) (E E' : XK) : R2 := fun x y H Q => rEqR C sp E x y H Q ∨ rEqO K D sp' E' x y H Q
theorem op_eqV {CX CX' : CXT} (F : FnOk X.prog X.w X.K X.mg X.base CX k f fd ps sp) (F' : FnOk X.prog X.w X.K X.mg X.base CX' k' f' fd' ps' sp') (hr : Room k X.A) (hr' : Room k' X.A) (hb : Binds X.K fd ps []) (hb' : Binds X.K fd' ps' []) (hx : Passes CX X E) (hx' : Passes CX' X E')
    (m : OpM X.K C "__eq__" f) (m' : OpM X.K D "__eq__" f') (far : Far X.K C) : OpR X (compareOp .Eq) (rEqV X.K C D sp sp' E E') := by
  intro pins s σ H x y v u Q I rx ry h
  rcases h with h | h
  · exact op_eqR F hr hb hx m far pins s σ H x y v u Q I rx ry h
  · exact op_eqO F' hr' hb' hx' m' pins s σ H x y v u Q I rx ry h
def rNeV (K : PySem.W.Frag) (C D : Addr) (sp sp' : Sp) (E E' : XK) : R2 := fun x y H Q => rNeR C sp E x y H Q ∨ rNeO K D sp' E' x y H Q
theorem op_neV {CX CX' : CXT} (F : FnOk X.prog X.w X.K X.mg X.base CX k f fd ps sp) (F' : FnOk X.prog X.w X.K X.mg X.base CX' k' f' fd' ps' sp') (hr : Room (k + 1) X.A) (hr' : Room (k' + 1) X.A) (hb : Binds X.K fd ps []) (hb' : Binds X.K fd' ps' []) (hx : Passes CX X E) (hx' : Passes CX' X E')
    (m : OpM X.K C "__eq__" f) (m' : OpM X.K D "__eq__" f') (far : Far X.K C) (N : NeM X.K C) (N' : NeM X.K D) : OpR X (compareOp .NotEq) (rNeV X.K C D sp sp' E E') := by
  intro pins s σ H x y v u Q I rx ry h
  rcases h with h | h
  · exact op_neR F hr hb hx m N far pins s σ H x y v u Q I rx ry h
  · exact op_neO F' hr' hb' hx' m' N' pins s σ H x y v u Q I rx ry h
end
end G
namespace G
open PySem PySem.Spec PyProof.Rows L2
/-! ### amounts -/
abbrev Amt := List (Key × (Int × Int))
/-- keys from 0 to 7, each once, pairs in lowest terms above 0 -/
structure Am (n : Nat) (xs : Amt) : Prop where
  key : ∀ p ∈ xs, ∃ i : Nat, i < 8 ∧ p.1 = .inl (i : Int)
  lp : ∀ p ∈ xs, Lp n p.2
  pos : ∀ p ∈ xs, 0 < p.2.1
  nd : (xs.map (·.1)).Nodup
def nf (xs : Amt) : Amt := pick (lk xs) 8
theorem lk_mem {xs : Amt} {k : Key} {v : Int × Int} (h : lk xs k = some v) : (k, v) ∈ xs := by
  unfold lk at h
  rw [Option.map_eq_some_iff] at h
  obtain ⟨p, hp, e⟩ := h
  have m := List.mem_of_find?_eq_some hp
  have c := List.find?_some hp
  have c : p.1 = k := of_decide_eq_true c
  rw [← c, ← e]
  exact m
theorem mem_lk {xs : Amt} {k : Key} {v : Int × Int} (nd : (xs.map (·.1)).Nodup) (h : (k, v) ∈ xs) : lk xs k = some v := by
  induction xs with
  | nil => cases h
  | cons p ps ih =>
    rw [List.map_cons, List.nodup_cons] at nd
    rcases List.mem_cons.mp h with rfl | h
    · unfold lk; rw [List.find?_cons_of_pos (by simp)]; rfl
    · have c : ¬ p.1 = k := fun c => nd.1 (by rw [c]; exact List.mem_map.mpr ⟨_, h, rfl⟩)
      have := ih nd.2 h
      unfold lk at this ⊢
      rw [List.find?_cons_of_neg (by simpa using c)]
      exact this
theorem Am.nil {n : Nat} : Am n [] := ⟨nofun, nofun, nofun, List.nodup_nil⟩
theorem Am.mono {n m : Nat} {xs : Amt} (h : Am n xs) (e : n ≤ m) : Am m xs := ⟨h.key, fun p hp => (h.lp p hp).mono e, h.pos, h.nd⟩
theorem pick_nd {α : Type} {f : Key → Option α} : ∀ n, ((pick f n).map (·.1)).Nodup
  | 0 => List.nodup_nil
  | n + 1 => by
    rw [pick_succ, List.map_append, List.nodup_append]
    refine ⟨pick_nd n, ?_, ?_⟩
    · cases f (.inl (n : Int)) <;> simp
    · intro a ha b hb e
      subst e
      obtain ⟨p, hp, rfl⟩ := List.mem_map.mp ha
      obtain ⟨i, hi, e1, _⟩ := mem_pick.mp hp
      cases h : f (.inl (n : Int)) with
      | none => rw [h] at hb; simp at hb
      | some v =>
        rw [h] at hb
        simp at hb
        rw [e1] at hb
        injection hb with hb
        omega
theorem am_pick {n : Nat} {f : Key → Option (Int × Int)} (h : ∀ (i : Nat) v, i < 8 → f (.inl (i : Int)) = some v → Lp n v ∧ 0 < v.1) : Am n (pick f 8) := by
  refine ⟨fun p hp => ?_, fun p hp => ?_, fun p hp => ?_, pick_nd 8⟩
  · obtain ⟨i, hi, e, _⟩ := mem_pick.mp hp
    exact ⟨i, hi, e⟩
  · obtain ⟨i, hi, e, e2⟩ := mem_pick.mp hp
    rw [e] at e2
    exact (h i _ hi e2).1
  · obtain ⟨i, hi, e, e2⟩ := mem_pick.mp hp
    rw [e] at e2
    exact (h i _ hi e2).2
theorem Am.at_ {n : Nat} {xs : Amt} (h : Am n xs) {k : Key} {v : Int × Int} (e : lk xs k = some v) : Lp n v ∧ 0 < v.1 := ⟨h.lp _ (lk_mem e), h.pos _ (lk_mem e)⟩
theorem Am.nf {n : Nat} {xs : Amt} (h : Am n xs) : Am n (nf xs) := am_pick fun _ _ _ e => h.at_ e
theorem Am.put {n i : Nat} {xs : Amt} {x : Int × Int} (h : Am n xs) (hi : i < 8) (hx : Lp n x) (x0 : 0 < x.1) : Am n (putX xs (.inl (i : Int)) x) := by
  unfold putX
  by_cases e : (xs.any fun p => decide (p.1 = .inl (i : Int))) = true
  · rw [if_pos e]
    have q : ∀ p ∈ xs.map (fun p => if p.1 = Sum.inl (i : Int) then (p.1, x) else p), ∃ r ∈ xs, p.1 = r.1 ∧ (p.2 = x ∨ p.2 = r.2) := by
      intro p hp
      obtain ⟨r, hr, rfl⟩ := List.mem_map.mp hp
      refine ⟨r, hr, ?_⟩
      by_cases c : r.1 = Sum.inl (i : Int)
      · rw [if_pos c]; exact ⟨rfl, .inl rfl⟩
      · rw [if_neg c]; exact ⟨rfl, .inr rfl⟩
    refine ⟨fun p hp => ?_, fun p hp => ?_, fun p hp => ?_, ?_⟩
    · obtain ⟨r, hr, e1, _⟩ := q p hp
      rw [e1]; exact h.key r hr
    · obtain ⟨r, hr, _, e2 | e2⟩ := q p hp
      · rw [e2]; exact hx
      · rw [e2]; exact h.lp r hr
    · obtain ⟨r, hr, _, e2 | e2⟩ := q p hp
      · rw [e2]; exact x0
      · rw [e2]; exact h.pos r hr
    · have z : (xs.map (fun p => if p.1 = Sum.inl (i : Int) then (p.1, x) else p)).map (·.1) = xs.map (·.1) := by
        rw [List.map_map]
        refine List.map_congr_left fun p _ => ?_
        show (if p.1 = Sum.inl (i : Int) then (p.1, x) else p).1 = p.1
        split <;> rfl
      rw [z]; exact h.nd
  · rw [if_neg e]
    have ne : ∀ p ∈ xs, ¬ p.1 = Sum.inl (i : Int) := fun p hp c => e (List.any_eq_true.mpr ⟨p, hp, decide_eq_true c⟩)
    refine ⟨fun p hp => ?_, fun p hp => ?_, fun p hp => ?_, ?_⟩
    · rcases List.mem_append.mp hp with hp | hp
      · exact h.key p hp
      · rw [List.mem_singleton.mp hp]; exact ⟨i, hi, rfl⟩
    · rcases List.mem_append.mp hp with hp | hp
      · exact h.lp p hp
      · rw [List.mem_singleton.mp hp]; exact hx
    · rcases List.mem_append.mp hp with hp | hp
      · exact h.pos p hp
      · rw [List.mem_singleton.mp hp]; exact x0
    · rw [List.map_append, List.nodup_append]
      refine ⟨h.nd, by simp, fun a ha b hb z => ?_⟩
      obtain ⟨p, hp, rfl⟩ := List.mem_map.mp ha
      simp at hb
      exact ne p hp (z.trans hb)
theorem Am.drop {n : Nat} {xs : Amt} (h : Am n xs) (k : Key) : Am n (dropX xs k) := by
  unfold dropX
  refine ⟨fun p hp => h.key p (List.mem_filter.mp hp).1, fun p hp => h.lp p (List.mem_filter.mp hp).1, fun p hp => h.pos p (List.mem_filter.mp hp).1, ?_⟩
  exact List.Nodup.sublist (List.Sublist.map _ (List.filter_sublist)) h.nd
def kb (m : Nat) (k : Key) : Bool := match k with | .inl i => decide (0 ≤ i ∧ i < m) | .inr _ => false
theorem kb_succ (m : Nat) (k : Key) : kb (m + 1) k = (kb m k || decide (k = .inl (m : Int))) := by
  cases k with
  | inr _ => simp [kb]
  | inl i =>
    have e : decide ((Sum.inl i : Key) = .inl (m : Int)) = decide (i = m) := by
      by_cases h : i = m
      · simp [h]
      · have : ¬ (Sum.inl i : Key) = .inl (m : Int) := fun z => h (Sum.inl.inj z)
        simp [h, this]
    rw [e]
    unfold kb
    by_cases h : i = m
    · simp [h]; omega
    · have : (0 ≤ i ∧ i < ((m + 1 : Nat) : Int)) ↔ (0 ≤ i ∧ i < (m : Int)) := by omega
      rw [decide_eq_false h, Bool.or_false]
      exact decide_eq_decide.mpr this
theorem kb_self (m : Nat) : kb m (.inl (m : Int)) = false := by simp [kb]
theorem count_split (m : Nat) : ∀ xs : Amt, xs.countP (fun p => kb (m + 1) p.1) = xs.countP (fun p => kb m p.1) + xs.countP (fun p => decide (p.1 = .inl (m : Int)))
  | [] => rfl
  | p :: ps => by
    rw [List.countP_cons, List.countP_cons, List.countP_cons, count_split m ps, kb_succ]
    by_cases c : p.1 = .inl (m : Int)
    · rw [c, kb_self]; simp; omega
    · simp [c]; omega
theorem count_one {k : Key} : ∀ {xs : Amt}, (xs.map (·.1)).Nodup → xs.countP (fun p => decide (p.1 = k)) = (lk xs k).toList.length
  | [], _ => rfl
  | p :: ps, nd => by
    rw [List.map_cons, List.nodup_cons] at nd
    rw [List.countP_cons]
    have ih := count_one (k := k) nd.2
    by_cases c : p.1 = k
    · have z : ps.countP (fun p => decide (p.1 = k)) = 0 := by
        rw [List.countP_eq_zero]
        intro q hq e
        exact nd.1 (by rw [c, ← of_decide_eq_true e]; exact List.mem_map.mpr ⟨q, hq, rfl⟩)
      rw [z]
      unfold lk
      rw [List.find?_cons_of_pos (by simpa using c)]
      simp [c]
    · rw [ih]
      unfold lk
      rw [List.find?_cons_of_neg (by simpa using c)]
      simp [c]
theorem pick_count {xs : Amt} (nd : (xs.map (·.1)).Nodup) : ∀ m, (pick (lk xs) m).length = xs.countP (fun p => kb m p.1)
  | 0 => by
    symm
    show xs.countP _ = 0
    rw [List.countP_eq_zero]
    intro p _
    cases h : p.1 with
    | inr _ => simp [kb]
    | inl i => simp only [kb, decide_eq_true_eq]; omega
  | m + 1 => by
    rw [pick_succ, List.length_append, pick_count nd m, count_split, count_one nd]
    cases lk xs (.inl (m : Int)) <;> rfl
theorem Am.len {n : Nat} {xs : Amt} (h : Am n xs) : (G.nf xs).length = xs.length := by
  unfold G.nf
  rw [pick_count h.nd, List.countP_eq_length]
  intro p hp
  obtain ⟨i, hi, e⟩ := h.key p hp
  rw [e]
  simp [kb]
  omega
theorem Am.len8 {n : Nat} {xs : Amt} (h : Am n xs) : xs.length ≤ 8 := by
  rw [← h.len]
  exact pick_len
theorem dEq_nf {n m : Nat} {xs ys : Amt} (hx : Am n xs) (hy : Am m ys) : dEq xs ys = decide (nf xs = nf ys) := by
  unfold dEq
  have lx := hx.len
  have ly := hy.len
  by_cases h : nf xs = nf ys
  · rw [decide_eq_true h, Bool.and_eq_true, beq_iff_eq, List.all_eq_true]
    refine ⟨by rw [← lx, ← ly, h], fun p hp => decide_eq_true ?_⟩
    obtain ⟨i, hi, e⟩ := hx.key p hp
    have e1 : lk xs p.1 = some p.2 := mem_lk hx.nd hp
    rw [e] at e1 ⊢
    have e2 := lk_pick (n := 8) (f := lk xs) hi
    have e3 := lk_pick (n := 8) (f := lk ys) hi
    rw [← e3, ← e1, ← e2]
    show lk (nf ys) _ = lk (nf xs) _
    rw [h]
  · rw [decide_eq_false h]
    cases hz : (xs.length == ys.length && xs.all fun p => decide (lk ys p.1 = some p.2)) with
    | false => rfl
    | true =>
      rw [Bool.and_eq_true, beq_iff_eq, List.all_eq_true] at hz
      obtain ⟨hl, ha⟩ := hz
      have sub : ∀ (i : Nat) v, i < 8 → lk xs (.inl (i : Int)) = some v → lk ys (.inl (i : Int)) = some v := fun i v hi e => of_decide_eq_true (ha _ (lk_mem e))
      have q := (pick_le sub).2 (by
        have a : (pick (lk xs) 8).length = xs.length := lx
        have b : (pick (lk ys) 8).length = ys.length := ly
        omega)
      exact absurd (pick_congr q) h
theorem nf_eq {xs ys : Amt} (h : ∀ i : Nat, i < 8 → lk xs (.inl (i : Int)) = lk ys (.inl (i : Int))) : nf xs = nf ys := pick_congr h
theorem lk_nf {xs : Amt} {i : Nat} (hi : i < 8) : lk (nf xs) (.inl (i : Int)) = lk xs (.inl (i : Int)) := lk_pick hi
theorem nf_nf (xs : Amt) : nf (nf xs) = nf xs := nf_eq fun _ hi => lk_nf hi
theorem asc_nf (xs : Amt) : Asc 8 (nf xs) := asc_pick
theorem Asc.nf {xs : Amt} (h : Asc 8 xs) : nf xs = xs := h
end G
namespace G
open PySem PySem.Spec PyProof.Rows L2
/-! ### what the methods of mixtures promise -/
theorem jn0_pos {t y : Int × Int} (ht : 0 < t.1) (hy : 0 < y.1) (t2 : 0 < t.2) (y2 : 0 < y.2) : 0 < (jn 0 t y).1 := by
  rw [jn_add]
  obtain ⟨g, g0, e1, e2⟩ := low_parts (u := t.1 * y.2 + y.1 * t.2) (Int.mul_pos t2 y2)
  have p := Int.mul_pos ht y2
  have p' := Int.mul_pos hy t2
  generalize (low (t.1 * y.2 + y.1 * t.2) (t.2 * y.2)).1 = c at *
  by_cases hc : 0 < c
  · exact hc
  · have z := Int.mul_le_mul_of_nonneg_left (show c ≤ 0 by omega) (show 0 ≤ g by omega)
    rw [Int.mul_zero] at z
    omega
theorem jn0_zero {n : Nat} {y : Int × Int} (hy : Lp n y) : jn 0 (0, 1) y = y := by
  refine val_inj (jn_lp (.inl rfl) lp_zero hy) hy ?_
  rw [val_jn0 lp_zero hy, val_zero]
  grind
theorem jn0_zero' {n : Nat} {y : Int × Int} (hy : Lp n y) : jn 0 y (0, 1) = y := by
  refine val_inj (jn_lp (.inl rfl) hy lp_zero) hy ?_
  rw [val_jn0 hy lp_zero, val_zero]
  grind
def jnO : Option (Int × Int) → Option (Int × Int) → Option (Int × Int)
  | none, none => none
  | some x, none => some x
  | none, some y => some y
  | some x, some y => some (jn 0 x y)
def addM (xs ys : Amt) : Amt := pick (fun k => jnO (lk xs k) (lk ys k)) 8
def mulM (xs : Amt) (r : Int × Int) : Amt := pick (fun k => (lk xs k).map fun x => jn 2 x r) 8
theorem addM_am {n m : Nat} {xs ys : Amt} (hx : Am n xs) (hy : Am m ys) : Am (n + m + 1) (addM xs ys) := by
  refine am_pick fun i v hi e => ?_
  cases a : lk xs (.inl (i : Int)) with
  | none =>
    cases b : lk ys (.inl (i : Int)) with
    | none => rw [a, b] at e; cases e
    | some y => rw [a, b] at e; cases e; exact ⟨(hy.at_ b).1.mono (by omega), (hy.at_ b).2⟩
  | some x =>
    cases b : lk ys (.inl (i : Int)) with
    | none => rw [a, b] at e; cases e; exact ⟨(hx.at_ a).1.mono (by omega), (hx.at_ a).2⟩
    | some y =>
      rw [a, b] at e
      cases e
      exact ⟨jn_lp (.inl rfl) (hx.at_ a).1 (hy.at_ b).1, jn0_pos (hx.at_ a).2 (hy.at_ b).2 (hx.at_ a).1.1 (hy.at_ b).1.1⟩
theorem mulM_am {n m : Nat} {xs : Amt} {r : Int × Int} (hx : Am n xs) (hr : Lp m r) (r0 : 0 < r.1) : Am (n + m + 1) (mulM xs r) := by
  refine am_pick fun i v hi e => ?_
  cases a : lk xs (.inl (i : Int)) with
  | none => rw [a] at e; cases e
  | some x =>
    rw [a] at e
    cases e
    exact ⟨jn_lp (.inr (.inr rfl)) (hx.at_ a).1 hr, jn2_pos (hx.at_ a).2 r0 (hx.at_ a).1.1 hr.1⟩
theorem asc_addM {xs ys : Amt} : Asc 8 (addM xs ys) := asc_pick
theorem asc_mulM {xs : Amt} {r : Int × Int} : Asc 8 (mulM xs r) := asc_pick
def gt0 (xs : Amt) (k : Key) : Int × Int := (lk xs k).getD (0, 1)
theorem Am.gt0 {n : Nat} {xs : Amt} (h : Am n xs) (k : Key) : Lp (n + 1) (G.gt0 xs k) := by
  unfold G.gt0
  cases e : lk xs k with
  | none => exact lp_zero.mono (by omega)
  | some x => exact (h.at_ e).1.mono (by omega)
/-- the sums, put in one by one -/
def addF (xs ys : Amt) (zs : Amt) : Amt := zs.foldl (fun acc p => putX acc p.1 (jn 0 (gt0 xs p.1) (gt0 ys p.1))) xs
theorem addF_snoc (xs ys zs : Amt) (p : Key × (Int × Int)) : addF xs ys (zs ++ [p]) = putX (addF xs ys zs) p.1 (jn 0 (gt0 xs p.1) (gt0 ys p.1)) := by
  unfold addF
  rw [List.foldl_append]
  rfl
theorem lk_addF (xs ys : Amt) (k : Key) (zs : Amt) : ∀ acc : Amt, lk (zs.foldl (fun acc p => putX acc p.1 (jn 0 (gt0 xs p.1) (gt0 ys p.1))) acc) k = if (zs.any fun p => decide (p.1 = k)) = true then some (jn 0 (gt0 xs k) (gt0 ys k)) else lk acc k := by
  induction zs with
  | nil => intro acc; simp
  | cons p ps ih =>
    intro acc
    rw [List.foldl_cons, ih, List.any_cons, lk_put]
    by_cases c : p.1 = k
    · subst c
      by_cases d : (ps.any fun q => decide (q.1 = p.1)) = true
      · simp [d]
      · simp [d]
    · have c' : ¬ k = p.1 := fun z => c z.symm
      rw [if_neg c', decide_eq_false c, Bool.false_or]
theorem any_lk (xs : Amt) (k : Key) : (xs.any fun p => decide (p.1 = k)) = (lk xs k).isSome := by
  induction xs with
  | nil => rfl
  | cons p ps ih =>
    rw [List.any_cons, ih]
    unfold lk
    by_cases c : p.1 = k
    · rw [List.find?_cons_of_pos (by simpa using c)]; simp [c]
    · rw [List.find?_cons_of_neg (by simpa using c)]; simp [c]
theorem nf_addF {n m : Nat} {xs ys : Amt} (hx : Am n xs) (hy : Am m ys) : nf (addF xs ys ys) = addM xs ys := by
  refine pick_congr fun i hi => ?_
  unfold addF
  rw [lk_addF, any_lk]
  cases b : lk ys (.inl (i : Int)) with
  | none =>
    show lk xs _ = jnO (lk xs _) none
    cases lk xs (.inl (i : Int)) <;> rfl
  | some y =>
    have g : gt0 ys (.inl (i : Int)) = y := by unfold gt0; rw [b]; rfl
    rw [if_pos (show (some y).isSome = true from rfl), g]
    cases a : lk xs (.inl (i : Int)) with
    | none =>
      have g : gt0 xs (.inl (i : Int)) = (0, 1) := by unfold gt0; rw [a]; rfl
      rw [g, jn0_zero (hy.at_ b).1]
      rfl
    | some x =>
      have g : gt0 xs (.inl (i : Int)) = x := by unfold gt0; rw [a]; rfl
      rw [g]
      rfl
theorem am_addF {n : Nat} {xs ys : Amt} (hx : Am n xs) (hy : Am n ys) : ∀ zs : Amt, (∀ p ∈ zs, p ∈ ys) → Am (2 * n + 3) (addF xs ys zs) := by
  intro zs
  suffices h : ∀ acc : Amt, Am (2 * n + 3) acc → (∀ p ∈ zs, p ∈ ys) → Am (2 * n + 3) (zs.foldl (fun acc p => putX acc p.1 (jn 0 (gt0 xs p.1) (gt0 ys p.1))) acc) from h xs (hx.mono (by omega))
  induction zs with
  | nil => intro acc h _; exact h
  | cons p ps ih =>
    intro acc h s
    rw [List.foldl_cons]
    refine ih _ ?_ fun q hq => s q (List.mem_cons_of_mem _ hq)
    have m := s p List.mem_cons_self
    obtain ⟨i, hi, e⟩ := hy.key p m
    have l := mem_lk hy.nd (k := p.1) (v := p.2) m
    have g : gt0 ys p.1 = p.2 := by unfold gt0; rw [l]; rfl
    rw [e] at g ⊢
    rw [g]
    refine h.put hi ((jn_lp (.inl rfl) (hx.gt0 _) (hy.lp p m)).mono (by omega)) ?_
    unfold gt0
    cases a : lk xs (.inl (i : Int)) with
    | none =>
      show 0 < (jn 0 (0, 1) p.2).1
      rw [jn0_zero (hy.lp p m)]
      exact hy.pos p m
    | some x => exact jn0_pos (hx.at_ a).2 (hy.pos p m) (hx.at_ a).1.1 (hy.lp p m).1
/-! specs -/
/-- such a mixture whose dict was not there in H0 -/
def MixN (H0 : Hp) (M C : Addr) (H : Hp) (p : Addr) (xs : Amt) : Prop := ∃ dx d ks, H0 d = none ∧ H p = some (.ins M dx (putF "_amounts" (.ref d) [])) ∧ H d = some (.dK ks) ∧ Ent (RpR C) H ks xs ∧ Asc 8 xs
theorem MixN.mix {H0 H : Hp} {M C p : Addr} {xs : Amt} (h : MixN H0 M C H p xs) : Mix M C H p xs := let ⟨dx, d, ks, _, r⟩ := h; ⟨dx, d, ks, r⟩
theorem MixN.back {H0 H1 H : Hp} {M C p : Addr} {xs : Amt} (h : MixN H1 M C H p xs) (f : ∀ c, H1 c = none → H0 c = none) : MixN H0 M C H p xs := let ⟨dx, d, ks, n, r⟩ := h; ⟨dx, d, ks, f _ n, r⟩
theorem MixN.sameB {H0 H1 H : Hp} {M C p : Addr} {xs : Amt} (h : MixN H1 M C H p xs) (f : Same H0 H1) : MixN H0 M C H p xs := h.back fun _ n => f.free n
def spWithin : Sp := fun vs H Q _ => ∃ i l m : Int, vs = [.int i, .int l, .int m] ∧ Q (.bl (decide (l ≤ i ∧ i ≤ m))) H
def spIsSub : Sp := fun vs H Q _ => ∃ i : Int, vs = [.int i] ∧ Q (.bl (decide (0 ≤ i ∧ i ≤ 7))) H
def spCheckA (C : Addr) : Sp := fun vs H Q _ => ∃ d ks xs n, vs = [.ref d] ∧ H d = some (.dK ks) ∧ Ent (RpR C) H ks xs ∧ Am n xs ∧ ∀ H', Same H H' → Q .non H'
def spMInit (M C : Addr) : Sp := fun vs H Q _ => ∃ (p dx d : Addr) (ks : List (Key × V)) (xs : Amt) (n : Nat), vs = [.ref p, .ref d] ∧ H p = some (.ins M dx []) ∧ H d = some (.dK ks) ∧ Ent (RpR C) H ks xs ∧ Am n xs ∧
  ∀ D H', H D = none → Same H H' → H' D = some (.dK (pick (valV ks) 8)) → Q .non (upd H' p (.ins M dx (putF "_amounts" (.ref D) [])))
def spMVol (M C : Addr) : Sp := fun vs H Q _ => ∃ p xs n, vs = [.ref p] ∧ Mix M C H p xs ∧ Am n xs ∧ 9 * (n + 1) ≤ 3400 ∧ ∀ r H', H r = none → Same H H' → Rat C H' r (tot (xs.map (·.2))).1 (tot (xs.map (·.2))).2 → Q (.ref r) H'
def spMSubst (M C : Addr) : Sp := fun vs H Q _ => ∃ p xs, vs = [.ref p] ∧ Mix M C H p xs ∧ ∀ l H', H l = none → Same H H' → H' l = some (.lst (xs.map fun p => kV p.1)) → Q (.ref l) H'
def spMAmt (M C : Addr) : Sp := fun vs H Q _ => ∃ (p : Addr) (i : Int) (xs : Amt), vs = [.ref p, .int i] ∧ Mix M C H p xs ∧ 0 ≤ i ∧ i ≤ 7 ∧ ∀ r H', Same H H' → Rat C H' r (gt0 xs (.inl i)).1 (gt0 xs (.inl i)).2 → Q (.ref r) H'
def spMEq (K : PySem.W.Frag) (M C : Addr) : Sp := fun vs H Q _ =>
  (∃ p q xs ys, vs = [.ref p, .ref q] ∧ Mix M C H p xs ∧ Mix M C H q ys ∧ Q (.bl (decide (xs = ys))) H) ∨
  ∃ p xs v t, vs = [.ref p, v] ∧ Mix M C H p xs ∧ TyX K H v t ∧ PySem.W.kitOne K t (.ref M) = some false ∧ Q (.bl false) H
def spMAdd (M C : Addr) : Sp := fun vs H Q _ => ∃ p q xs ys n, vs = [.ref p, .ref q] ∧ Mix M C H p xs ∧ Mix M C H q ys ∧ Am n xs ∧ Am n ys ∧ n ≤ 3400 ∧ ∀ r H', H r = none → Same H H' → MixN H M C H' r (addM xs ys) → Q (.ref r) H'
def spMMul (M C : Addr) : Sp := fun vs H Q _ => ∃ p q xs r n, vs = [.ref p, .ref q] ∧ Mix M C H p xs ∧ Rat C H q r.1 r.2 ∧ Am n xs ∧ Lp n r ∧ 0 ≤ r.1 ∧ n ≤ 3400 ∧ ∀ z H', H z = none → Same H H' → MixN H M C H' z (if r.1 = 0 then [] else mulM xs r) → Q (.ref z) H'
theorem mix_fld (d : Addr) : (putF "_amounts" (V.ref d) []).lookup ("_amounts" : Str) = some (V.ref d) := by rw [lookup_putF, if_pos rfl]
theorem mix_nofld {d : Addr} {m : Str} (h : m ≠ "_amounts") : (putF "_amounts" (V.ref d) []).lookup m = none := by rw [lookup_putF, if_neg h]; rfl
/-- a mixture is made -/
theorem mix_of {M C d : Addr} {H : Hp} {ks : List (Key × V)} {xs : Amt} {n : Nat} {Q : Addr → Hp → Prop} {E : XK} (hd : H d = some (.dK ks)) (en : Ent (RpR C) H ks xs) (am : Am n xs) (q : ∀ x H2, H x = none → Same H H2 → MixN H M C H2 x (nf xs) → Q x H2) :
    ∀ x dx, H x = none → H dx = none → dx ≠ x → spMInit M C [.ref x, .ref d] (upd (upd H dx (.own x)) x (.ins M dx [])) (fun v H2 => v = .non ∧ Q x H2) E := by
  intro x dx hx hdx hne
  have e0 : Same H (upd (upd H dx (.own x)) x (.ins M dx [])) := fun c o h => by
    rw [upd_ne (ne_of_none h hx), upd_ne (ne_of_none h hdx)]
    exact h
  refine ⟨x, dx, d, ks, xs, n, rfl, upd_same, e0 _ _ hd, en.mono fun v x r => r.same e0, am, fun D H' nD e h => ⟨rfl, ?_⟩⟩
  have xD : x ≠ D := ne_of_none upd_same nD
  refine q x _ hx (fun c o h => ?_) ⟨dx, D, pick (valV ks) 8, e0.free nD, upd_same, ?_, ?_, asc_nf xs⟩
  · rw [upd_ne (ne_of_none h hx)]
    exact e _ _ (e0 _ _ h)
  · rw [upd_ne (Ne.symm xD)]
    exact h
  · refine (en.pick 8).mono fun v y r => ?_
    obtain ⟨a, rfl, da, ha⟩ := r
    exact ⟨a, rfl, da, by rw [upd_ne (ne_of_none ha hx)]; exact e _ _ (e0 _ _ ha)⟩
theorem Ent.get {R : RepP} {H : Hp} {ks : List (Key × V)} {xs : Amt} (h : Ent R H ks xs) {i : Nat} {k : Key} {v : V} (e : ks[i]? = some (k, v)) : ∃ x, xs[i]? = some (k, x) ∧ R H v x := by
  unfold Ent at h
  induction h generalizing i with
  | nil => cases e
  | @cons p q ps qs a _ ih =>
    cases i with
    | zero =>
      cases e
      exact ⟨q.2, by show some q = _; rw [show k = q.1 from a.1], a.2⟩
    | succ i => exact ih e
theorem Ent.len {R : RepP} {H : Hp} {ks : List (Key × V)} {xs : Amt} (h : Ent R H ks xs) : ks.length = xs.length := Paired.length h
theorem Ent.keys {R : RepP} {H : Hp} {ks : List (Key × V)} {xs : Amt} (h : Ent R H ks xs) : (ks.map fun kv => kV kv.1) = xs.map fun p => kV p.1 := by
  unfold Ent at h
  induction h with
  | nil => rfl
  | cons a _ ih => rw [List.map_cons, List.map_cons, ih, a.1]
theorem Ent.vals {C : Addr} {H : Hp} {ks : List (Key × V)} {xs : Amt} (h : Ent (RpR C) H ks xs) : Rats C H (ks.map (·.2)) (xs.map (·.2)) := by
  unfold Ent at h
  induction h with
  | nil => exact .nil
  | cons a _ ih =>
    obtain ⟨r, e, h⟩ := a.2
    rw [List.map_cons, List.map_cons, e]
    exact .cons h ih
theorem Ent.same {R : RepP} {H H' : Hp} {ks : List (Key × V)} {xs : Amt} (st : ∀ v x, R H v x → R H' v x) (h : Ent R H ks xs) : Ent R H' ks xs := h.mono st
theorem nf_vals (xs : Amt) (n : Nat) (h : ∀ p ∈ xs, Lp n p.2) : ∀ x ∈ xs.map (·.2), Lp n x := fun x hx => by
  obtain ⟨p, hp, rfl⟩ := List.mem_map.mp hx
  exact h p hp
end G
namespace G
open PySem PySem.Spec PyProof.Rows L2
/-! ### steps over dicts -/
section
variable {σ : L2.St} {H : Hp} {Q : VK} {D : Ends} {te td ty tv tx : TE} {d : Addr} {ks : List (Key × V)} {v : V} {i : Int}
theorem w_din (q : ty σ H fun y H1 => td σ H1 fun x H2 => ∃ a o, x = .ref a ∧ DGet H2 a y o ∧ Q (.bl o.isSome) H2) : tDIn ty td σ H Q := q
theorem w_dget (q : td σ H fun x H1 => ty σ H1 fun y H2 => ∃ a v, x = .ref a ∧ DGet H2 a y (some v) ∧ Q v H2) : tDGet td ty σ H Q := q
theorem w_dput (q : tv σ H fun v H1 => td σ H1 fun x H2 => ty σ H2 fun y H3 => ∃ a H4, x = .ref a ∧ DPut H3 a y v H4 ∧ D.nx σ H4) : sDPut td ty tv D σ H := q
theorem w_dpop2 (q : td σ H fun x H1 => ∃ a, x = .ref a ∧ IsD H1 a ∧ ty σ H1 fun y H2 => tx σ H2 fun z H3 => ∃ kvs k, H3 a = some (.dK kvs) ∧ y = kV k ∧ (∀ v, valV kvs k = some v → Q v (upd H3 a (.dK (dropK kvs k)))) ∧ (valV kvs k = none → Q z H3)) : tDPop2 td ty tx σ H Q := q
theorem w_dget2 (q : td σ H fun x H1 => ∃ a, x = .ref a ∧ IsD H1 a ∧ ty σ H1 fun y H2 => tx σ H2 fun z H3 => ∃ o, DGet H3 a y o ∧ Q (o.getD z) H3) : tDGet2 td ty tx σ H Q := q
theorem w_bm0 {K : PySem.W.Frag} {T : String} {r : V → List V → Hp → VK → Prop} {to : TE} (q : to σ H fun x H1 => tyV K T x H1 ∧ r x [] H1 Q) : tBM0 K T r to σ H Q := q
theorem w_listVals (q : te σ H fun x H1 => rValsL x H1 Q) : tListVals te σ H Q := q
theorem w_valsL (hd : H d = some (.dK ks)) (q : ∀ p H', H p = none → Same H H' → H' p = some (.lst (ks.map (·.2))) → Q (.ref p) H') : rValsL (.ref d) H Q := ⟨d, ks, rfl, hd, fun p np => q p _ np (same_new np) upd_same⟩
theorem w_listD (hd : H d = some (.dK ks)) (q : ∀ p H', H p = none → Same H H' → H' p = some (.lst (ks.map fun kv => kV kv.1)) → Q (.ref p) H') : rListD [.ref d] H Q := ⟨d, ks, rfl, hd, fun p np => q p _ np (same_new np) upd_same⟩
def rDictD : List V → Hp → VK → Prop := fun xs H Q => ∃ (a : Addr) (kvs : List (Key × V)), xs = [.ref a] ∧ Rd H a (.dK kvs) ∧ ∀ p, H p = none → Q (.ref p) (upd H p (.dK kvs))
theorem call_dictDo {X : Cx} : CallR X (.type "dict") rDictD := call_dictD
theorem w_dictD (hd : H d = some (.dK ks)) (q : ∀ p H', H p = none → Same H H' → H' p = some (.dK ks) → Q (.ref p) H') : rDictD [.ref d] H Q := ⟨d, ks, rfl, .inl hd, fun p np => q p _ np (same_new np) upd_same⟩
def rSortedD : List V → Hp → VK → Prop := fun xs H Q => ∃ (a : Addr) (kvs : List (Key × V)) (ks : List Int), xs = [.ref a] ∧ Rd H a (.dK kvs) ∧ kvs.map (·.1) = ks.map Sum.inl ∧ ks.length < 64 ∧
    ∀ (ys : List Int) (p : Addr), ys.Perm ks → ys.Pairwise (· ≤ ·) → H p = none → Q (.ref p) (upd H p (.lst (ys.map V.int)))
theorem call_sortedDo {X : Cx} (hcalm : X.calm = true) : CallR X (.builtin "sorted") rSortedD := call_sortedDI hcalm
theorem dget_of (hd : Rd H d (.dK ks)) (e : valV ks (.inl i) = some v) : DGet H d (.int i) (some v) := .inl ⟨ks, .inl i, hd, rfl, e.symm⟩
theorem dget_any (hd : Rd H d (.dK ks)) : DGet H d (.int i) (valV ks (.inl i)) := .inl ⟨ks, .inl i, hd, rfl, rfl⟩
theorem dput_of (hd : H d = some (.dK ks)) (hl : ks.length ≤ 1000) : DPut H d (.int i) v (upd H d (.dK (putK ks (.inl i) v))) := .inl ⟨ks, .inl i, hd, rfl, by rw [show sizeLine = 16777216 from sizeLine_eq]; omega, rfl⟩
end
end G
namespace G
open PySem PySem.Spec PyProof.Rows L2
theorem RpR.upd {C d : Addr} {H : Hp} {v : V} {x : Int × Int} {o o' : HO} (h : RpR C H v x) (hd : H d = some o) (n : ∀ dx fs, o ≠ .ins C dx fs) : RpR C (upd H d o') v x := by
  obtain ⟨r, e, dx, h⟩ := h
  exact ⟨r, e, dx, by rw [upd_ne (ne_of h hd (fun z => n _ _ z.symm))]; exact h⟩
theorem putX_new {xs : Amt} {k : Key} {x : Int × Int} (h : ∀ p ∈ xs, p.1 ≠ k) : putX xs k x = xs ++ [(k, x)] := by
  unfold putX
  rw [if_neg]
  intro z
  obtain ⟨p, hp, e⟩ := List.any_eq_true.mp z
  exact h p hp (of_decide_eq_true e)
theorem nd_take {ys : Amt} (nd : (ys.map (·.1)).Nodup) {i : Nat} {p : Key × (Int × Int)} (h : ys[i]? = some p) : ∀ q ∈ ys.take i, q.1 ≠ p.1 := by
  intro q hq e
  have s : ys.take i ++ [p] = ys.take (i + 1) := (take_snoc h).symm
  have nd' : ((ys.take (i + 1)).map (·.1)).Nodup := List.Nodup.sublist (List.Sublist.map _ (List.take_sublist _ _)) nd
  rw [← s, List.map_append, List.nodup_append] at nd'
  exact nd'.2.2 q.1 (List.mem_map.mpr ⟨q, hq, rfl⟩) p.1 (by simp) e
/-- {k: e for k, v in d.items()}, d locked meanwhile -/
theorem comp_items {C d : Addr} {σ : L2.St} {H : Hp} {Q : VK} {ks : List (Key × V)} {xs ys : Amt} {td tv : TE} {g : TG} {j : Nat} {vs : List Nat} (σs : Key → V → L2.St) (hd : H d = some (.dK ks)) (en : Ent (RpR C) H ks xs) (ly : xs.length = ys.length) (nd : (ys.map (·.1)).Nodup) (l8 : ys.length ≤ 1000)
    (hk : ∀ (i : Nat) (p q : Key × (Int × Int)), xs[i]? = some p → ys[i]? = some q → p.1 = q.1)
    (hv : ∀ (od : Obj) (R : V → Hp → Prop), R (.ref d) (upd H d (.frz od (.dK ks))) → td σ (upd H d (.frz od (.dK ks))) R) (hg : ∀ (T : Addr) (k : Key) (v : V) (H' : Hp) (R : L2.St → Hp → Prop), H' T = some (.tup [kV k, v]) → R (σs k v) H' → g (.ref T) (wipe σ vs) H' R) (hw : ∀ k v, wipe (σs k v) vs = wipe σ vs) (hj : ∀ k v, (σs k v)[j]? = some (some (kV k)))
    (hs : ∀ (od : Obj) (i : Nat) (k : Key) (v : V) (x y : Int × Int) (H' : Hp) (R : V → Hp → Prop), xs[i]? = some (k, x) → ys[i]? = some (k, y) → Same (upd H d (.frz od (.dK ks))) H' → RpR C H' v x → (∀ w H'', Same H' H'' → RpR C H'' w y → R w H'') → tv (σs k v) H' R)
    (q : ∀ D H' acc, H D = none → Same H H' → H' D = some (.dK acc) → Ent (RpR C) H' acc ys → Q (.ref D) H') : tLockE (tDc (iItems td) g tYes (tVar j) tv vs) σ H Q := by
  refine ⟨d, .dK ks, hd, True.intro, fun od => hv _ _ ⟨d, od, ks, rfl, upd_same, fun D nD => ⟨fun i m H' => m = ks.length - i ∧ i ≤ ks.length ∧ Same (upd H d (.frz od (.dK ks))) H' ∧ ∃ acc, H' D = some (.dK acc) ∧ Ent (RpR C) H' acc (ys.take i), ⟨ks.length, by omega, Nat.zero_le _, same_new nD, [], upd_same, .nil⟩, ?_⟩⟩⟩
  have lx := en.len
  have nD0 : H D = none := by
    cases h : H D with
    | none => rfl
    | some o =>
      have : D ≠ d := by
        intro z
        rw [z, upd_same] at nD
        cases nD
      rw [upd_ne this, h] at nD
      cases nD
  rintro i m H' ⟨rfl, hi, e, acc, hD, ea⟩
  have hl := same_locked e
  have dD : d ≠ D := ne_of_none upd_same nD
  by_cases lt : i < ks.length
  · refine .inr ⟨⟨hl, lt⟩, fun H' => Same (upd H d (.frz od (.dK ks))) H' ∧ ∃ acc, H' D = some (.dK acc) ∧ Ent (RpR C) H' acc (ys.take (i + 1)), fun H' ⟨a, b⟩ => ⟨ks.length - (i + 1), by omega, rfl, by omega, a, b⟩, ?_⟩
    rintro x H2 ⟨T, k, v, hki, rfl, hT, rfl⟩
    have e2 : Same H' (upd H' T (.tup [kV k, v])) := same_new hT
    refine hg T k v _ _ upd_same ⟨hw k v, w_yes (w_iteT rfl (w_var (hj k v) ?_))⟩
    obtain ⟨x, hx, r⟩ := (en.mono fun v x => still_R (C := C) H d od ks v x hd).get hki
    obtain ⟨y, hy⟩ : ∃ y, ys[i]? = some y := ⟨ys[i]'(by omega), by rw [List.getElem?_eq_getElem]⟩
    obtain ⟨k', y⟩ := y
    obtain rfl : k = k' := hk i _ _ hx hy
    refine hs od i k v x y _ _ hx hy (e.trans e2) (r.same (e.trans e2)) fun w H3 e3 rw_ => ?_
    have hD3 : H3 D = some (.dK acc) := e3 _ _ (e2 _ _ hD)
    have la := ea.len
    rw [List.length_take] at la
    refine ⟨acc, k, rfl, hD3, by rw [show sizeLine = 16777216 from sizeLine_eq]; omega, Fr.unseen nD ((e.trans e2).trans e3) Fr.at_, _, upd_same, ?_⟩
    rw [take_snoc hy, ← putX_new (nd_take nd hy)]
    exact Ent.put (ea.mono fun v x r => ((r.same e2).same e3).upd hD3 (fun _ _ z => nomatch z)) (rw_.upd hD3 (fun _ _ z => nomatch z))
  · obtain rfl : i = ks.length := by omega
    refine .inl ⟨⟨hl, Nat.le_refl _⟩, hl, ?_⟩
    rw [lx, ly, List.take_length] at ea
    refine q D _ acc nD0 (same_unlock hd e) ?_ (ea.mono fun v x r => r.upd hl (fun _ _ z => nomatch z))
    rw [upd_ne (Ne.symm dD)]
    exact hD
theorem lk_map (f : Int × Int → Int × Int) (xs : Amt) (k : Key) : lk (xs.map fun p => (p.1, f p.2)) k = (lk xs k).map f := by
  induction xs with
  | nil => rfl
  | cons p ps ih =>
    rw [List.map_cons]
    unfold lk at ih ⊢
    by_cases c : p.1 = k
    · rw [List.find?_cons_of_pos (by simpa using c), List.find?_cons_of_pos (by simpa using c)]; rfl
    · rw [List.find?_cons_of_neg (by simpa using c), List.find?_cons_of_neg (by simpa using c)]; exact ih
def mulF (xs : Amt) (r : Int × Int) : Amt := xs.map fun p => (p.1, jn 2 p.2 r)
theorem nf_mulF (xs : Amt) (r : Int × Int) : nf (mulF xs r) = mulM xs r := pick_congr fun i _ => lk_map (fun x => jn 2 x r) xs _
theorem mulF_keys (xs : Amt) (r : Int × Int) : (mulF xs r).map (·.1) = xs.map (·.1) := by unfold mulF; rw [List.map_map]; rfl
theorem am_mulF {n m : Nat} {xs : Amt} {r : Int × Int} (hx : Am n xs) (hr : Lp m r) (r0 : 0 < r.1) : Am (n + m + 1) (mulF xs r) := by
  refine ⟨fun p hp => ?_, fun p hp => ?_, fun p hp => ?_, by rw [mulF_keys]; exact hx.nd⟩
  · obtain ⟨q, hq, rfl⟩ := List.mem_map.mp hp
    exact hx.key q hq
  · obtain ⟨q, hq, rfl⟩ := List.mem_map.mp hp
    exact jn_lp (.inr (.inr rfl)) (hx.lp q hq) hr
  · obtain ⟨q, hq, rfl⟩ := List.mem_map.mp hp
    exact jn2_pos (hx.pos q hq) r0 (hx.lp q hq).1 hr.1
end G
namespace G
open PySem PySem.Spec PyProof.Rows L2
/-! ### dicts of pairs in the laws -/
theorem RpT.same {H H' : Hp} {v : V} {x : Int × Int} (h : RpT H v x) (e : Same H H') : RpT H' v x := let ⟨r, a, b⟩ := h; ⟨r, a, e _ _ b⟩
theorem RpT.fr {b : Nat} {a : Addr} {H H' : Hp} {v : V} {x : Int × Int} (h : RpT H v x) (s : Src b H a) (f : Fr a H H') : RpT H' v x := let ⟨r, a, b⟩ := h; ⟨r, a, tup_fr b s f⟩
theorem RpT.upd {d : Addr} {H : Hp} {v : V} {x : Int × Int} {o o' : HO} (h : RpT H v x) (hd : H d = some o) (n : ∀ xs, o ≠ .tup xs) : RpT (upd H d o') v x := by
  obtain ⟨r, e, h⟩ := h
  exact ⟨r, e, by rw [upd_ne (ne_of h hd (fun z => n _ z.symm))]; exact h⟩
theorem Ent.sameT {H H' : Hp} {ks : List (Key × V)} {xs : Amt} (h : Ent RpT H ks xs) (e : Same H H') : Ent RpT H' ks xs := h.mono fun _ _ r => r.same e
theorem Ent.frT {b : Nat} {a : Addr} {H H' : Hp} {ks : List (Key × V)} {xs : Amt} (h : Ent RpT H ks xs) (s : Src b H a) (f : Fr a H H') : Ent RpT H' ks xs := h.mono fun _ _ r => r.fr s f
theorem Ent.updT {d : Addr} {H : Hp} {ks : List (Key × V)} {xs : Amt} {o o' : HO} (h : Ent RpT H ks xs) (hd : H d = some o) (n : ∀ xs, o ≠ .tup xs) : Ent RpT (upd H d o') ks xs := h.mono fun _ _ r => r.upd hd n
theorem Ent.sameR {C : Addr} {H H' : Hp} {ks : List (Key × V)} {xs : Amt} (h : Ent (RpR C) H ks xs) (e : Same H H') : Ent (RpR C) H' ks xs := h.mono fun _ _ r => r.same e
theorem Ent.updR {C d : Addr} {H : Hp} {ks : List (Key × V)} {xs : Amt} {o o' : HO} (h : Ent (RpR C) H ks xs) (hd : H d = some o) (n : ∀ dx fs, o ≠ .ins C dx fs) : Ent (RpR C) (upd H d o') ks xs := h.mono fun _ _ r => r.upd hd n
theorem Fr.put {a l : Addr} {H H' : Hp} {o : HO} (f : Fr a H H') (n : H l = none) : Fr a H (upd H' l o) := fun c u nc h => by rw [upd_ne (ne_of_none h n)]; exact f c u nc h
theorem Src.upd {b : Nat} {a l : Addr} {H : Hp} {o : HO} (h : Src b H a) (n : a ≠ l) : Src b (upd H l o) a := h.fr n Fr.at_
theorem low_top {i j : Int} (hi : 0 < i) (h : 0 < j) : 0 < (low i j).1 := by
  have g := Int.gcd_pos_of_ne_zero_right i (show j ≠ 0 by omega)
  have d : (Int.gcd i j : Int) ∣ i := Int.gcd_dvd_left i j
  exact Int.ediv_pos_of_pos_of_dvd hi (by omega) d
theorem fr_unlock {H H' : Hp} {a d : Addr} {od : Obj} {ks : List (Key × V)} (ha : H d = some (.dK ks)) (e : Fr a (upd H d (.frz od (.dK ks))) H') : Fr a H (upd H' d (.dK ks)) := by
  intro b o n h
  by_cases c : b = d
  · subst c
    rw [ha] at h
    cases h
    exact upd_same
  · rw [upd_ne c]
    exact e _ _ n (by rw [upd_ne c]; exact h)
theorem w_rng {σ : L2.St} {H : Hp} {Q : VK} {n : Int} (h : 0 ≤ n ∧ n ≤ 1000) (q : ∀ l H', H l = none → Same H H' → H' l = some (.lst (rgV 0 n)) → Q (.ref l) H') : tLstRg (tRg1 (tC (.int n))) σ H Q :=
  ⟨n, rfl, RgOk.of_le (by decide) (by omega) (by decide) h.1, fun l nl => q l _ nl (same_new nl) upd_same⟩
theorem rg_mem {n : Int} {y : V} (h : y ∈ rgV 0 n) : ∃ j : Nat, (j : Int) < n ∧ y = .int (j : Int) := by
  unfold rgV at h
  obtain ⟨j, hj, rfl⟩ := List.mem_map.mp h
  have := List.mem_range.mp hj
  exact ⟨j, by omega, by rw [Int.zero_add]⟩
theorem w_g3 {K : PySem.W.Frag} {n i1 i2 i3 : Nat} {p : Addr} {u v w : V} {σ : L2.St} {H : Hp} {Q : L2.St → Hp → Prop} (h : SqT K H p [u, v, w]) (hn : n = 3) (q : Q (((σ.set i1 (some u)).set i2 (some v)).set i3 (some w)) H) :
    gTup K n (gCons (gName i1) (gCons (gName i2) (gCons (gName i3) gNil))) (.ref p) σ H Q := by
  subst hn
  exact ⟨p, _, rfl, h, rfl, u, [v, w], rfl, v, [w], rfl, w, [], rfl, rfl, q⟩
theorem seq_at {g : Int} {n : Nat} (h0 : 0 ≤ g) (h1 : g < n) : seqIndex? g n = some g.toNat := by
  unfold seqIndex?
  simp only [show ¬ g < 0 by omega, if_false]
  rw [if_pos (by simp; omega)]
section
variable {K : PySem.W.Frag} {M C p q : Addr} {H : Hp} {Q : VK} {E : XK} {xs ys : Amt} {y : V} {T : String}
theorem w_eqM (I : InsTy K M) (mx : Mix M C H p xs) (my : Mix M C H q ys) (k : Q (.bl (decide (xs = ys))) H) : rEqO K M (spMEq K M C) E (.ref p) (.ref q) H Q := by
  have mx0 := mx
  have my0 := my
  obtain ⟨dx, d, ks, hp, _⟩ := mx
  obtain ⟨dy, d', ls, hq, _⟩ := my
  exact ⟨p, dx, _, _, rfl, hp, I _ _ _ _ hq, by unfold PySem.W.notFirst; simp, .inl ⟨p, q, xs, ys, rfl, mx0, my0, k⟩⟩
theorem w_neM (I : InsTy K M) (mx : Mix M C H p xs) (my : Mix M C H q ys) (k : Q (.bl (!decide (xs = ys))) H) : rNeO K M (spMEq K M C) E (.ref p) (.ref q) H Q := by
  have mx0 := mx
  have my0 := my
  obtain ⟨dx, d, ks, hp, _⟩ := mx
  obtain ⟨dy, d', ls, hq, _⟩ := my
  exact ⟨p, dx, _, _, rfl, hp, I _ _ _ _ hq, by unfold PySem.W.notFirst; simp, .inl ⟨p, q, xs, ys, rfl, mx0, my0, _, rfl, k⟩⟩
end
def spAmounts : Sp := fun vs H Q _ => ∃ a b, vs = [.ref a] ∧ Src b H a ∧ b + 100 < 2 ^ 60 ∧ ∀ d ks xs H', H d = none → H' d = some (.dK ks) → Ent RpT H' ks xs → Am 104 xs → Src (b + 60) H' a → Fr a H H' → Q (.ref d) H'
def spMade (M C : Addr) : Sp := fun vs H Q _ => ∃ d ks xs n, vs = [.ref d] ∧ H d = some (.dK ks) ∧ Ent RpT H ks xs ∧ Am n xs ∧ n ≤ 3400 ∧ ∀ r H', H r = none → Same H H' → MixN H M C H' r (nf xs) → Q (.ref r) H'
def spBent : Sp := fun vs H Q _ => ∃ a d b ks xs, vs = [.ref a, .ref d] ∧ Src b H a ∧ b + 100 < 2 ^ 60 ∧ H d = some (.dK ks) ∧ Ent RpT H ks xs ∧ Am 104 xs ∧ ∀ e ls ys H', H e = none → H' e = some (.dK ls) → Ent RpT H' ls ys → Am 104 ys → Src (b + 20) H' a → Fr a H H' → Q (.ref e) H'
def spPR (M C : Addr) : Sp := fun vs H Q _ => ∃ p q xs ys b, vs = [.ref p, .ref q, .bl b] ∧ Mix M C H p xs ∧ Mix M C H q ys ∧ b = decide (xs = ys) ∧ ∀ H', Same H H' → Q (.bl true) H'
end G
namespace G
open PySem PySem.Spec PyProof.Rows L2
theorem w_par3 {i j l : Nat} {tr : TA} {D : Ends} {σ : L2.St} {H : Hp} (q : tr σ H fun vs H1 => ∃ u v w, vs = [u, v, w] ∧ D.nx (((σ.set i (some u)).set j (some v)).set l (some w)) H1) : tPar3 i j l tr D σ H := q
theorem w_three {a b c : V} {P : V → V → V → Prop} (q : P a b c) : ∃ u v w, [a, b, c] = [u, v, w] ∧ P u v w := ⟨a, b, c, rfl, q⟩
def BentI (b : Nat) (H : Hp) (a d e : Addr) (num way : Int) (o : Option V) (c : Nat) : L2.St → Hp → Prop := fun σ' H' => ∃ (t : Addr) (x : Int × Int) (ls : List (Key × V)) (ys : Amt),
  σ' = [some (.ref a), some (.ref d), some (.ref e), some (.int num), some (.int way), some (.ref t), o] ∧ H' t = some (.tup [.int x.1, .int x.2]) ∧ Lp 104 x ∧ 0 < x.1 ∧ H' e = some (.dK ls) ∧ Ent RpT H' ls ys ∧ Am 104 ys ∧ Src (b + c) H' a ∧ Fr a H H'
theorem isD_of {H : Hp} {a : Addr} {ks : List (Key × V)} (h : H a = some (.dK ks)) : IsD H a := .inl ⟨ks, .inl h⟩
end G
namespace G
open PySem PySem.Spec PyProof.Rows L2
section
variable {X : Cx} {k : Nat} {f C : Addr} {fd : FuncData} {ps : List Str} {sp : Sp} {E : XK}
/-- len(x) of one's own class -/
def rLenO (C : Addr) (sp : Sp) (E : XK) : List V → Hp → VK → Prop := fun xs H Q => ∃ a dx fs, xs = [.ref a] ∧ H a = some (.ins C dx fs) ∧ sp [.ref a] H (fun v H' => ∃ n : Nat, v = .int (n : Int) ∧ n < 2 ^ 62 ∧ Q (.int (n : Int)) H') E
theorem call_lenO {CX : CXT} (F : FnOk X.prog X.w X.K X.mg X.base CX k f fd ps sp) (hr : Room (k + 1) X.A) (hb : Binds X.K fd ps []) (hx : Passes CX X E) (m : OpM X.K C "__len__" f) : CallR X (.builtin "len") (rLenO C sp E) := by
  intro pins s σ H xs us Q I r h
  obtain ⟨a, dx, fs, rfl, ea, q⟩ := h
  obtain ⟨u, rfl, rx⟩ := vals1 r
  obtain rfl : u = Value.ref a := rx
  obtain ⟨mA, O, _⟩ := ins_get I.hok ea
  obtain ⟨od, J, _⟩ := O.look
  obtain ⟨mm, fr⟩ := I.fr
  refine PySem.W.len_K fr I.ok.mod.kin J m.at_ m.fn ?_
  refine wpAny_mono (run_in (A := X.A.in1) (us := [.ref a]) (vs := [.ref a]) F rfl hr.in1 hb hx I (.cons rfl .nil) q) (fun w s' hw => ?_) fun _ _ e => e
  obtain ⟨z, H', I', rz, n, ez, hn, qz⟩ := hw
  subst ez
  obtain ⟨t, rfl⟩ := (show ∃ t, w = Value.int n t from rz)
  exact ⟨⟨by omega, by omega⟩, .int n, H', I'.tok _, ⟨_, rfl⟩, qz⟩
end
end G
namespace G
open PySem PySem.Spec PyProof.Rows L2
def spMLen (M C : Addr) : Sp := fun vs H Q _ => ∃ p xs, vs = [.ref p] ∧ Mix M C H p xs ∧ Q (.int ((xs.length : Nat) : Int)) H
theorem w_lenD {H : Hp} {Q : VK} {d : Addr} {ks : List (Key × V)} (hd : H d = some (.dK ks)) (q : Q (.int ((ks.length : Nat) : Int)) H) : ∃ a kvs, [V.ref d] = [V.ref a] ∧ H a = some (.dK kvs) ∧ Q (.int ((kvs.length : Nat) : Int)) H := ⟨d, ks, rfl, hd, q⟩
theorem RpR.fr {C a : Addr} {b : Nat} {H H' : Hp} {v : V} {x : Int × Int} (h : RpR C H v x) (s : Src b H a) (f : Fr a H H') : RpR C H' v x := by
  obtain ⟨r, e, dx, h⟩ := h
  obtain ⟨_, _, _, h1, _⟩ := s
  exact ⟨r, e, dx, f _ _ (ne_of h h1 (by intro z; cases z)) h⟩
theorem Mix.fr {M C a p : Addr} {b : Nat} {H H' : Hp} {xs : Amt} (h : Mix M C H p xs) (s : Src b H a) (f : Fr a H H') : Mix M C H' p xs := by
  have s0 := s
  obtain ⟨dx, d, ks, hp, hd, en, asc⟩ := h
  obtain ⟨_, _, _, h1, _⟩ := s
  exact ⟨dx, d, ks, f _ _ (ne_of hp h1 (by intro z; cases z)) hp, f _ _ (ne_of hd h1 (by intro z; cases z)) hd, en.mono fun _ _ r => r.fr s0 f, asc⟩
theorem MixN.put {M C e p : Addr} {H0 H : Hp} {xs : Amt} {o : HO} {acc : List (Key × V)} {o' : HO} (h : MixN H0 M C H p xs) (h0 : H0 e = some o) (he : H e = some (.dK acc)) : MixN H0 M C (upd H e o') p xs := by
  obtain ⟨dx, d, ks, n, hp, hd, en, asc⟩ := h
  have de : d ≠ e := fun z => by rw [z, h0] at n; cases n
  exact ⟨dx, d, ks, n, by rw [upd_ne (ne_of hp he (by intro z; cases z))]; exact hp, by rw [upd_ne de]; exact hd, en.updR he (fun _ _ z => nomatch z), asc⟩
theorem MixN.same {M C p : Addr} {H0 H H' : Hp} {xs : Amt} (h : MixN H0 M C H p xs) (e : Same H H') : MixN H0 M C H' p xs :=
  let ⟨dx, d, ks, n, a, b, c, o⟩ := h; ⟨dx, d, ks, n, e _ _ a, e _ _ b, c.mono fun v x r => r.same e, o⟩
theorem RpT.frO {e : Addr} {H H' : Hp} {v : V} {x : Int × Int} {acc : List (Key × V)} (h : RpT H v x) (he : H e = some (.dK acc)) (f : Fr e H H') : RpT H' v x := let ⟨r, a, b⟩ := h; ⟨r, a, f _ _ (ne_of b he (by intro z; cases z)) b⟩
theorem w_sortedD {H : Hp} {Q : VK} {d : Addr} {ks : List (Key × V)} {is : List Int} (hd : H d = some (.dK ks)) (e : ks.map (·.1) = is.map Sum.inl) (l : is.length < 64) (q : ∀ (ys : List Int) (p : Addr) (H' : Hp), ys.Perm is → ys.Pairwise (· ≤ ·) → H p = none → Same H H' → H' p = some (.lst (ys.map V.int)) → Q (.ref p) H') : rSortedD [.ref d] H Q :=
  ⟨d, ks, is, rfl, .inl hd, e, l, fun ys p py sy np => q ys p _ py sy np (same_new np) upd_same⟩
theorem Ent.fst {R : RepP} {H : Hp} {ks : List (Key × V)} {xs : Amt} (h : Ent R H ks xs) : ks.map (·.1) = xs.map (·.1) := by
  unfold Ent at h
  induction h with
  | nil => rfl
  | cons a _ ih => rw [List.map_cons, List.map_cons, ih, a.1]
theorem sorted_facts {n : Nat} {xs : Amt} {is zs : List Int} (am : Am n xs) (e : xs.map (·.1) = is.map Sum.inl) (p : zs.Perm is) : zs.reverse.Nodup ∧ (∀ j, j ∈ zs.reverse ↔ (lk xs (.inl j)).isSome = true) ∧ is.length ≤ 8 := by
  have ln : is.length ≤ 8 := by
    have := am.len8
    have l := congrArg List.length e
    rw [List.length_map, List.length_map] at l
    omega
  have nd : is.Nodup := by
    have := am.nd
    rw [e] at this
    exact (List.pairwise_map.mp this).imp fun h z => h (by rw [z])
  refine ⟨(List.reverse_perm zs).nodup_iff.mpr (p.nodup_iff.mpr nd), fun j => ?_, ln⟩
  rw [List.mem_reverse, p.mem_iff, ← any_lk]
  constructor
  · intro h
    have : (Sum.inl j : Key) ∈ xs.map (·.1) := by rw [e]; exact List.mem_map.mpr ⟨j, h, rfl⟩
    obtain ⟨q, hq, eq⟩ := List.mem_map.mp this
    exact List.any_eq_true.mpr ⟨q, hq, decide_eq_true eq⟩
  · intro h
    obtain ⟨q, hq, eq⟩ := List.any_eq_true.mp h
    have : (Sum.inl j : Key) ∈ xs.map (·.1) := List.mem_map.mpr ⟨q, hq, of_decide_eq_true eq⟩
    rw [e] at this
    obtain ⟨z, hz, ez⟩ := List.mem_map.mp this
    rw [← Sum.inl.inj ez]
    exact hz
section
variable {K : PySem.W.Frag} {M C p q : Addr} {H : Hp} {Q : VK} {E : XK} {xs ys : Amt} {n : Nat}
theorem w_addM (mx : Mix M C H p xs) (my : Mix M C H q ys) (am : Am n xs) (am' : Am n ys) (hn : n ≤ 3400) (k : ∀ r H', H r = none → Same H H' → MixN H M C H' r (addM xs ys) → Q (.ref r) H') : rOwn M (spMAdd M C) E (.ref p) (.ref q) H Q := by
  have mx0 := mx
  have my0 := my
  obtain ⟨dx, d, ks, hp, _⟩ := mx
  obtain ⟨dy, d', ls, hq, _⟩ := my
  exact ⟨p, dx, _, q, dy, _, rfl, rfl, hp, hq, p, q, xs, ys, n, rfl, mx0, my0, am, am', hn, k⟩
theorem w_mulM {r : Int × Int} (mx : Mix M C H p xs) (R : Rat C H q r.1 r.2) (am : Am n xs) (lr : Lp n r) (r0 : 0 < r.1) (hn : n ≤ 3400) (k : ∀ z H', H z = none → Same H H' → MixN H M C H' z (mulM xs r) → Q (.ref z) H') : rOwn2 M C (spMMul M C) E (.ref p) (.ref q) H Q := by
  have mx0 := mx
  have R0 := R
  obtain ⟨dx, d, ks, hp, _⟩ := mx
  obtain ⟨dy, hq⟩ := R
  refine ⟨p, dx, _, q, dy, _, rfl, rfl, hp, hq, p, q, xs, r, n, rfl, mx0, R0, am, lr, by omega, hn, ?_⟩
  rw [if_neg (by omega)]
  exact k
end
theorem addM_nil {xs : Amt} (h : Asc 8 xs) : addM xs [] = xs := by
  refine Eq.trans ?_ h
  refine pick_congr fun i _ => ?_
  show jnO (lk xs _) none = _
  cases lk xs (.inl (i : Int)) <;> rfl
theorem mul_back {n : Nat} {xs : Amt} (am : Am n xs) (h : Asc 8 xs) : mulM (mulM xs (3, 1)) (1, 3) = xs := by
  refine Eq.trans ?_ h
  refine pick_congr fun i hi => ?_
  show (lk (mulM xs (3, 1)) _).map _ = _
  unfold mulM
  rw [lk_pick hi]
  cases e : lk xs (.inl (i : Int)) with
  | none => rfl
  | some x =>
    have lx := (am.at_ e).1
    have l3 : Lp 3 ((3 : Int), (1 : Int)) := ⟨by decide, by decide, by decide, by decide⟩
    have l4 : Lp 3 ((1 : Int), (3 : Int)) := ⟨by decide, by decide, by decide, by decide⟩
    have a := jn_lp (.inr (.inr rfl)) lx l3
    show some (jn 2 (jn 2 x (3, 1)) (1, 3)) = some x
    congr 1
    refine val_inj (jn_lp (.inr (.inr rfl)) a l4) lx ?_
    rw [val_jn2 a l4, val_jn2 lx l3]
    have e1 : val (3, 1) = 3 := by unfold val; decide +kernel
    have e2 : val (1, 3) * 3 = 1 := by unfold val; decide +kernel
    rw [e1]
    grind
theorem Am.ints {n : Nat} {xs : Amt} (h : Am n xs) : ∃ is : List Int, xs.map (·.1) = is.map Sum.inl := by
  obtain ⟨k, h1, h2, h3⟩ := h
  clear h1 h2 h3
  induction xs with
  | nil => exact ⟨[], rfl⟩
  | cons p ps ih =>
    obtain ⟨is, e⟩ := ih fun q hq => k q (List.mem_cons_of_mem _ hq)
    obtain ⟨i, _, ei⟩ := k p List.mem_cons_self
    exact ⟨(i : Int) :: is, by rw [List.map_cons, List.map_cons, e, ei]⟩
def sub (xs : Amt) (zs : List Int) : Amt := zs.map fun z => (Sum.inl z, gt0 xs (.inl z))
theorem lk_sub (xs : Amt) (j : Int) : ∀ zs : List Int, lk (sub xs zs) (.inl j) = if j ∈ zs then some (gt0 xs (.inl j)) else none
  | [] => by simp [sub, lk]
  | z :: zs => by
    have ih := lk_sub xs j zs
    unfold sub lk at ih ⊢
    rw [List.map_cons]
    by_cases c : z = j
    · subst c
      rw [List.find?_cons_of_pos (by simp)]
      simp
    · have c' : ¬ (Sum.inl z : Key) = .inl j := fun e => c (Sum.inl.inj e)
      rw [List.find?_cons_of_neg (by simpa using c'), ih]
      have c2 : ¬ j = z := fun e => c e.symm
      simp [c2]
theorem sub_snoc (xs : Amt) (zs : List Int) (z : Int) : sub xs (zs ++ [z]) = sub xs zs ++ [(Sum.inl z, gt0 xs (.inl z))] := by unfold sub; rw [List.map_append]; rfl
theorem am_sub {n : Nat} {xs : Amt} (am : Am n xs) {zs : List Int} (nd : zs.Nodup) (h : ∀ z ∈ zs, (lk xs (.inl z)).isSome = true) : Am n (sub xs zs) := by
  have g : ∀ z ∈ zs, lk xs (.inl z) = some (gt0 xs (.inl z)) := fun z hz => by
    have := h z hz
    unfold gt0
    cases e : lk xs (.inl z) with
    | none => rw [e] at this; cases this
    | some v => rfl
  refine ⟨fun p hp => ?_, fun p hp => ?_, fun p hp => ?_, ?_⟩
  · obtain ⟨z, hz, rfl⟩ := List.mem_map.mp hp
    exact am.key _ (lk_mem (g z hz))
  · obtain ⟨z, hz, rfl⟩ := List.mem_map.mp hp
    exact (am.at_ (g z hz)).1
  · obtain ⟨z, hz, rfl⟩ := List.mem_map.mp hp
    exact (am.at_ (g z hz)).2
  · unfold sub
    rw [List.map_map]
    exact List.Pairwise.map _ (fun a b (n : a ≠ b) e => n (Sum.inl.inj e)) nd
theorem nf_sub {xs : Amt} {zs : List Int} (h : ∀ j : Int, j ∈ zs ↔ (lk xs (.inl j)).isSome = true) : nf (sub xs zs) = nf xs := by
  refine nf_eq fun i hi => ?_
  rw [lk_sub]
  by_cases c : (i : Int) ∈ zs
  · rw [if_pos c]
    have := (h _).mp c
    unfold gt0
    cases e : lk xs (.inl (i : Int)) with
    | none => rw [e] at this; cases this
    | some v => rfl
  · rw [if_neg c]
    cases e : lk xs (.inl (i : Int)) with
    | none => rfl
    | some v => exact absurd ((h _).mpr (by rw [e]; rfl)) c
theorem sub_step {xs : Amt} {zs : List Int} {z : Int} (c : z ∉ zs) : addM (nf (sub xs zs)) (nf [(Sum.inl z, gt0 xs (.inl z))]) = nf (sub xs (zs ++ [z])) := by
  refine pick_congr fun i hi => ?_
  rw [lk_nf hi, lk_nf hi, lk_sub, lk_sub]
  by_cases e : (i : Int) = z
  · subst e
    rw [if_neg c, if_pos (by simp)]
    have : lk [((Sum.inl (i : Int) : Key), gt0 xs (.inl (i : Int)))] (.inl (i : Int)) = some (gt0 xs (.inl (i : Int))) := by unfold lk; rw [List.find?_cons_of_pos (by simp)]; rfl
    rw [this]
    rfl
  · have e' : ¬ (Sum.inl z : Key) = .inl (i : Int) := fun h => e (Sum.inl.inj h).symm
    have : lk [((Sum.inl z : Key), gt0 xs (.inl z))] (.inl (i : Int)) = none := by unfold lk; rw [List.find?_cons_of_neg (by simpa using e')]; rfl
    rw [this]
    by_cases m : (i : Int) ∈ zs
    · rw [if_pos m, if_pos (List.mem_append_left _ m)]; rfl
    · rw [if_neg m, if_neg (by simp [m, e])]; rfl
theorem w_dispI {trs : List (TE × TE)} {σ : L2.St} {H : Hp} {Q : VK} (q : ∀ p H1, H p = none → Same H H1 → H1 p = some (.dK []) → tPairs trs σ H1 fun ps H2 => H2 p = some (.dK []) ∧ ∃ kvs : List (Key × V), ps = kvs.map (fun kv => (kV kv.1, kv.2)) ∧ kvs.length ≤ 15 ∧ Q (.ref p) (upd H2 p (.dK (mergeK [] kvs)))) : tDisp trs σ H Q :=
  fun p np => q p _ np (same_new np) upd_same
theorem w_pairs1 {tk tv : TE} {σ : L2.St} {H : Hp} {R : List (V × V) → Hp → Prop} (q : tk σ H fun x H1 => tv σ H1 fun y H2 => R [(x, y)] H2) : tPairs [(tk, tv)] σ H R := q
theorem w_dispE {k : Int} {v : V} {p : Addr} {H : Hp} {Q : VK} (h : H p = some (.dK [])) (q : Q (.ref p) (upd H p (.dK [(Sum.inl k, v)]))) : H p = some (.dK []) ∧ ∃ kvs : List (Key × V), [(V.int k, v)] = kvs.map (fun kv => (kV kv.1, kv.2)) ∧ kvs.length ≤ 15 ∧ Q (.ref p) (upd H p (.dK (mergeK [] kvs))) :=
  ⟨h, [(Sum.inl k, v)], rfl, by show (1 : Nat) ≤ 15; decide, q⟩
end G
namespace G
open PySem PySem.Spec PyProof.Rows L2
theorem free_fr {e : Addr} {o : HO} {H0 H7 H Hd : Hp} (s : Same H0 H7) (f : Fr e H7 H) (he : H e = some o) (t : Same H Hd) : ∀ c, Hd c = none → H0 c = none := by
  intro c hc
  have h1 := t.free hc
  refine s.free ?_
  cases h : H7 c with
  | none => rfl
  | some u =>
    have ce : c ≠ e := fun z => by rw [z, he] at h1; cases h1
    rw [f _ _ ce h] at h1
    cases h1
theorem Am.one {n i : Nat} {x : Int × Int} (hi : i < 8) (hx : Lp n x) (x0 : 0 < x.1) : Am n [((Sum.inl (i : Int) : Key), x)] := Am.put (xs := []) Am.nil hi hx x0
end G
namespace G
open PySem PySem.Spec PyProof.Rows L2
theorem Src.neK {b : Nat} {H : Hp} {a d : Addr} {ks : List (Key × V)} (h : Src b H a) (hd : H d = some (.dK ks)) : d ≠ a := let ⟨_, _, _, h1, _⟩ := h; ne_of hd h1 (by intro z; cases z)
section
variable {K : PySem.W.Frag} {M C p r : Addr} {H : Hp} {Q : VK} {E E' : XK} {xs : Amt} {n : Nat} {y : V} {t : Value} {T : String} {x : Int × Int}
theorem w_eqMt (mx : Mix M C H p xs) (ty : TyX K H y t) (nf : PySem.W.notFirst K M t = true) (k : PySem.W.kitOne K t (.ref M) = some false) (w : Q (.bl false) H) : rEqO K M (spMEq K M C) E (.ref p) y H Q := by
  have mx0 := mx
  obtain ⟨dx, d, ks, hp, _⟩ := mx
  exact ⟨p, dx, _, t, rfl, hp, ty, nf, .inr ⟨p, xs, y, t, rfl, mx0, ty, k, w⟩⟩
theorem w_neMt (mx : Mix M C H p xs) (ty : TyX K H y t) (nf : PySem.W.notFirst K M t = true) (k : PySem.W.kitOne K t (.ref M) = some false) (w : Q (.bl true) H) : rNeO K M (spMEq K M C) E (.ref p) y H Q := by
  have mx0 := mx
  obtain ⟨dx, d, ks, hp, _⟩ := mx
  exact ⟨p, dx, _, t, rfl, hp, ty, nf, .inr ⟨p, xs, y, t, rfl, mx0, ty, k, false, rfl, w⟩⟩
theorem w_eqVp (mx : Mix M C H p xs) (h : Pl H y T) (k : PySem.W.kitOne K (.type T) (.ref M) = some false) (w : Q (.bl false) H) : rEqV K M C (spMEq K M C) (spEq K C) E E' y (.ref p) H Q := by
  have mx0 := mx
  obtain ⟨dx, d, ks, hp, _⟩ := mx
  exact .inl ⟨p, dx, _, T, rfl, hp, h, .inr ⟨p, xs, y, _, rfl, mx0, h.ty, k, w⟩⟩
theorem w_neVp (mx : Mix M C H p xs) (h : Pl H y T) (k : PySem.W.kitOne K (.type T) (.ref M) = some false) (w : Q (.bl true) H) : rNeV K M C (spMEq K M C) (spEq K C) E E' y (.ref p) H Q := by
  have mx0 := mx
  obtain ⟨dx, d, ks, hp, _⟩ := mx
  exact .inl ⟨p, dx, _, T, rfl, hp, h, .inr ⟨p, xs, y, _, rfl, mx0, h.ty, k, false, rfl, w⟩⟩
theorem w_eqVr (R : Rat C H r x.1 x.2) (ty : TyX K H (.ref p) (.ref M)) (nf : PySem.W.notFirst K C (.ref M) = true) (k : PySem.W.kitOne K (.ref M) (.ref C) = some false) (w : Q (.bl false) H) : rEqV K M C (spMEq K M C) (spEq K C) E E' (.ref r) (.ref p) H Q := by
  have R0 := R
  obtain ⟨dx, hr⟩ := R
  exact .inr ⟨r, dx, _, _, rfl, hr, ty, nf, .inr ⟨r, x, .ref p, _, rfl, R0, ty, k, w⟩⟩
theorem w_neVr (R : Rat C H r x.1 x.2) (ty : TyX K H (.ref p) (.ref M)) (nf : PySem.W.notFirst K C (.ref M) = true) (k : PySem.W.kitOne K (.ref M) (.ref C) = some false) (w : Q (.bl true) H) : rNeV K M C (spMEq K M C) (spEq K C) E E' (.ref r) (.ref p) H Q := by
  have R0 := R
  obtain ⟨dx, hr⟩ := R
  exact .inr ⟨r, dx, _, _, rfl, hr, ty, nf, .inr ⟨r, x, .ref p, _, rfl, R0, ty, k, false, rfl, w⟩⟩
theorem nf_of_sub {C D : Addr} (h : PySem.W.subIn K (.ref D) (.ref C) = some false) : PySem.W.notFirst K C (.ref D) = true := by
  unfold PySem.W.notFirst
  rw [h]
  simp
theorem Mix.ty (I : InsTy K M) (mx : Mix M C H p xs) : TyX K H (.ref p) (.ref M) := let ⟨_, _, _, hp, _⟩ := mx; I _ _ _ _ hp
/-- Mixture({k: Ratio(i, j)}) -/
theorem w_mix1 {σ : L2.St} {k : Nat} (hk : k < 8) {i j : Int} (hi : 0 < i) (hj : 0 < j) (bi : Bt 100 i) (bj : Bt 100 j) {dv vs : List V} {tr : TA} (ht : ∀ (H' : Hp) (R : List V → Hp → Prop), R vs H' → tr σ H' R) (hv : vs ++ dv = [.int i, .int j])
    (q : ∀ r H', H r = none → Same H H' → Mix M C H' r (nf [((Sum.inl (k : Int) : Key), low i j)]) → Q (.ref r) H') : tMake M (spMInit M C) [] E (tCons (tDisp [(tC (.int (k : Int)), tMake C (spInit C) dv E' tr)]) tNil) σ H Q := by
  refine w_make (w_cons (w_dispI fun p H1 np e1 h1 => w_pairs1 (w_c (w_make (ht _ _ ?_)))))
  rw [hv]
  refine ratio_of hj (bj.mono (by decide)) fun r H2 n2 e2 R => ⟨e2 _ _ h1, [(Sum.inl (k : Int), V.ref r)], rfl, (by show (1 : Nat) ≤ 15; decide), w_nil ?_⟩
  have hq : (upd H2 p (.dK (mergeK [] [(Sum.inl (k : Int), V.ref r)]))) p = some (.dK [(Sum.inl (k : Int), V.ref r)]) := upd_same
  have eq : Same H (upd H2 p (.dK (mergeK [] [(Sum.inl (k : Int), V.ref r)]))) := Fr.unseen np (e1.trans e2) Fr.at_
  have rr : RpR C (upd H2 p (.dK (mergeK [] [(Sum.inl (k : Int), V.ref r)]))) (.ref r) (low i j) := RpR.upd ⟨r, rfl, R⟩ (e2 _ _ h1) (fun _ _ z => nomatch z)
  generalize upd H2 p (.dK (mergeK [] [(Sum.inl (k : Int), V.ref r)])) = Hc at hq eq rr ⊢
  refine mix_of (xs := [((Sum.inl (k : Int) : Key), low i j)]) hq (.cons ⟨rfl, rr⟩ .nil) (Am.one hk (Lp.low hj bi bj) (low_top hi hj)) fun z H3 n3 e3 m3 => ?_
  exact q z H3 (eq.free n3) (eq.trans e3) m3.mix
end
end G

/-! What the laws show of mixtures. -/
namespace G
open PySem PySem.Spec PyProof.Rows L2
section
variable {X : Cx} {k : Nat} {f C : Addr} {fd : FuncData} {ps : List Str} {sp : Sp} {E : XK}
/-- x in an object of one's own class -/
def rInO (C : Addr) (sp : Sp) (E : XK) : R2 := fun x y H Q => ∃ a dx fs, y = .ref a ∧ H a = some (.ins C dx fs) ∧ sp [y, x] H (fun v H' => ∃ b, v = .bl b ∧ Q (.bl b) H') E
theorem op_inO {CX : CXT} (F : FnOk X.prog X.w X.K X.mg X.base CX k f fd ps sp) (hr : Room k X.A) (hb : Binds X.K fd ps []) (hx : Passes CX X E) (m : OpM X.K C "__contains__" f) : OpR X (compareOp .In) (rInO C sp E) := by
  intro pins s σ H x y v u Q I rx ry h
  obtain ⟨a, dx, fs, rfl, ea, q⟩ := h
  obtain rfl : u = Value.ref a := ry
  obtain ⟨mA, O, _⟩ := ins_get I.hok ea
  obtain ⟨od, J, _⟩ := O.look
  obtain ⟨mm, fr⟩ := I.fr
  refine PySem.W.in_K fr I.ok.mod.kin J m.at_ m.fn ?_
  refine wpAny_mono (run_fn (us := [.ref a, v]) (vs := [.ref a, x]) F hr hb .nil hx I (.cons rfl (.cons rx .nil)) q) (fun w s' hw => ?_) fun _ _ e => e
  obtain ⟨z, H', I', rz, b, ez, qz⟩ := hw
  subst ez
  cases (show w = Value.bool b from rz)
  exact wpAny_truthy_bool ⟨.bl b, H', I', rfl, qz⟩
end
/-- d != {} -/
def rNeE : R2 := fun x y H Q => ∃ a b ks, x = .ref a ∧ y = .ref b ∧ H a = some (.dK ks) ∧ H b = some (.dK []) ∧ Q (.bl (!ks.isEmpty)) H
theorem op_neE {X : Cx} (hu : X.A.units < cLine) : OpR X (compareOp .NotEq) rNeE := by
  intro pins s σ H x y v u Q I rx ry h
  obtain ⟨a, b, ks, rfl, rfl, ea, eb, q⟩ := h
  obtain rfl : v = Value.ref a := rx
  obtain rfl : u = Value.ref b := ry
  obtain ⟨_, ya, va, ra, da⟩ := (show ObjOk X.prog X.w H s.heap a (.dK ks) from I.hok a _ ea)
  obtain ⟨_, yb, vb, rb, db⟩ := (show ObjOk X.prog X.w H s.heap b (.dK []) from I.hok b _ eb)
  have l1 : ks.length = va.length := ra.length
  have l2 : ([] : List (Key × V)).length = vb.length := rb.length
  have l2 : vb.length = 0 := l2.symm
  refine PySem.W.keq_ne (knd := mixKind X.prog X.w) (r := true) ya yb da db hu (fun e => ?_) (fin_bl I q ?_)
  · have : va = [] := List.eq_nil_of_length_eq_zero (by omega)
    rw [this]
    exact .nil
  · rw [l2, ← l1]
    cases ks <;> rfl
/-! ### comprehensions -/
theorem kept_val {β : Type} {P : V → β → Prop} : Kept (fun _ v y => P v y) := ⟨fun h _ => h, fun h _ _ => h⟩
/-- [e for k in range(n)] -/
theorem w_lcRange {β : Type} {O : Hp → V → β → Prop} (KO : Kept O) {te : TE} {σ : L2.St} {Q : VK} {H1 : Hp} {j n : Nat} (ys : List β) (ly : ys.length = n) (hn : n ≤ 1000)
    (step : ∀ (k : Nat) y H' (R : VK), k < n → ys[k]? = some y → Same H1 H' → (∀ u H2, Same H' H2 → O H2 u y → R u H2) → te ((σ.set j none).set j (some (.int (k : Int)))) H' R)
    (q : ∀ L acc H', H1 L = none → Same H1 H' → H' L = some (.lst acc) → PL (O H') acc ys → Q (.ref L) H') : LcW (Itr 0 n) (gName j) tYes te [j] σ Q H1 := by
  intro L nL
  refine lc_range (fun i H' => Fills (fun L k acc H' => Same H1 H' ∧ PL (O H') acc (ys.take k) ∧ acc.length = k) L i H') ⟨[], upd_same, same_new nL, .nil, rfl⟩ ?_ ?_
  · rintro k H' hk ⟨acc, hL, e, ps, lk⟩
    obtain ⟨y, hy⟩ : ∃ y, ys[k]? = some y := ⟨ys[k]'(by omega), by rw [List.getElem?_eq_getElem]⟩
    refine ⟨?_, ?_⟩
    · show ((σ.set j none).set j (some (.int (0 + (k : Int))))).set j none = σ.set j none
      rw [List.set_set, List.set_set]
    · refine w_yes ?_
      refine w_iteT rfl ?_
      have z : ((0 : Int) + (k : Int)) = (k : Int) := Int.zero_add _
      rw [z]
      refine step k y H' _ hk hy e fun u H2 e2 o2 => ?_
      refine fills_more (Pv := fun L k acc H' => Same H1 H' ∧ PL (O H') acc (ys.take k) ∧ acc.length = k) (e2 _ _ hL) (by omega) fun H5 f5 h5 => ⟨Fr.unseen nL (e.trans e2) f5, ?_, by rw [List.length_append, lk]; rfl⟩
      rw [take_snoc hy]
      exact (ps.imp fun v y o => KO.fill (KO.same o e2) (e2 _ _ hL) f5).snoc (KO.fill o2 (e2 _ _ hL) f5)
  · rintro H' ⟨acc, hL, e, ps, _⟩
    rw [← ly, List.take_length] at ps
    exact q L acc H' nL e hL ps
/-- [e for x in a list if t], t never true -/
theorem w_lcNone {K : PySem.W.Frag} {tt : TT} {te : TE} {σ : L2.St} {Q : VK} {H1 : Hp} {t : Addr} {rs : List V} {j : Nat} (hl : H1 t = some (.lst rs))
    (step : ∀ (k : Nat) v H' (R : Bool → Hp → Prop), rs[k]? = some v → Same H1 H' → (∀ H2, Same H' H2 → R false H2) → tt ((σ.set j none).set j (some v)) H' R)
    (q : ∀ L H', H1 L = none → Same H1 H' → H' L = some (.lst []) → Q (.ref L) H') : LcW (Itl K t) (gName j) tt te [j] σ Q H1 := by
  intro L nL
  refine lc_list (K := K) (xs := rs) (fun i H' => Same H1 H' ∧ H' L = some (.lst [])) ⟨same_new nL, upd_same⟩ (fun i H' hi p => SqL.of (p.1 _ _ hl)) ?_ ?_
  · rintro k v H' hv ⟨e, hL⟩
    refine ⟨?_, ?_⟩
    · show ((σ.set j none).set j (some v)).set j none = σ.set j none
      rw [List.set_set, List.set_set]
    · refine step k v H' _ hv e fun H2 e2 => ?_
      rw [if_neg (by decide)]
      exact ⟨e.trans e2, e2 _ _ hL⟩
  · rintro H' ⟨e, hL⟩
    exact q L H' nL e hL
theorem PL.dps {β : Type} {K : PySem.W.Frag} {H : Hp} {O : V → β → Prop} {f : β → PyData} {vs : List V} {ys : List β} (h : PL O vs ys) (g : ∀ v y, O v y → Dp K H v (f y)) : DpAll K H vs (ys.map f) := by
  induction h with
  | nil => exact .nil
  | cons a _ ih => exact .cons (g _ _ a) ih
/-! ### the amounts in ascending order -/
theorem asc_unique : ∀ {l m : List Int}, l.Pairwise (· < ·) → m.Pairwise (· < ·) → (∀ x, x ∈ l ↔ x ∈ m) → l = m
  | [], [], _, _, _ => rfl
  | [], b :: m, _, _, h => by have := (h b).mpr List.mem_cons_self; cases this
  | a :: l, [], _, _, h => by have := (h a).mp List.mem_cons_self; cases this
  | a :: l, b :: m, hl, hm, h => by
    rw [List.pairwise_cons] at hl hm
    have ab : a = b := by
      have h1 := (h a).mp List.mem_cons_self
      have h2 := (h b).mpr List.mem_cons_self
      rcases List.mem_cons.mp h1 with h1 | h1
      · exact h1
      · rcases List.mem_cons.mp h2 with h2 | h2
        · exact h2.symm
        · have := hm.1 a h1
          have := hl.1 b h2
          omega
    subst ab
    congr 1
    refine asc_unique hl.2 hm.2 fun x => ?_
    constructor
    · intro hx
      have := hl.1 x hx
      rcases List.mem_cons.mp ((h x).mp (List.mem_cons_of_mem _ hx)) with e | e
      · omega
      · exact e
    · intro hx
      have := hm.1 x hx
      rcases List.mem_cons.mp ((h x).mpr (List.mem_cons_of_mem _ hx)) with e | e
      · omega
      · exact e
theorem pick_asc {α : Type} (f : Key → Option α) : ∀ n : Nat, ∃ js : List Int, (pick f n).map (·.1) = js.map Sum.inl ∧ js.Pairwise (· < ·) ∧ ∀ j ∈ js, 0 ≤ j ∧ j < n
  | 0 => ⟨[], rfl, .nil, nofun⟩
  | n + 1 => by
    obtain ⟨js, e, p, b⟩ := pick_asc f n
    rw [pick_succ, List.map_append, e]
    cases f (.inl (n : Int)) with
    | none => exact ⟨js, by simp, p, fun j hj => ⟨(b j hj).1, by have := (b j hj).2; omega⟩⟩
    | some v =>
      refine ⟨js ++ [(n : Int)], by simp, ?_, ?_⟩
      · rw [List.pairwise_append]
        refine ⟨p, by simp, fun a ha c hc => ?_⟩
        have := (b a ha).2
        simp at hc
        omega
      · intro j hj
        rcases List.mem_append.mp hj with hj | hj
        · have := b j hj; omega
        · simp at hj; omega
theorem sorted_nf {n : Nat} {xs : Amt} {is zs : List Int} (am : Am n xs) (e : xs.map (·.1) = is.map Sum.inl) (p : zs.Perm is) (s : zs.Pairwise (· ≤ ·)) : sub xs zs = nf xs := by
  obtain ⟨ndr, mem, _⟩ := sorted_facts am e p
  have nd : zs.Nodup := (List.reverse_perm zs).nodup_iff.mp ndr
  have lt : zs.Pairwise (· < ·) := (s.and nd).imp fun ⟨a, b⟩ => by omega
  obtain ⟨js, ej, pj, bj⟩ := pick_asc (lk xs) 8
  have ej : (nf xs).map (·.1) = js.map Sum.inl := ej
  have z : zs = js := by
    refine asc_unique lt pj fun x => ?_
    rw [← List.mem_reverse, mem]
    constructor
    · intro h
      cases c : lk xs (.inl x) with
      | none => rw [c] at h; cases h
      | some v =>
        obtain ⟨i, hi, ei⟩ := am.key _ (lk_mem c)
        have ei : (Sum.inl x : Key) = .inl (i : Int) := ei
        have m : ((Sum.inl x : Key), v) ∈ nf xs := mem_pick.mpr ⟨i, hi, ei, c⟩
        have : (Sum.inl x : Key) ∈ (nf xs).map (·.1) := List.mem_map.mpr ⟨_, m, rfl⟩
        rw [ej] at this
        obtain ⟨w, hw, ew⟩ := List.mem_map.mp this
        rw [← Sum.inl.inj ew]
        exact hw
    · intro h
      have : (Sum.inl x : Key) ∈ (nf xs).map (·.1) := by rw [ej]; exact List.mem_map.mpr ⟨x, h, rfl⟩
      obtain ⟨q, hq, eq⟩ := List.mem_map.mp this
      obtain ⟨i, hi, e1, e2⟩ := mem_pick.mp hq
      rw [← eq, e2]
      rfl
  rw [z]
  unfold sub
  have g : ∀ q ∈ nf xs, (q.1, gt0 xs q.1) = q := fun q hq => by
    obtain ⟨i, hi, e1, e2⟩ := mem_pick.mp hq
    unfold gt0
    rw [e2]
    rfl
  have h1 : js.map (fun z => ((Sum.inl z : Key), gt0 xs (.inl z))) = (js.map Sum.inl).map fun k => (k, gt0 xs k) := by rw [List.map_map]; rfl
  rw [h1, ← ej, List.map_map]
  conv => rhs; rw [← List.map_id (nf xs)]
  exact List.map_congr_left fun q hq => g q hq
/-! ### what is shown -/
def kD : Key → PyData
  | .inl i => .int i
  | .inr s => .str s
def shD (X : Amt) : PyData := .list [prd (tot (X.map (·.2))), .list (X.map fun p => kD p.1), .list ((List.range 8).map fun i : Nat => prd (gt0 X (.inl (i : Int)))), .int ((X.length : Nat) : Int), .list ((List.range 8).map fun i : Nat => .bool (lk X (.inl (i : Int))).isSome)]
theorem cntAll_le {m : Nat} : ∀ {ds : List PyData}, (∀ d ∈ ds, cnt d ≤ m) → cntAll ds ≤ m * ds.length
  | [], _ => by simp [cntAll]
  | d :: ds, h => by
    simp only [cntAll, List.length_cons]
    have h1 := h d List.mem_cons_self
    have h2 := cntAll_le fun e he => h e (List.mem_cons_of_mem _ he)
    rw [Nat.mul_succ]
    omega
end G
namespace G
open PySem PySem.Spec PyProof.Rows L2
theorem limAll_of : ∀ {ds : List PyData}, (∀ d ∈ ds, lim d) → limAll ds
  | [], _ => by simp only [limAll]
  | d :: ds, h => by
    simp only [limAll]
    exact ⟨h d List.mem_cons_self, limAll_of fun e he => h e (List.mem_cons_of_mem _ he)⟩
theorem depthAll_le {m : Nat} : ∀ {ds : List PyData}, (∀ d ∈ ds, d.depth ≤ m) → PyData.depthAll ds ≤ m
  | [], _ => by simp only [PyData.depthAll]; omega
  | d :: ds, h => by
    simp only [PyData.depthAll]
    have h1 := h d List.mem_cons_self
    have h2 := depthAll_le fun e he => h e (List.mem_cons_of_mem _ he)
    omega
theorem lim_list {ds : List PyData} (h : ∀ d ∈ ds, lim d) : lim (.list ds) := by simp only [lim]; exact limAll_of h
theorem lim_prd {n : Nat} {x : Int × Int} (h : Lp n x) (hn : n ≤ 1900) : lim (prd x) := h.lim (n := n) (decide_eq_true hn)
theorem gt0_lp {n : Nat} {X : Amt} (am : Am n X) (k : Key) : Lp (n + 1) (gt0 X k) := am.gt0 k
theorem tot_vals {n : Nat} {X : Amt} (am : Am n X) : Lp (9 * (n + 1)) (tot (X.map (·.2))) := by
  have lv := nf_vals X n am.lp
  refine (tot_lp lv).mono ?_
  rw [List.length_map]
  have := am.len8
  have := Nat.mul_le_mul_right (n + 1) this
  omega
theorem shD_lim {n : Nat} {X : Amt} (am : Am n X) (hn : 9 * (n + 1) ≤ 1900) : lim (shD X) := by
  unfold shD
  refine lim_list fun d hd => ?_
  simp only [List.mem_cons, List.not_mem_nil, or_false] at hd
  rcases hd with rfl | rfl | rfl | rfl | rfl
  · exact lim_prd (tot_vals am) hn
  · refine lim_list fun d hd => ?_
    obtain ⟨p, hp, rfl⟩ := List.mem_map.mp hd
    obtain ⟨i, hi, e⟩ := am.key p hp
    rw [e]
    simp only [kD, lim]
    exact Nat.lt_trans (show (i : Int).natAbs < 8 by omega) (by decide +kernel)
  · refine lim_list fun d hd => ?_
    obtain ⟨i, hi, rfl⟩ := List.mem_map.mp hd
    exact lim_prd (am.gt0 _) (by omega)
  · simp only [lim]
    have := am.len8
    exact Nat.lt_of_le_of_lt (show ((X.length : Nat) : Int).natAbs ≤ 8 by omega) (by decide +kernel)
  · refine lim_list fun d hd => ?_
    obtain ⟨i, hi, rfl⟩ := List.mem_map.mp hd
    simp only [lim]
theorem shD_cnt {n : Nat} {X : Amt} (am : Am n X) : decide (cnt (shD X) ≤ 8000) = true := by
  have l8 := am.len8
  have h1 : cnt (prd (tot (X.map (·.2)))) ≤ 4 := by simp only [prd, cnt, cntAll]; decide
  have h2 : cnt (.list (X.map fun p => kD p.1)) ≤ 9 := by
    simp only [cnt]
    have := cntAll_le (m := 1) (ds := X.map fun p => kD p.1) (fun d hd => by
      obtain ⟨p, hp, rfl⟩ := List.mem_map.mp hd
      obtain ⟨i, hi, e⟩ := am.key p hp
      rw [e]
      simp only [kD, cnt]
      decide)
    rw [List.length_map] at this
    omega
  have h3 : cnt (.list ((List.range 8).map fun i : Nat => prd (gt0 X (.inl (i : Int))))) ≤ 33 := by
    simp only [cnt]
    have := cntAll_le (m := 4) (ds := (List.range 8).map fun i : Nat => prd (gt0 X (.inl (i : Int)))) (fun d hd => by
      obtain ⟨i, hi, rfl⟩ := List.mem_map.mp hd
      simp only [prd, cnt, cntAll]; decide)
    rw [List.length_map, List.length_range] at this
    omega
  have h5 : cnt (.list ((List.range 8).map fun i : Nat => .bool (lk X (.inl (i : Int))).isSome)) ≤ 9 := by
    simp only [cnt]
    have := cntAll_le (m := 1) (ds := (List.range 8).map fun i : Nat => PyData.bool (lk X (.inl (i : Int))).isSome) (fun d hd => by
      obtain ⟨i, hi, rfl⟩ := List.mem_map.mp hd
      simp only [cnt]; decide)
    rw [List.length_map, List.length_range] at this
    omega
  refine decide_eq_true ?_
  have h4 : cnt (.int ((X.length : Nat) : Int)) = 1 := by simp only [cnt]
  unfold shD
  rw [show cnt (.list [prd (tot (X.map (·.2))), .list (X.map fun p => kD p.1), .list ((List.range 8).map fun i : Nat => prd (gt0 X (.inl (i : Int)))), .int ((X.length : Nat) : Int), .list ((List.range 8).map fun i : Nat => .bool (lk X (.inl (i : Int))).isSome)]) = cnt (prd (tot (X.map (·.2)))) + (cnt (.list (X.map fun p => kD p.1)) + (cnt (.list ((List.range 8).map fun i : Nat => prd (gt0 X (.inl (i : Int))))) + (cnt (.int ((X.length : Nat) : Int)) + (cnt (.list ((List.range 8).map fun i : Nat => .bool (lk X (.inl (i : Int))).isSome)) + 0)))) + 1 from by simp only [cnt, cntAll]]
  omega
theorem shD_depth {n : Nat} {X : Amt} (am : Am n X) : decide ((shD X).depth ≤ 40) = true := by
  refine decide_eq_true ?_
  unfold shD
  rw [show ∀ ds : List PyData, (PyData.list ds).depth = PyData.depthAll ds + 1 from fun ds => by simp only [PyData.depth]]
  refine Nat.succ_le_succ (depthAll_le (m := 39) fun d hd => ?_)
  simp only [List.mem_cons, List.not_mem_nil, or_false] at hd
  have hp : ∀ x : Int × Int, (prd x).depth ≤ 1 := fun x => by simp only [prd, PyData.depth, PyData.depthAll]; decide
  have hl : ∀ ds : List PyData, (∀ d ∈ ds, d.depth ≤ 1) → (PyData.list ds).depth ≤ 39 := fun ds h => by
    have := depthAll_le h
    simp only [PyData.depth]
    omega
  rcases hd with rfl | rfl | rfl | rfl | rfl
  · exact Nat.le_trans (hp _) (by decide)
  · refine hl _ fun d hd => ?_
    obtain ⟨p, hp, rfl⟩ := List.mem_map.mp hd
    obtain ⟨i, hi, e⟩ := am.key p hp
    rw [e]
    simp only [kD, PyData.depth]
    decide
  · refine hl _ fun d hd => ?_
    obtain ⟨i, hi, rfl⟩ := List.mem_map.mp hd
    exact hp _
  · simp only [PyData.depth]; decide
  · refine hl _ fun d hd => ?_
    obtain ⟨i, hi, rfl⟩ := List.mem_map.mp hd
    simp only [PyData.depth]
    decide
theorem w_reprSh {K : PySem.W.Frag} {H : Hp} {Q : VK} {a : Addr} {n : Nat} {X : Amt} (hd : Dp K H (.ref a) (shD X)) (am : Am n X) (hn : 9 * (n + 1) ≤ 1900) (q : Q (.str (shD X).shown) H) : rRepr K [.ref a] H Q := w_repr hd (shD_lim am hn) q (shD_cnt am) (shD_depth am)
/-! specs -/
def spMCont (M C : Addr) : Sp := fun vs H Q _ => ∃ (p : Addr) (i : Int) (xs : Amt) (n : Nat), vs = [.ref p, .int i] ∧ Mix M C H p xs ∧ Am n xs ∧ Q (.bl (lk xs (.inl i)).isSome) H
def spShown (K : PySem.W.Frag) (M C : Addr) : Sp := fun vs H Q _ => ∃ p xs n, vs = [.ref p] ∧ Mix M C H p xs ∧ Am n xs ∧ 9 * (n + 1) ≤ 1900 ∧ ∀ q H', H q = none → Same H H' → Dp K H' (.ref q) (shD xs) → Q (.ref q) H'
def spDue (K : PySem.W.Frag) : Sp := fun vs H Q _ => ∃ d ks xs n, vs = [.ref d] ∧ H d = some (.dK ks) ∧ Ent RpT H ks xs ∧ Am n xs ∧ 9 * (n + 1) ≤ 1900 ∧ ∀ q H', H q = none → Same H H' → Dp K H' (.ref q) (shD (nf xs)) → Q (.ref q) H'
end G
namespace G
open PySem PySem.Spec PyProof.Rows L2
/-! ### shares -/
theorem tot_pos_go {n : Nat} : ∀ (xs : List (Int × Int)) (m : Nat) (a : Int × Int), Lp m a → 0 < a.1 → (∀ x ∈ xs, Lp n x ∧ 0 < x.1) → 0 < (xs.foldl (jn 0) a).1
  | [], _, _, _, h, _ => h
  | x :: xs, m, a, la, h, hx => by
    have q := hx x List.mem_cons_self
    exact tot_pos_go xs (m + n + 1) (jn 0 a x) (jn_lp (.inl rfl) la q.1) (jn0_pos h q.2 la.1 q.1.1) fun y hy => hx y (List.mem_cons_of_mem _ hy)
theorem tot_pos {n : Nat} {X : Amt} (am : Am n X) (h : X ≠ []) : 0 < (tot (X.map (·.2))).1 := by
  cases X with
  | nil => exact absurd rfl h
  | cons p ps =>
    show 0 < ((ps.map (·.2)).foldl (jn 0) (jn 0 (0, 1) p.2)).1
    rw [jn0_zero (am.lp p List.mem_cons_self)]
    refine tot_pos_go (n := n) _ n p.2 (am.lp p List.mem_cons_self) (am.pos p List.mem_cons_self) fun x hx => ?_
    obtain ⟨q, hq, rfl⟩ := List.mem_map.mp hx
    exact ⟨am.lp q (List.mem_cons_of_mem _ hq), am.pos q (List.mem_cons_of_mem _ hq)⟩
def spMShare (M C : Addr) : Sp := fun vs H Q _ => ∃ (p : Addr) (i : Int) (xs : Amt) (n : Nat), vs = [.ref p, .int i] ∧ Mix M C H p xs ∧ Am n xs ∧ 9 * (n + 1) ≤ 3400 ∧ 0 ≤ i ∧ i ≤ 7 ∧ xs ≠ [] ∧
  ∀ r H', H r = none → Same H H' → Rat C H' r (qt (gt0 xs (.inl i)) (tot (xs.map (·.2)))).1 (qt (gt0 xs (.inl i)) (tot (xs.map (·.2)))).2 → Q (.ref r) H'
/-! ### products -/
theorem mulM_nf (xs : Amt) (r : Int × Int) : mulM (nf xs) r = mulM xs r := pick_congr fun i hi => by rw [lk_nf hi]
theorem lk_mulM {X : Amt} {r : Int × Int} {i : Nat} (hi : i < 8) : lk (mulM X r) (.inl (i : Int)) = (lk X (.inl (i : Int))).map fun x => jn 2 x r := lk_pick hi
theorem lk_addM {X Y : Amt} {i : Nat} (hi : i < 8) : lk (addM X Y) (.inl (i : Int)) = jnO (lk X (.inl (i : Int))) (lk Y (.inl (i : Int))) := lk_pick hi
theorem mulM_one {n : Nat} {X : Amt} (am : Am n X) (h : Asc 8 X) : mulM X (1, 1) = X := by
  refine Eq.trans ?_ h
  refine pick_congr fun i hi => ?_
  cases e : lk X (.inl (i : Int)) with
  | none => rfl
  | some x =>
    have lx := (am.at_ e).1
    show some (jn 2 x (1, 1)) = some x
    congr 1
    refine val_inj (jn_lp (.inr (.inr rfl)) lx lp_one) lx ?_
    rw [val_jn2 lx lp_one]
    have e1 : val (1, 1) = 1 := by unfold val; decide +kernel
    rw [e1]
    grind
theorem mulM_two {n : Nat} {X : Amt} (am : Am n X) : mulM X (2, 1) = addM X X := by
  refine pick_congr fun i hi => ?_
  cases e : lk X (.inl (i : Int)) with
  | none => rfl
  | some x =>
    have lx := (am.at_ e).1
    have l2 : Lp 3 ((2 : Int), (1 : Int)) := ⟨by decide, by decide, by decide, by decide⟩
    show some (jn 2 x (2, 1)) = some (jn 0 x x)
    congr 1
    refine val_inj (jn_lp (.inr (.inr rfl)) lx l2) (jn_lp (.inl rfl) lx lx) ?_
    rw [val_jn2 lx l2, val_jn0 lx lx]
    have e1 : val (2, 1) = 2 := by unfold val; decide +kernel
    rw [e1]
    grind
theorem mulM_addM {n : Nat} {X Y : Amt} {r : Int × Int} (ax : Am n X) (ay : Am n Y) (lr : Lp n r) : mulM (addM X Y) r = addM (mulM X r) (mulM Y r) := by
  refine pick_congr fun i hi => ?_
  rw [lk_addM hi, lk_mulM hi, lk_mulM hi]
  cases a : lk X (.inl (i : Int)) with
  | none => cases b : lk Y (.inl (i : Int)) <;> rfl
  | some x =>
    cases b : lk Y (.inl (i : Int)) with
    | none => rfl
    | some y =>
      have lx := (ax.at_ a).1
      have ly := (ay.at_ b).1
      show some (jn 2 (jn 0 x y) r) = some (jn 0 (jn 2 x r) (jn 2 y r))
      congr 1
      have l1 := jn_lp (.inl rfl) lx ly
      have l2 := jn_lp (.inr (.inr rfl)) lx lr
      have l3 := jn_lp (.inr (.inr rfl)) ly lr
      refine val_inj (jn_lp (.inr (.inr rfl)) l1 lr) (jn_lp (.inl rfl) l2 l3) ?_
      rw [val_jn2 l1 lr, val_jn0 l2 l3, val_jn0 lx ly, val_jn2 lx lr, val_jn2 ly lr]
      grind
theorem mulM_comm {n : Nat} {X : Amt} {r s : Int × Int} (ax : Am n X) (lr : Lp n r) (ls : Lp n s) : mulM (mulM X r) s = mulM (mulM X s) r := by
  refine pick_congr fun i hi => ?_
  rw [lk_mulM hi, lk_mulM hi]
  cases a : lk X (.inl (i : Int)) with
  | none => rfl
  | some x =>
    have lx := (ax.at_ a).1
    show some (jn 2 (jn 2 x r) s) = some (jn 2 (jn 2 x s) r)
    congr 1
    have l1 := jn_lp (.inr (.inr rfl)) lx lr
    have l2 := jn_lp (.inr (.inr rfl)) lx ls
    refine val_inj (jn_lp (.inr (.inr rfl)) l1 ls) (jn_lp (.inr (.inr rfl)) l2 lr) ?_
    rw [val_jn2 l1 ls, val_jn2 l2 lr, val_jn2 lx lr, val_jn2 lx ls]
    grind
theorem mulM_ne {X : Amt} {r : Int × Int} (h : Asc 8 X) (ne : X ≠ []) : mulM X r ≠ [] := by
  intro z
  have l : (mulM X r).length = (pick (lk X) 8).length := by
    unfold mulM pick
    simp only [List.length_filterMap_eq_countP]
    congr 1
    funext i
    cases lk X (.inl (i : Int)) <;> rfl
  rw [z, show pick (lk X) 8 = X from h] at l
  exact ne (List.eq_nil_of_length_eq_zero l.symm)
theorem vsum_map {n : Nat} {r : Int × Int} (lr : Lp n r) : ∀ xs : List (Int × Int), (∀ x ∈ xs, Lp n x) → vsum (xs.map fun x => jn 2 x r) = vsum xs * val r
  | [], _ => by
    show (0 : _root_.Rat) = 0 * val r
    grind
  | x :: xs, h => by
    show val (jn 2 x r) + vsum (xs.map fun x => jn 2 x r) = (val x + vsum xs) * val r
    rw [vsum_map lr xs fun y hy => h y (List.mem_cons_of_mem _ hy), val_jn2 (h x List.mem_cons_self) lr]
    grind
theorem mulM_eq {X : Amt} {r : Int × Int} (h : Asc 8 X) : mulM X r = mulF X r := by
  have e : mulM X r = (pick (lk X) 8).map fun p => (p.1, jn 2 p.2 r) := by
    unfold mulM pick
    rw [List.map_filterMap]
    congr 1
    funext i
    dsimp only
    cases lk X (.inl (i : Int)) <;> rfl
  rw [e, show pick (lk X) 8 = X from h]
  rfl
theorem tot_mulM {n : Nat} {X : Amt} {r : Int × Int} (am : Am n X) (h : Asc 8 X) (lr : Lp n r) : val (tot ((mulM X r).map (·.2))) = val (tot (X.map (·.2))) * val r := by
  rw [mulM_eq h]
  unfold mulF
  have e : (X.map fun p => (p.1, jn 2 p.2 r)).map (·.2) = (X.map (·.2)).map fun x => jn 2 x r := by rw [List.map_map, List.map_map]; rfl
  rw [e]
  have lv := nf_vals X n am.lp
  rw [tot_val (n := n + n + 1) (fun x hx => by
    obtain ⟨y, hy, rfl⟩ := List.mem_map.mp hx
    exact jn_lp (.inr (.inr rfl)) (lv y hy) lr), tot_val lv, vsum_map lr _ lv]
theorem share_mul {n : Nat} {X : Amt} {r : Int × Int} {i : Nat} (am : Am n X) (h : Asc 8 X) (lr : Lp n r) (r0 : 0 < r.1) (ne : X ≠ []) (hi : i < 8) :
    qt (gt0 (mulM X r) (.inl (i : Int))) (tot ((mulM X r).map (·.2))) = qt (gt0 X (.inl (i : Int))) (tot (X.map (·.2))) := by
  have ag := mulM_am am lr r0
  have t1 := tot_vals am
  have t2 := tot_vals ag
  have p1 := tot_pos am ne
  have p2 := tot_pos ag (mulM_ne h ne)
  have g1 := am.gt0 (.inl (i : Int))
  have g2 := ag.gt0 (.inl (i : Int))
  refine val_inj (qt_lp (g2.mono (Nat.le_refl _)) (t2.mono (Nat.le_refl _)) (by omega)) (qt_lp (g1.mono (Nat.le_refl _)) (t1.mono (Nat.le_refl _)) (by omega)) ?_
  rw [val_qt g2 t2 (by omega), val_qt g1 t1 (by omega), tot_mulM am h lr]
  have e : val (gt0 (mulM X r) (.inl (i : Int))) = val (gt0 X (.inl (i : Int))) * val r := by
    unfold gt0
    rw [lk_mulM hi]
    cases a : lk X (.inl (i : Int)) with
    | none =>
      show val (0, 1) = val (0, 1) * val r
      rw [val_zero]
      grind
    | some x => exact val_jn2 (am.at_ a).1 lr
  rw [e]
  have q1 := val_ne t1 (by omega)
  have q2 := val_ne lr (by omega)
  grind
end G
namespace G
open PySem PySem.Spec PyProof.Rows L2
theorem dp_keys {K : PySem.W.Frag} {H : Hp} : ∀ X : Amt, DpAll K H (X.map fun p => kV p.1) (X.map fun p => kD p.1)
  | [] => .nil
  | p :: ps => by
    refine .cons ?_ (dp_keys ps)
    obtain ⟨k, v⟩ := p
    cases k with
    | inl i => exact .int i
    | inr s => exact .str s
theorem sub_keys (xs : Amt) (zs : List Int) : (sub xs zs).map (fun p => kV p.1) = zs.map V.int := by unfold sub; rw [List.map_map]; rfl
theorem sub_vals (xs : Amt) (zs : List Int) : (sub xs zs).map (·.2) = zs.map fun z => gt0 xs (.inl z) := by unfold sub; rw [List.map_map]; rfl
theorem gt0_nf (xs : Amt) {i : Nat} (hi : i < 8) : gt0 (nf xs) (.inl (i : Int)) = gt0 xs (.inl (i : Int)) := by unfold gt0; rw [lk_nf hi]
end G
namespace G
open PySem PySem.Spec PyProof.Rows L2
def timesX (xs : Amt) (f : Int × Int) : Amt := if f.1 = 0 then [] else mulF xs f
def spTimes : Sp := fun vs H Q _ => ∃ (d t : Addr) (ks : List (Key × V)) (xs : Amt) (f : Int × Int) (n : Nat), vs = [.ref d, .ref t] ∧ H d = some (.dK ks) ∧ Ent RpT H ks xs ∧ Am n xs ∧ H t = some (.tup [.int f.1, .int f.2]) ∧ Lp n f ∧ 0 ≤ f.1 ∧ n ≤ 3000 ∧
  ∀ e ls H', H e = none → Same H H' → H' e = some (.dK ls) → Ent RpT H' ls (timesX xs f) → Q (.ref e) H'
theorem mulF_get {xs : Amt} {f : Int × Int} {i : Nat} {k : Key} {x : Int × Int} (h : xs[i]? = some (k, x)) : (mulF xs f)[i]? = some (k, jn 2 x f) := by
  unfold mulF
  rw [List.getElem?_map, h]
  rfl
theorem mulF_len (xs : Amt) (f : Int × Int) : (mulF xs f).length = xs.length := by unfold mulF; rw [List.length_map]
end G
namespace G
open PySem PySem.Spec PyProof.Rows L2
/-- a mixture times a ratio from 0 on -/
def mulP (X : Amt) (f : Int × Int) : Amt := if f.1 = 0 then [] else mulM X f
theorem mulP_am {n m : Nat} {X : Amt} {f : Int × Int} (am : Am n X) (lf : Lp m f) (f0 : 0 ≤ f.1) : Am (n + m + 1) (mulP X f) := by
  unfold mulP
  by_cases c : f.1 = 0
  · rw [if_pos c]; exact Am.nil
  · rw [if_neg c]; exact mulM_am am lf (by omega)
theorem mulP_asc {X : Amt} {f : Int × Int} : Asc 8 (mulP X f) := by
  unfold mulP
  by_cases c : f.1 = 0
  · rw [if_pos c]; rfl
  · rw [if_neg c]; exact asc_mulM
theorem mulP_pos {X : Amt} {f : Int × Int} (h : 0 < f.1) : mulP X f = mulM X f := by unfold mulP; rw [if_neg (by omega)]
theorem nf_times (xs : Amt) (f : Int × Int) : nf (timesX xs f) = mulP (nf xs) f := by
  unfold timesX mulP
  by_cases c : f.1 = 0
  · rw [if_pos c, if_pos c]; rfl
  · rw [if_neg c, if_neg c, nf_mulF, mulM_nf]
theorem am_times {n m : Nat} {X : Amt} {f : Int × Int} (am : Am n X) (lf : Lp m f) (f0 : 0 ≤ f.1) : Am (n + m + 1) (timesX X f) := by
  unfold timesX
  by_cases c : f.1 = 0
  · rw [if_pos c]; exact Am.nil
  · rw [if_neg c]; exact am_mulF am lf (by omega)
theorem mulP_addM {n : Nat} {X Y : Amt} {f : Int × Int} (ax : Am n X) (ay : Am n Y) (lf : Lp n f) : mulP (addM X Y) f = addM (mulP X f) (mulP Y f) := by
  unfold mulP
  by_cases c : f.1 = 0
  · rw [if_pos c, if_pos c, if_pos c]; rfl
  · rw [if_neg c, if_neg c, if_neg c]; exact mulM_addM ax ay lf
theorem mulP_comm {n : Nat} {X : Amt} {f s : Int × Int} (ax : Am n X) (lf : Lp n f) (ls : Lp n s) : mulM (mulP X f) s = mulP (mulM X s) f := by
  unfold mulP
  by_cases c : f.1 = 0
  · rw [if_pos c, if_pos c]; rfl
  · rw [if_neg c, if_neg c]; exact mulM_comm ax lf ls
section
variable {K : PySem.W.Frag} {M C p q : Addr} {H : Hp} {Q : VK} {E : XK} {xs ys : Amt} {n : Nat}
theorem w_mulP {r : Int × Int} (mx : Mix M C H p xs) (R : Rat C H q r.1 r.2) (am : Am n xs) (lr : Lp n r) (r0 : 0 ≤ r.1) (hn : n ≤ 3400) (k : ∀ z H', H z = none → Same H H' → MixN H M C H' z (mulP xs r) → Q (.ref z) H') : rOwn2 M C (spMMul M C) E (.ref p) (.ref q) H Q := by
  have mx0 := mx
  have R0 := R
  obtain ⟨dx, d, ks, hp, _⟩ := mx
  obtain ⟨dy, hq⟩ := R
  exact ⟨p, dx, _, q, dy, _, rfl, rfl, hp, hq, p, q, xs, r, n, rfl, mx0, R0, am, lr, r0, hn, k⟩
theorem w_eqMT (I : InsTy K M) (mx : Mix M C H p xs) (my : Mix M C H q ys) (e : xs = ys) (k : Q (.bl true) H) : rEqO K M (spMEq K M C) E (.ref p) (.ref q) H Q := w_eqM I mx my (by rw [decide_eq_true e]; exact k)
/-- len of a mixture -/
theorem w_lenM (mx : Mix M C H p xs) (am : Am n xs) (k : Q (.int ((xs.length : Nat) : Int)) H) : rLenO M (spMLen M C) E [.ref p] H Q := by
  have mx0 := mx
  obtain ⟨dx, d, ks, hp, _⟩ := mx
  exact ⟨p, dx, _, rfl, hp, p, xs, rfl, mx0, xs.length, rfl, Nat.lt_of_le_of_lt am.len8 (by decide), k⟩
theorem w_neEmp {a b : Addr} {ks : List (Key × V)} (ha : H a = some (.dK ks)) (hb : H b = some (.dK [])) (q : Q (.bl (!ks.isEmpty)) H) : rNeE (.ref a) (.ref b) H Q := ⟨a, b, ks, rfl, rfl, ha, hb, q⟩
end
theorem Rat.fr' {C p a : Addr} {b : Nat} {H H' : Hp} {i j : Int} (h : Rat C H p i j) (s : Src b H a) (f : Fr a H H') : Rat C H' p i j := by
  obtain ⟨dx, h⟩ := h
  obtain ⟨_, _, _, h1, _⟩ := s
  exact ⟨dx, f _ _ (ne_of h h1 (by intro z; cases z)) h⟩
end G
namespace G
open PySem PySem.Spec PyProof.Rows L2
theorem op_eqOK {X : Cx} {k : Nat} {f C : Addr} {fd : FuncData} {ps : List Str} {sp : Sp} {E : XK} {CX : CXT} {K : PySem.W.Frag} (hK : X.K = K) (F : FnOk X.prog X.w X.K X.mg X.base CX k f fd ps sp) (hr : Room k X.A) (hb : Binds X.K fd ps []) (hx : Passes CX X E) (m : OpM X.K C "__eq__" f) :
    OpR X (compareOp .Eq) (rEqO K C sp E) := by
  subst hK
  exact op_eqO F hr hb hx m
end G
namespace G
open PySem PySem.Spec PyProof.Rows L2
/-! ### any value -/
def NotW (K : PySem.W.Frag) (H : Hp) (x : V) : Prop := ∃ t c b, TyX K H x t ∧ PySem.W.kitOne K t (.type "int") = some c ∧ PySem.W.kitOne K t (.type "bool") = some b ∧ (c && !b) = false
def spWholeA (K : PySem.W.Frag) : Sp := fun vs H Q _ => ∃ x t c b, vs = [x] ∧ TyX K H x t ∧ PySem.W.kitOne K t (.type "int") = some c ∧ PySem.W.kitOne K t (.type "bool") = some b ∧ Q (.bl (c && !b)) H
def spWithinA (K : PySem.W.Frag) : Sp := fun vs H Q _ => ∃ (x : V) (l m : Int), vs = [x, .int l, .int m] ∧ ((∃ i : Int, x = .int i ∧ Q (.bl (decide (l ≤ i ∧ i ≤ m))) H) ∨ (NotW K H x ∧ Q (.bl false) H))
def spIsSubA (K : PySem.W.Frag) : Sp := fun vs H Q _ => ∃ x : V, vs = [x] ∧ ((∃ i : Int, x = .int i ∧ Q (.bl (decide (0 ≤ i ∧ i ≤ 7))) H) ∨ (NotW K H x ∧ Q (.bl false) H))
def spMContA (K : PySem.W.Frag) (M C : Addr) : Sp := fun vs H Q _ => ∃ (p : Addr) (x : V) (X : Amt) (n : Nat), vs = [.ref p, x] ∧ Mix M C H p X ∧ Am n X ∧ ((∃ i : Int, x = .int i ∧ Q (.bl (lk X (.inl i)).isSome) H) ∨ (NotW K H x ∧ Q (.bl false) H))
def spShares (K : PySem.W.Frag) (M C : Addr) : Sp := fun vs H Q _ => ∃ p d ks xs, vs = [.ref p, .ref d] ∧ Mix M C H p (nf xs) ∧ H d = some (.dK ks) ∧ Ent RpT H ks xs ∧ Am 104 xs ∧ xs ≠ [] ∧ ∀ H', Same H H' → Q (.bl true) H'
theorem lk_out {n : Nat} {X : Amt} (am : Am n X) {i : Int} (h : ¬ (0 ≤ i ∧ i ≤ 7)) : lk X (.inl i) = none := by
  cases e : lk X (.inl i) with
  | none => rfl
  | some v =>
    obtain ⟨j, hj, ej⟩ := am.key _ (lk_mem e)
    have := Sum.inl.inj ej
    omega
/-- what a shown list holds -/
theorem dp_fst {K : PySem.W.Frag} {H : Hp} {a : Addr} {d : PyData} {ds : List PyData} (h : Dp K H (.ref a) (.list (d :: ds))) : ∃ v vs, SqL K H a (v :: vs) ∧ Dp K H v d := by
  cases h with
  | lst hs hd =>
    cases hd with
    | cons h1 h2 => exact ⟨_, _, hs, h1⟩
theorem dp_prd {K : PySem.W.Frag} {H : Hp} {v : V} {x : Int × Int} (h : Dp K H v (prd x)) : ∃ a, v = .ref a ∧ SqT K H a [.int x.1, .int x.2] := by
  unfold prd at h
  cases h with
  | tup hs hd =>
    cases hd with
    | cons h1 h2 =>
      cases h2 with
      | cons h3 h4 =>
        cases h1
        cases h3
        cases h4
        exact ⟨_, rfl, hs⟩
theorem eqvAll_keys : ∀ X : Amt, PyData.eqvAll (X.map fun p => kD p.1) (X.map fun p => kD p.1) = true
  | [] => by simp only [List.map_nil, PyData.eqvAll]
  | p :: ps => by
    simp only [List.map_cons, PyData.eqvAll]
    rw [eqvAll_keys ps, Bool.and_true]
    cases p.1 <;> simp [kD, PyData.eqv]
theorem shaped_keys {n : Nat} {X : Amt} (am : Am n X) : SeqAt.shaped (.list (X.map fun p => kD p.1)) = true := by
  have key := am.key
  clear am
  have h1 : PyData.canLayAll0 (X.map fun p => kD p.1) = true := by
    induction X with
    | nil => simp only [List.map_nil, PyData.canLayAll0]
    | cons p ps ih =>
      simp only [List.map_cons, PyData.canLayAll0]
      rw [ih fun q hq => key q (List.mem_cons_of_mem _ hq), Bool.and_true]
      obtain ⟨i, _, e⟩ := key p List.mem_cons_self
      rw [e]
      simp only [kD, PyData.canLay0]
  have h2 : PyData.depthAll (X.map fun p => kD p.1) ≤ 0 := depthAll_le fun d hd => by
    obtain ⟨p, hp, rfl⟩ := List.mem_map.mp hd
    obtain ⟨i, _, e⟩ := key p hp
    rw [e]
    simp only [kD, PyData.depth]
    decide
  unfold SeqAt.shaped
  simp only [PyData.canLay0, PyData.depth, h1, Bool.true_and]
  exact decide_eq_true (by omega)
end G
namespace G
open PySem PySem.Spec PyProof.Rows L2
theorem atI_zero {v : V} {vs : List V} : atI (v :: vs) 0 = some v := by
  unfold atI ixN
  simp
theorem Same.seqT {K : PySem.W.Frag} {H H' : Hp} {a : Addr} {xs : List V} (e : Same H H') (h : SqT K H a xs) : SqT K H' a xs := by
  rcases h with (h | ⟨o, h⟩) | h
  · exact .inl (.inl (e _ _ h))
  · exact .inl (.inr ⟨o, e _ _ h⟩)
  · exact .inr h
end G
namespace G
open PySem PySem.Spec PyProof.Rows L2
theorem w_pairs2 {tk tv tk2 tv2 : TE} {σ : L2.St} {H : Hp} {R : List (V × V) → Hp → Prop} (q : tk σ H fun x H1 => tv σ H1 fun y H2 => tk2 σ H2 fun x2 H3 => tv2 σ H3 fun y2 H4 => R [(x, y), (x2, y2)] H4) : tPairs [(tk, tv), (tk2, tv2)] σ H R := q
/-- a value of these is not in a mixture -/
def OddV (H : Hp) (C mm : Addr) (v : V) : Prop := (∃ i : Int, v = .int i ∧ ¬ (0 ≤ i ∧ i ≤ 7)) ∨ (∃ t, Pl H v t ∧ t ≠ "int") ∨ v = .ref mm ∨ ∃ (r : Addr) (x : Int × Int), v = .ref r ∧ Rat C H r x.1 x.2
theorem OddV.same {H H' : Hp} {C mm : Addr} {v : V} (h : OddV H C mm v) (e : Same H H') : OddV H' C mm v := by
  rcases h with h | ⟨t, p, n⟩ | h | ⟨r, x, a, b⟩
  · exact .inl h
  · exact .inr (.inl ⟨t, p.same e, n⟩)
  · exact .inr (.inr (.inl h))
  · exact .inr (.inr (.inr ⟨r, x, a, b.same e⟩))
end G

/-! Lists of transfers. -/
namespace G
open PySem PySem.Spec PyProof.Rows L2
abbrev Tr := Int × Int × Int
/-- a tuple of three numbers -/
def T3 (H : Hp) (v : V) (x : Tr) : Prop := ∃ r, v = .ref r ∧ H r = some (.tup [.int x.1, .int x.2.1, .int x.2.2])
theorem T3.same {H H' : Hp} {v : V} {x : Tr} (h : T3 H v x) (e : Same H H') : T3 H' v x := let ⟨r, a, b⟩ := h; ⟨r, a, e _ _ b⟩
theorem T3.fr {H H' : Hp} {L : Addr} {zs : List V} {v : V} {x : Tr} (h : T3 H v x) (hL : H L = some (.lst zs)) (f : Fr L H H') : T3 H' v x := let ⟨r, a, b⟩ := h; ⟨r, a, f _ _ (ne_of b hL (by intro z; cases z)) b⟩
theorem kept_T3 : Kept T3 := ⟨fun h e => h.same e, fun h hL f => h.fr hL f⟩
/-- a transfer -/
structure Gd (x : Tr) : Prop where
  a : 0 ≤ x.1 ∧ x.1 < 8
  b : 0 ≤ x.2.1 ∧ x.2.1 < 8
  c : 1 ≤ x.2.2 ∧ x.2.2 ≤ 1000000
  n : x.1 ≠ x.2.1
abbrev Ts (H : Hp) (vs : List V) (ts : List Tr) : Prop := PL (T3 H) vs ts
theorem PL.len {β : Type} {O : V → β → Prop} {vs : List V} {ys : List β} (h : PL O vs ys) : vs.length = ys.length := by
  induction h with
  | nil => rfl
  | cons _ _ ih => rw [List.length_cons, List.length_cons, ih]
theorem PL.get {β : Type} {O : V → β → Prop} {vs : List V} {ys : List β} (h : PL O vs ys) : ∀ {k : Nat} {v : V}, vs[k]? = some v → ∃ y, ys[k]? = some y ∧ O v y := by
  induction h with
  | nil => intro k v e; cases e
  | cons a _ ih =>
    intro k v e
    cases k with
    | zero => cases e; exact ⟨_, rfl, a⟩
    | succ k => exact ih e
theorem PL.gety {β : Type} {O : V → β → Prop} {vs : List V} {ys : List β} (h : PL O vs ys) : ∀ {k : Nat} {y : β}, ys[k]? = some y → ∃ v, vs[k]? = some v ∧ O v y := by
  induction h with
  | nil => intro k v e; cases e
  | cons a _ ih =>
    intro k v e
    cases k with
    | zero => cases e; exact ⟨_, rfl, a⟩
    | succ k => exact ih e
theorem PL.take {β : Type} {O : V → β → Prop} {vs : List V} {ys : List β} (h : PL O vs ys) : ∀ k, PL O (vs.take k) (ys.take k) := by
  induction h with
  | nil => intro k; rw [List.take_nil, List.take_nil]; exact .nil
  | cons a _ ih =>
    intro k
    cases k with
    | zero => exact .nil
    | succ k => exact .cons a (ih k)
theorem PL.app {β : Type} {O : V → β → Prop} {vs ws : List V} {ys zs : List β} (h : PL O vs ys) (k : PL O ws zs) : PL O (vs ++ ws) (ys ++ zs) := by
  induction h with
  | nil => exact k
  | cons a _ ih => exact .cons a ih
theorem PL.rev {β : Type} {O : V → β → Prop} {vs : List V} {ys : List β} (h : PL O vs ys) : PL O vs.reverse ys.reverse := by
  induction h with
  | nil => exact .nil
  | cons a _ ih => rw [List.reverse_cons, List.reverse_cons]; exact ih.snoc a
theorem PL.set {β : Type} {O : V → β → Prop} {vs : List V} {ys : List β} (h : PL O vs ys) {v : V} {y : β} (a : O v y) : ∀ k, PL O (vs.set k v) (ys.set k y) := by
  induction h with
  | nil => intro k; exact .nil
  | cons b t ih =>
    intro k
    cases k with
    | zero => exact .cons a t
    | succ k => exact .cons b (ih k)
theorem PL.perm {β : Type} {O : V → β → Prop} {vs ws : List V} (p : ws.Perm vs) : ∀ {ys : List β}, PL O vs ys → ∃ zs, zs.Perm ys ∧ PL O ws zs := by
  induction p with
  | nil => intro ys h; exact ⟨ys, .refl _, h⟩
  | cons v _ ih =>
    intro ys h
    cases h with
    | cons a t =>
      obtain ⟨zs, p, q⟩ := ih t
      exact ⟨_ :: zs, p.cons _, .cons a q⟩
  | swap v w l =>
    intro ys h
    cases h with
    | cons a t =>
      cases t with
      | cons b t => exact ⟨_, .swap _ _ _, .cons b (.cons a t)⟩
  | trans _ _ i1 i2 =>
    intro ys h
    obtain ⟨zs, p, q⟩ := i2 h
    obtain ⟨us, p', q'⟩ := i1 q
    exact ⟨us, p'.trans p, q'⟩
theorem Ts.same {H H' : Hp} {vs : List V} {ts : List Tr} (h : Ts H vs ts) (e : Same H H') : Ts H' vs ts := h.imp fun _ _ o => o.same e
theorem Ts.fr {H H' : Hp} {L : Addr} {zs vs : List V} {ts : List Tr} (h : Ts H vs ts) (hL : H L = some (.lst zs)) (f : Fr L H H') : Ts H' vs ts := h.imp fun _ _ o => o.fr hL f
/-! ### free ones, layers -/
def fre (x y : Tr) : Bool := !decide (x.2.1 = y.1) && !decide (x.1 = y.2.1)
theorem fre_symm (x y : Tr) : fre x y = fre y x := by
  unfold fre
  rw [show decide (x.2.1 = y.1) = decide (y.1 = x.2.1) from decide_eq_decide.mpr eq_comm, show decide (x.1 = y.2.1) = decide (y.2.1 = x.1) from decide_eq_decide.mpr eq_comm, Bool.and_comm]
/-- those that are free with all ahead, and the others -/
def fsG : List Tr → List Tr → List Tr
  | _, [] => []
  | pre, x :: xs => if (pre.all fun y => fre y x) = true then x :: fsG (pre ++ [x]) xs else fsG (pre ++ [x]) xs
def rsG : List Tr → List Tr → List Tr
  | _, [] => []
  | pre, x :: xs => if (pre.all fun y => fre y x) = true then rsG (pre ++ [x]) xs else x :: rsG (pre ++ [x]) xs
def c3 (x : Tr) : Int := TS.code 1048576 [x.1, x.2.1, x.2.2]
def le3 (x y : Tr) : Bool := decide (c3 x ≤ c3 y)
def srt (ts : List Tr) : List Tr := ts.mergeSort le3
theorem le3_trans (a b c : Tr) : le3 a b = true → le3 b c = true → le3 a c = true := by
  unfold le3
  intro h k
  have h := of_decide_eq_true h
  have k := of_decide_eq_true k
  exact decide_eq_true (by omega)
theorem le3_total (a b : Tr) : (le3 a b || le3 b a) = true := by
  unfold le3
  rw [Bool.or_eq_true, decide_eq_true_eq, decide_eq_true_eq]
  omega
theorem c3_eq (x : Tr) : c3 x = x.1 * 1099511627776 + (x.2.1 * 1048576 + x.2.2) := by
  show x.1 * 1048576 ^ 2 + (x.2.1 * 1048576 ^ 1 + (x.2.2 * 1048576 ^ 0 + 0)) = _
  rw [show (1048576 : Int) ^ 2 = 1099511627776 from by decide, show (1048576 : Int) ^ 1 = 1048576 from by decide, show (1048576 : Int) ^ 0 = 1 from by decide]
  omega
theorem c3_inj {x y : Tr} (hx : Gd x) (hy : Gd y) (h : c3 x = c3 y) : x = y := by
  rw [c3_eq, c3_eq] at h
  obtain ⟨a1, b1, c1, _⟩ := hx
  obtain ⟨a2, b2, c2, _⟩ := hy
  have e1 : x.1 = y.1 := by omega
  have e2 : x.2.1 = y.2.1 := by omega
  have e3 : x.2.2 = y.2.2 := by omega
  exact Prod.ext e1 (Prod.ext e2 e3)
theorem srt_unique {ts us : List Tr} (g : ∀ x ∈ ts, Gd x) (p : us.Perm ts) (s : us.Pairwise fun x y => c3 x ≤ c3 y) : us = srt ts := by
  refine List.Perm.eq_of_pairwise (le := fun x y => le3 x y = true) (fun a b ha hb h1 h2 => ?_) (s.imp fun h => decide_eq_true h) (List.pairwise_mergeSort le3_trans le3_total ts) (p.trans (List.mergeSort_perm ts le3).symm)
  have ga := g a (p.subset ha)
  have gb := g b ((List.mergeSort_perm ts le3).subset hb)
  have h1 := of_decide_eq_true h1
  have h2 := of_decide_eq_true h2
  exact c3_inj ga gb (by omega)
theorem srt_perm {ts us : List Tr} (g : ∀ x ∈ ts, Gd x) (p : us.Perm ts) : srt us = srt ts := by
  refine srt_unique g ((List.mergeSort_perm us le3).trans p) ?_
  exact (List.pairwise_mergeSort le3_trans le3_total us).imp fun h => of_decide_eq_true h
theorem rsG_len : ∀ (ts pre : List Tr), (rsG pre ts).length ≤ ts.length
  | [], _ => Nat.le_refl _
  | x :: xs, pre => by
    unfold rsG
    have := rsG_len xs (pre ++ [x])
    split
    · rw [List.length_cons]; omega
    · rw [List.length_cons, List.length_cons]; omega
theorem rs_lt {x : Tr} {xs : List Tr} : (rsG [] (x :: xs)).length < (x :: xs).length := by
  unfold rsG
  rw [if_pos (by rfl)]
  have := rsG_len xs [x]
  rw [List.length_cons]
  exact Nat.lt_succ_of_le this
def lays : List Tr → List (List Tr)
  | [] => []
  | x :: xs => srt (fsG [] (x :: xs)) :: lays (rsG [] (x :: xs))
termination_by ts => ts.length
decreasing_by exact rs_lt
theorem fsG_mem : ∀ (ts pre : List Tr) (x : Tr), x ∈ fsG pre ts → x ∈ ts
  | [], _, _, h => h
  | y :: ys, pre, x, h => by
    unfold fsG at h
    split at h
    · rcases List.mem_cons.mp h with h | h
      · exact List.mem_cons.mpr (.inl h)
      · exact List.mem_cons_of_mem _ (fsG_mem ys _ x h)
    · exact List.mem_cons_of_mem _ (fsG_mem ys _ x h)
theorem rsG_mem : ∀ (ts pre : List Tr) (x : Tr), x ∈ rsG pre ts → x ∈ ts
  | [], _, _, h => h
  | y :: ys, pre, x, h => by
    unfold rsG at h
    split at h
    · exact List.mem_cons_of_mem _ (rsG_mem ys _ x h)
    · rcases List.mem_cons.mp h with h | h
      · exact List.mem_cons.mpr (.inl h)
      · exact List.mem_cons_of_mem _ (rsG_mem ys _ x h)
theorem G_congr : ∀ (ts : List Tr) {pre pre' : List Tr}, (∀ x, (pre.all fun y => fre y x) = pre'.all fun y => fre y x) → fsG pre ts = fsG pre' ts ∧ rsG pre ts = rsG pre' ts
  | [], _, _, _ => ⟨rfl, rfl⟩
  | x :: xs, pre, pre', h => by
    have ih := G_congr xs (pre := pre ++ [x]) (pre' := pre' ++ [x]) fun y => by rw [List.all_append, List.all_append, h y]
    unfold fsG rsG
    rw [h x, ih.1, ih.2]
    exact ⟨rfl, rfl⟩
/-- an exchange of two neighbors that are free -/
inductive Sw : List Tr → List Tr → Prop
  | refl (ts : List Tr) : Sw ts ts
  | step {p q : List Tr} {x y : Tr} {us : List Tr} : fre x y = true → Sw us (p ++ x :: y :: q) → Sw us (p ++ y :: x :: q)
theorem G_swap {x y : Tr} (h : fre x y = true) (q : List Tr) : ∀ (p pre : List Tr), (fsG pre (p ++ x :: y :: q)).Perm (fsG pre (p ++ y :: x :: q)) ∧
    (rsG pre (p ++ x :: y :: q) = rsG pre (p ++ y :: x :: q) ∨ ∃ p' q', rsG pre (p ++ x :: y :: q) = p' ++ x :: y :: q' ∧ rsG pre (p ++ y :: x :: q) = p' ++ y :: x :: q')
  | [], pre => by
    have hy : fre y x = true := by rw [fre_symm]; exact h
    have c := G_congr q (pre := (pre ++ [x]) ++ [y]) (pre' := (pre ++ [y]) ++ [x]) fun z => by simp only [List.all_append, List.all_cons, List.all_nil, Bool.and_true]; rw [Bool.and_assoc, Bool.and_assoc, Bool.and_comm (fre x z)]
    have ax : ((pre ++ [y]).all fun z => fre z x) = pre.all fun z => fre z x := by simp only [List.all_append, List.all_cons, List.all_nil, Bool.and_true, hy]
    have ay : ((pre ++ [x]).all fun z => fre z y) = pre.all fun z => fre z y := by simp only [List.all_append, List.all_cons, List.all_nil, Bool.and_true, h]
    show (fsG pre (x :: y :: q)).Perm (fsG pre (y :: x :: q)) ∧ (rsG pre (x :: y :: q) = rsG pre (y :: x :: q) ∨ ∃ p' q', rsG pre (x :: y :: q) = p' ++ x :: y :: q' ∧ rsG pre (y :: x :: q) = p' ++ y :: x :: q')
    simp only [fsG, rsG]
    rw [ax, ay, c.1, c.2]
    cases (pre.all fun z => fre z x) <;> cases (pre.all fun z => fre z y) <;> simp
    · exact .inr ⟨[], _, rfl, rfl⟩
    · exact .swap _ _ _
  | z :: p, pre => by
    obtain ⟨a, b⟩ := G_swap h q p (pre ++ [z])
    show (fsG pre (z :: (p ++ x :: y :: q))).Perm (fsG pre (z :: (p ++ y :: x :: q))) ∧ (rsG pre (z :: (p ++ x :: y :: q)) = rsG pre (z :: (p ++ y :: x :: q)) ∨ ∃ p' q', rsG pre (z :: (p ++ x :: y :: q)) = p' ++ x :: y :: q' ∧ rsG pre (z :: (p ++ y :: x :: q)) = p' ++ y :: x :: q')
    simp only [fsG, rsG]
    cases (pre.all fun u => fre u z) with
    | true => exact ⟨a.cons _, b⟩
    | false =>
      refine ⟨a, ?_⟩
      rcases b with b | ⟨p', q', b1, b2⟩
      · exact .inl (by simp [b])
      · exact .inr ⟨z :: p', q', by simp [b1], by simp [b2]⟩
theorem lays_swap : ∀ (n : Nat) (p q : List Tr) (x y : Tr), (p ++ x :: y :: q).length ≤ n → (∀ z ∈ p ++ x :: y :: q, Gd z) → fre x y = true → lays (p ++ x :: y :: q) = lays (p ++ y :: x :: q)
  | 0, p, q, x, y, hl, _, _ => by rw [List.length_append] at hl; simp at hl
  | n + 1, p, q, x, y, hl, g, h => by
    have hg : ∀ z ∈ p ++ y :: x :: q, Gd z := fun z hz => g z (by
      rcases List.mem_append.mp hz with hz | hz
      · exact List.mem_append_left _ hz
      · refine List.mem_append_right _ ?_
        simp only [List.mem_cons] at hz ⊢
        rcases hz with hz | hz | hz
        · exact .inr (.inl hz)
        · exact .inl hz
        · exact .inr (.inr hz))
    obtain ⟨a, b⟩ := G_swap h q p []
    have u : ∀ l : List Tr, l ≠ [] → lays l = srt (fsG [] l) :: lays (rsG [] l) := fun l hl => by
      cases l with
      | nil => exact absurd rfl hl
      | cons z zs => rw [lays]
    rw [u (p ++ x :: y :: q) (by simp), u (p ++ y :: x :: q) (by simp)]
    have e1 : srt (fsG [] (p ++ x :: y :: q)) = srt (fsG [] (p ++ y :: x :: q)) := srt_perm (fun z hz => hg z (fsG_mem _ _ z hz)) a
    rw [e1]
    congr 1
    rcases b with b | ⟨p', q', b1, b2⟩
    · rw [b]
    · rw [b1, b2]
      have l1 : (p' ++ x :: y :: q').length ≤ n := by
        rw [← b1]
        have : (rsG [] (p ++ x :: y :: q)).length < (p ++ x :: y :: q).length := by
          cases p with
          | nil => exact rs_lt
          | cons z zs => exact rs_lt
        omega
      exact lays_swap n p' q' x y l1 (fun z hz => g z (rsG_mem _ [] z (by rw [b1]; exact hz))) h
theorem Sw.len {ts us : List Tr} (h : Sw ts us) : us.length = ts.length := by
  induction h with
  | refl _ => rfl
  | step _ _ ih => rw [← ih]; simp
theorem Sw.mem {ts us : List Tr} (h : Sw ts us) : ∀ z, z ∈ us → z ∈ ts := by
  induction h with
  | refl _ => exact fun _ h => h
  | step _ _ ih =>
    intro z hz
    refine ih z ?_
    simp only [List.mem_append, List.mem_cons] at hz ⊢
    rcases hz with hz | hz | hz | hz
    · exact .inl hz
    · exact .inr (.inr (.inl hz))
    · exact .inr (.inl hz)
    · exact .inr (.inr (.inr hz))
theorem Sw.lays {ts us : List Tr} (h : Sw ts us) (g : ∀ x ∈ ts, Gd x) : G.lays us = G.lays ts := by
  induction h with
  | refl _ => rfl
  | step f s ih => rw [← ih g]; exact (lays_swap _ _ _ _ _ (Nat.le_refl _) (fun z hz => g z (s.mem z hz)) f).symm
end G
namespace G
open PySem PySem.Spec PyProof.Rows L2
section
variable {X : Cx} {K : PySem.W.Frag}
theorem pi_listK {tg l : Expr} {tl : TE} (hK : X.K = K) (hl : PE X l tl) : PI X tg l (iList K tl) := by rw [← hK]; exact pi_list hl
theorem pi_enumK {e : Expr} {ta : TA} {p pos tpos : Pos} {elts : List Expr} {kk : Nat} (hK : X.K = K) (hg : Gl X "enumerate") (hm : X.mg "enumerate" = none) (ha : PA X [e] ta) (hs : starEach [e] X.env = [(false, eval e X.env)] := by rfl) :
    PI X (.Tuple elts kk tpos) (.Call (.Name "enumerate" p) [e] [] pos) (iEnum K ta) := by rw [← hK]; exact pi_enum hg hm ha hs
theorem sl_listK (hK : X.K = K) : SlR X (rSlL K) := by rw [← hK]; exact sl_list
theorem cr_allK (hK : X.K = K) (hc : X.calm = true) : CallR X (.builtin "all") (rAll K) := by rw [← hK]; exact cr_all hc
theorem op_notInK (hK : X.K = K) : OpR X (compareOp .NotIn) (rIn K true) := by rw [← hK]; exact op_notIn_seq
end
/-- [e for i, x in enumerate(a list) if t] -/
theorem w_lcEnum {β : Type} {K : PySem.W.Frag} {O : Hp → V → β → Prop} (KO : Kept O) {g : TG} {tt : TT} {te : TE} {σ : L2.St} {Q : VK} {H1 : Hp} {t : Addr} {rs : List V} {vs : List Nat} (σs : Nat → V → L2.St) (cond : Nat → Bool) (f : Nat → β) (hl : H1 t = some (.lst rs)) (hn : rs.length ≤ 1000)
    (hg : ∀ (T : Addr) (k : Nat) (v : V) (H' : Hp) (R : L2.St → Hp → Prop), H' T = some (.tup [.int (k : Int), v]) → R (σs k v) H' → g (.ref T) (wipe σ vs) H' R) (hw : ∀ k v, wipe (σs k v) vs = wipe σ vs)
    (test : ∀ (k : Nat) v H' (R : Bool → Hp → Prop), rs[k]? = some v → Same H1 H' → (∀ H2, Same H' H2 → R (cond k) H2) → tt (σs k v) H' R)
    (elt : ∀ (k : Nat) v H' (R : VK), rs[k]? = some v → cond k = true → Same H1 H' → (∀ u H2, Same H' H2 → O H2 u (f k) → R u H2) → te (σs k v) H' R)
    (q : ∀ L acc H', H1 L = none → Same H1 H' → H' L = some (.lst acc) → PL (O H') acc (((List.range rs.length).filter cond).map f) → Q (.ref L) H') : LcW (Ite K t) g tt te vs σ Q H1 := by
  intro D nD
  refine ⟨fun i m H' => m = rs.length - i ∧ i ≤ rs.length ∧ Same H1 H' ∧ ∃ acc, H' D = some (.lst acc) ∧ acc.length ≤ i ∧ PL (O H') acc (((List.range i).filter cond).map f), ⟨rs.length, by omega, Nat.zero_le _, same_new nD, [], upd_same, Nat.zero_le _, .nil⟩, ?_⟩
  rintro i m H' ⟨rfl, hi, e, acc, hD, la, pa⟩
  have hlt' := e _ _ hl
  by_cases lt : i < rs.length
  · have hv : rs[i]? = some (rs[i]'lt) := by rw [List.getElem?_eq_getElem]
    refine .inr ⟨⟨rs, rs[i]'lt, SqL.of hlt', hv⟩, fun H' => Same H1 H' ∧ ∃ acc, H' D = some (.lst acc) ∧ acc.length ≤ i + 1 ∧ PL (O H') acc (((List.range (i + 1)).filter cond).map f), fun H' ⟨a, b⟩ => ⟨rs.length - (i + 1), by omega, rfl, by omega, a, b⟩, ?_⟩
    rintro x H2 ⟨T, v, rfl, hT, rfl, hx⟩
    have hvv := hx rs (SqL.of hlt')
    have e2 : Same H' (upd H' T (.tup [.int (i : Nat), v])) := same_new hT
    refine hg T i v _ _ upd_same ⟨hw i v, test i v _ _ hvv (e.trans e2) fun H3 e3 => ?_⟩
    have hD3 := e3 _ _ (e2 _ _ hD)
    have pa3 : PL (O H3) acc (((List.range i).filter cond).map f) := pa.imp fun _ _ o => KO.same (KO.same o e2) e3
    by_cases c : cond i = true
    · rw [if_pos c]
      refine elt i v _ _ hvv c ((e.trans e2).trans e3) fun u H4 e4 o => ?_
      have hD4 := e4 _ _ hD3
      refine ⟨acc, hD4, by rw [show sizeLine = 16777216 from sizeLine_eq]; omega, Fr.unseen nD (((e.trans e2).trans e3).trans e4) Fr.at_, _, upd_same, by rw [List.length_append]; show acc.length + 1 ≤ i + 1; omega, ?_⟩
      rw [List.range_succ, List.filter_append, List.map_append]
      have s1 : [i].filter cond = [i] := by simp [c]
      rw [s1]
      exact (pa3.imp fun _ _ o => KO.fill (KO.same o e4) hD4 Fr.at_).snoc (KO.fill o hD4 Fr.at_)
    · rw [if_neg c]
      refine ⟨(e.trans e2).trans e3, acc, hD3, by omega, ?_⟩
      rw [List.range_succ, List.filter_append, List.map_append]
      have s1 : [i].filter cond = [] := by simp [c]
      rw [s1]
      simpa using pa3
  · obtain rfl : i = rs.length := by omega
    exact .inl ⟨⟨rs, SqL.of hlt', Nat.le_refl _⟩, q D acc H' nD e hD pa⟩
theorem kept_int {β : Type} {P : V → β → Prop} : Kept (fun _ v y => P v y) := kept_val
def csc (st : Stmt) : Scope := match C8.fnBody st with
  | [.Return (some (.ListComp _ _ sc _)) _] => sc
  | _ => defScope st
/-! specs -/
def spListIn (K : PySem.W.Frag) : Sp := fun vs H Q _ => ∃ (a : Addr) (xs : List V) (l m : Int), vs = [.ref a, .int l, .int m] ∧ H a = some (.lst xs) ∧ xs.length ≤ 1000 ∧ Q (.bl (decide (l ≤ xs.length ∧ (xs.length : Int) ≤ m))) H
def spTr : Sp := fun vs H Q _ => ∃ v x, vs = [v] ∧ T3 H v x ∧ Gd x ∧ ∀ H', Same H H' → Q (.bl true) H'
def spTrs : Sp := fun vs H Q _ => ∃ a xs ts, vs = [.ref a] ∧ H a = some (.lst xs) ∧ Ts H xs ts ∧ (∀ x ∈ ts, Gd x) ∧ ts.length ≤ 24 ∧ ∀ H', Same H H' → Q (.bl true) H'
def spCheckT : Sp := fun vs H Q _ => ∃ a xs ts, vs = [.ref a] ∧ H a = some (.lst xs) ∧ Ts H xs ts ∧ (∀ x ∈ ts, Gd x) ∧ ts.length ≤ 24 ∧ ∀ H', Same H H' → Q .non H'
def spFree : Sp := fun vs H Q _ => ∃ u v x y, vs = [u, v] ∧ T3 H u x ∧ T3 H v y ∧ Q (.bl (fre x y)) H
/-- the places of those that are free with all ahead -/
def firstAt (ts : List Tr) (i : Nat) : Bool := match ts[i]? with
  | some x => (ts.take i).all fun y => fre y x
  | none => false
def spFirsts : Sp := fun vs H Q _ => ∃ a xs ts, vs = [.ref a] ∧ H a = some (.lst xs) ∧ Ts H xs ts ∧ ts.length ≤ 100 ∧ ∀ l H', H l = none → Same H H' → H' l = some (.lst (((List.range ts.length).filter (firstAt ts)).map fun i : Nat => V.int (i : Int))) → Q (.ref l) H'
end G
namespace G
open PySem PySem.Spec PyProof.Rows L2
theorem pl_bl {vs : List V} {bs : List Bool} (h : PL (fun v b => v = V.bl b) vs bs) : vs = bs.map V.bl := by
  induction h with
  | nil => rfl
  | cons a _ ih => rw [List.map_cons, a, ih]
theorem pl_id {vs ys : List V} (h : PL (fun v y => v = y) vs ys) : vs = ys := by
  induction h with
  | nil => rfl
  | cons a _ ih => rw [a, ih]
theorem cut_nat {vs : List V} {k : Nat} (h : k ≤ vs.length) : cutV vs none (some (k : Int)) = vs.take k := by rw [cut_take (by omega) (by omega), Int.toNat_natCast]
theorem firstAt_get {ts : List Tr} {k : Nat} {x : Tr} (h : ts[k]? = some x) : firstAt ts k = ((ts.take k).map fun y => fre y x).all id := by
  unfold firstAt
  rw [h, List.all_map]
  rfl
end G
namespace G
open PySem PySem.Spec PyProof.Rows L2
theorem w_lenT {K : PySem.W.Frag} {H : Hp} {p : Addr} {xs : List V} {R : Nat → Prop} (h : SqT K H p xs) (q : R xs.length) : ∃ x n, [V.ref p] = [x] ∧ LenV K x H n ∧ R n := ⟨_, _, rfl, .inr ⟨_, h, rfl⟩, q⟩
end G
namespace G
open PySem PySem.Spec PyProof.Rows L2
def t0 : Tr := (0, 0, 0)
theorem firstAt_mid (p q : List Tr) (x : Tr) : firstAt (p ++ x :: q) p.length = p.all fun y => fre y x := by
  unfold firstAt
  rw [List.getElem?_append_right (Nat.le_refl _), Nat.sub_self]
  simp
theorem getD_mid (p q : List Tr) (x : Tr) : (p ++ x :: q).getD p.length t0 = x := by
  rw [List.getD_eq_getElem?_getD, List.getElem?_append_right (Nat.le_refl _), Nat.sub_self]
  rfl
theorem G_idx : ∀ (q p : List Tr), fsG p q = ((List.range q.length).filter fun i => firstAt (p ++ q) (p.length + i)).map (fun i => (p ++ q).getD (p.length + i) t0) ∧
    rsG p q = ((List.range q.length).filter fun i => !firstAt (p ++ q) (p.length + i)).map (fun i => (p ++ q).getD (p.length + i) t0)
  | [], _ => ⟨rfl, rfl⟩
  | x :: q, p => by
    obtain ⟨a, b⟩ := G_idx q (p ++ [x])
    have e : (p ++ [x]) ++ q = p ++ x :: q := by simp
    rw [e] at a b
    have l : ∀ i, (p ++ [x]).length + i = p.length + (i + 1) := fun i => by rw [List.length_append]; show p.length + 1 + i = _; omega
    simp only [l] at a b
    have h0 : firstAt (p ++ x :: q) (p.length + 0) = p.all fun y => fre y x := firstAt_mid p q x
    have g0 : (p ++ x :: q).getD (p.length + 0) t0 = x := getD_mid p q x
    unfold fsG rsG
    rw [List.length_cons, List.range_succ_eq_map, List.filter_cons, List.filter_cons, h0, List.filter_map, List.filter_map]
    cases c : (p.all fun y => fre y x) with
    | true =>
      simp only [if_true, Bool.not_true, Bool.false_eq_true, if_false, List.map_cons, List.map_map]
      rw [g0]
      exact ⟨by rw [a]; rfl, b⟩
    | false =>
      simp only [if_true, Bool.not_false, Bool.false_eq_true, if_false, List.map_cons, List.map_map]
      rw [g0]
      exact ⟨a, by rw [b]; rfl⟩
def idx (ts : List Tr) : List Nat := (List.range ts.length).filter (firstAt ts)
theorem fs_idx (ts : List Tr) : fsG [] ts = (idx ts).map fun i => ts.getD i t0 := by
  have := (G_idx ts []).1
  simpa [idx] using this
theorem rs_idx (ts : List Tr) : rsG [] ts = ((List.range ts.length).filter fun i => !firstAt ts i).map fun i => ts.getD i t0 := by
  have := (G_idx ts []).2
  simpa using this
theorem idx_lt {ts : List Tr} {i : Nat} (h : i ∈ idx ts) : i < ts.length := List.mem_range.mp (List.mem_filter.mp h).1
theorem in_idx {ts : List Tr} {k : Nat} (h : k < ts.length) : inV (.int (k : Int)) ((idx ts).map fun i : Nat => V.int (i : Int)) = firstAt ts k := by
  unfold inV
  rw [List.any_map]
  cases c : firstAt ts k with
  | true =>
    refine List.any_eq_true.mpr ⟨k, List.mem_filter.mpr ⟨List.mem_range.mpr h, c⟩, ?_⟩
    show eqV (.int (k : Int)) (.int (k : Int)) = true
    simp [eqV]
  | false =>
    rw [List.any_eq_false]
    intro i hi e
    have e : eqV (.int (i : Int)) (.int (k : Int)) = true := e
    have : i = k := by
      simp [eqV] at e
      omega
    subst this
    rw [(List.mem_filter.mp hi).2] at c
    cases c
theorem flat_idx (ts : List Tr) : ((idx ts).map fun i : Nat => V.int (i : Int)).all flatV = true := by
  rw [List.all_map]
  exact List.all_eq_true.mpr fun _ _ => rfl
theorem tupI_of {K : PySem.W.Frag} {H : Hp} {v : V} {x : Tr} (h : T3 H v x) : TupI K H v [x.1, x.2.1, x.2.2] := let ⟨r, a, b⟩ := h; ⟨r, a, SqT.of b⟩
theorem pl_sorted {K : PySem.W.Frag} {H : Hp} {ys : List V} {zs : List Tr} (h : Ts H ys zs) (s : ys.Pairwise (fun x y => ∀ n m, TupI K H x n → TupI K H y m → TS.code 1048576 n ≤ TS.code 1048576 m)) : zs.Pairwise fun x y => c3 x ≤ c3 y := by
  induction h with
  | nil => exact .nil
  | @cons v z vs zs a t ih =>
    rw [List.pairwise_cons] at s ⊢
    refine ⟨fun w hw => ?_, ih s.2⟩
    obtain ⟨k, hk⟩ := List.mem_iff_getElem?.mp hw
    obtain ⟨u, hu, ou⟩ := t.gety hk
    exact s.1 u (List.mem_of_getElem? hu) _ _ (tupI_of a) (tupI_of ou)
/-- a layer: a list that was not there in H0 -/
def Lay (H0 H : Hp) (L : Addr) (v : V) (us : List Tr) : Prop := ∃ l ws, v = .ref l ∧ H0 l = none ∧ l ≠ L ∧ H l = some (.lst ws) ∧ Ts H ws us
theorem Lay.same {H0 H H' : Hp} {L : Addr} {v : V} {us : List Tr} (h : Lay H0 H L v us) (e : Same H H') : Lay H0 H' L v us := let ⟨l, ws, a, b, c, d, f⟩ := h; ⟨l, ws, a, b, c, e _ _ d, f.same e⟩
theorem Lay.fr {H0 H H' : Hp} {L : Addr} {zs : List V} {v : V} {us : List Tr} (h : Lay H0 H L v us) (hL : H L = some (.lst zs)) (f : Fr L H H') : Lay H0 H' L v us := let ⟨l, ws, a, b, c, d, t⟩ := h; ⟨l, ws, a, b, c, f _ _ c d, t.fr hL f⟩
def spLays : Sp := fun vs H Q _ => ∃ a xs ts, vs = [.ref a] ∧ H a = some (.lst xs) ∧ Ts H xs ts ∧ (∀ x ∈ ts, Gd x) ∧ ts.length ≤ 24 ∧ ∀ L vs H', H L = none → Same H H' → H' L = some (.lst vs) → PL (Lay H H' L) vs (lays ts) → Q (.ref L) H'
theorem lays_cons {ts : List Tr} (h : ts ≠ []) : lays ts = srt (fsG [] ts) :: lays (rsG [] ts) := by
  cases ts with
  | nil => exact absurd rfl h
  | cons x xs => rw [lays]
theorem rs_lt' {ts : List Tr} (h : ts ≠ []) : (rsG [] ts).length < ts.length := by
  cases ts with
  | nil => exact absurd rfl h
  | cons x xs => exact rs_lt
theorem Gd.bd {x : Tr} (h : Gd x) : TS.Bd 1048576 [x.1, x.2.1, x.2.2] := by
  obtain ⟨a, b, c, _⟩ := h
  intro m hm
  simp only [List.mem_cons, List.not_mem_nil, or_false] at hm
  rcases hm with rfl | rfl | rfl <;> omega
end G
namespace G
open PySem PySem.Spec PyProof.Rows L2
/-! ### the laws' own defs -/
def spPool (K : PySem.W.Frag) : Sp := fun vs H Q _ => ∃ (s : Addr) (ns : List Int) (k : Int), vs = [.ref s, .int k] ∧ SqL K H s (ns.map V.int) ∧ ns.length ≤ 63 ∧ 0 ≤ k ∧ Bt 60 k ∧ ∀ p H', H p = none → Same H H' → Src 0 H' p → Q (.ref p) H'
def spAny3 : Sp := fun vs H Q _ => ∃ (a : Addr) (m : Int) (b : Nat), vs = [.ref a, .int m] ∧ Src b H a ∧ b + 200 < 2 ^ 60 ∧ 0 ≤ m ∧ m ≤ 24 ∧
  ∀ l xs ts H', H l = none → H' l = some (.lst xs) → Ts H' xs ts → (ts.length : Int) = m → (∀ x ∈ ts, Gd x) → Src (b + 80) H' a → Fr a H H' → Q (.ref l) H'
def spShuf : Sp := fun vs H Q _ => ∃ (a l : Addr) (b : Nat) (xs : List V) (ts : List Tr), vs = [.ref a, .ref l] ∧ Src b H a ∧ b + 200 < 2 ^ 60 ∧ H l = some (.lst xs) ∧ Ts H xs ts ∧ ts.length ≤ 24 ∧ l ≠ a ∧
  ∀ l' ys us H', H l' = none → H' l' = some (.lst ys) → Ts H' ys us → Sw ts us → Src (b + 60) H' a → Fr a H H' → Q (.ref l') H'
def trD (x : Tr) : PyData := .tuple [.int x.1, .int x.2.1, .int x.2.2]
def lnD (ts : List Tr) : PyData := .list (ts.map trD)
def lyD (ls : List (List Tr)) : PyData := .list (ls.map lnD)
theorem T3.dp {K : PySem.W.Frag} {H : Hp} {v : V} {x : Tr} (h : T3 H v x) : Dp K H v (trD x) := by
  obtain ⟨r, rfl, h⟩ := h
  exact .tup (SqT.of h) (.cons (.int _) (.cons (.int _) (.cons (.int _) .nil)))
theorem Ts.dp {K : PySem.W.Frag} {H : Hp} {vs : List V} {ts : List Tr} (h : Ts H vs ts) : DpAll K H vs (ts.map trD) := h.dps fun _ _ o => o.dp
theorem ln_dp {K : PySem.W.Frag} {H : Hp} {a : Addr} {vs : List V} {ts : List Tr} (ha : H a = some (.lst vs)) (h : Ts H vs ts) : Dp K H (.ref a) (lnD ts) := .lst (SqL.of ha) h.dp
/-- a list of layers -/
def Lay1 (H : Hp) (v : V) (us : List Tr) : Prop := ∃ l ws, v = .ref l ∧ H l = some (.lst ws) ∧ Ts H ws us
theorem Lay1.same {H H' : Hp} {v : V} {us : List Tr} (h : Lay1 H v us) (e : Same H H') : Lay1 H' v us := let ⟨l, ws, a, b, c⟩ := h; ⟨l, ws, a, e _ _ b, Ts.same c e⟩
theorem Lay.one {H0 H : Hp} {L : Addr} {v : V} {us : List Tr} (h : Lay H0 H L v us) : Lay1 H v us := let ⟨l, ws, a, _, _, d, t⟩ := h; ⟨l, ws, a, d, t⟩
theorem ly_dp {K : PySem.W.Frag} {H : Hp} {a : Addr} {vs : List V} {ls : List (List Tr)} (ha : H a = some (.lst vs)) (h : PL (Lay1 H) vs ls) : Dp K H (.ref a) (lyD ls) := .lst (SqL.of ha) (h.dps fun v us ⟨l, ws, e, b, c⟩ => by rw [e]; exact ln_dp b c)
def spLaysL : Sp := fun vs H Q _ => ∃ a xs ts, vs = [.ref a] ∧ H a = some (.lst xs) ∧ Ts H xs ts ∧ (∀ x ∈ ts, Gd x) ∧ ts.length ≤ 24 ∧ ∀ L vs H', H L = none → Same H H' → H' L = some (.lst vs) → PL (Lay1 H') vs (lays ts) → Q (.ref L) H'
end G
namespace G
open PySem PySem.Spec PyProof.Rows L2
def rListOf (K : PySem.W.Frag) : List V → Hp → VK → Prop := fun xs H Q => ∃ p ys, xs = [.ref p] ∧ (SqL K H p ys ∨ SqT K H p ys) ∧ ∀ l, H l = none → Q (.ref l) (upd H l (.lst ys))
theorem call_listO {X : Cx} : CallR X (.type "list") (rListOf X.K) := call_list_of
theorem w_listOf {K : PySem.W.Frag} {H : Hp} {Q : VK} {p : Addr} {ys : List V} (h : SqL K H p ys) (q : ∀ l H', H l = none → Same H H' → H' l = some (.lst ys) → Q (.ref l) H') : rListOf K [.ref p] H Q := ⟨p, ys, rfl, .inl h, fun l hl => q l _ hl (same_new hl) upd_same⟩
theorem ix_nat {vs : List V} {k : Nat} {v : V} (h : vs[k]? = some v) : atI vs (k : Int) = some v := by
  have := (List.getElem?_eq_some_iff.mp h).1
  unfold atI ixN
  rw [if_pos (by omega), if_pos (by omega)]
  exact h
theorem ixN_nat {n k : Nat} (h : k < n) : ixN n (k : Int) = some k := by
  unfold ixN
  rw [if_pos (by omega), if_pos (by omega)]
  rfl
theorem swap_at : ∀ (us : List Tr) (k : Nat) (x y : Tr), us[k]? = some x → us[k + 1]? = some y → us = us.take k ++ x :: y :: us.drop (k + 2) ∧ (us.set k y).set (k + 1) x = us.take k ++ y :: x :: us.drop (k + 2)
  | [], _, _, _, h, _ => by cases h
  | u :: us, 0, x, y, h, k => by
    cases h
    cases us with
    | nil => cases k
    | cons w ws => cases k; exact ⟨rfl, rfl⟩
  | u :: us, k + 1, x, y, h, h2 => by
    obtain ⟨a, b⟩ := swap_at us k x y h h2
    constructor
    · show u :: us = u :: (us.take k ++ x :: y :: us.drop (k + 2))
      rw [← a]
    · show u :: ((us.set k y).set (k + 1) x) = u :: (us.take k ++ y :: x :: us.drop (k + 2))
      rw [b]
theorem sw_at {ts us : List Tr} {k : Nat} {x y : Tr} (s : Sw ts us) (hx : us[k]? = some x) (hy : us[k + 1]? = some y) (f : fre x y = true) : Sw ts ((us.set k y).set (k + 1) x) := by
  obtain ⟨a, b⟩ := swap_at us k x y hx hy
  rw [b]
  exact .step f (by rw [← a]; exact s)
/-- [e for x in a list if t] -/
theorem w_lcFil {β : Type} {K : PySem.W.Frag} {O : Hp → V → β → Prop} (KO : Kept O) {tt : TT} {te : TE} {σ : L2.St} {Q : VK} {H1 : Hp} {t : Addr} {rs : List V} {j : Nat} (cond : Nat → Bool) (f : Nat → β) (hl : H1 t = some (.lst rs)) (hn : rs.length ≤ 1000)
    (test : ∀ (k : Nat) v H' (R : Bool → Hp → Prop), rs[k]? = some v → Same H1 H' → (∀ H2, Same H' H2 → R (cond k) H2) → tt ((σ.set j none).set j (some v)) H' R)
    (elt : ∀ (k : Nat) v H' (R : VK), rs[k]? = some v → cond k = true → Same H1 H' → (∀ u H2, Same H' H2 → O H2 u (f k) → R u H2) → te ((σ.set j none).set j (some v)) H' R)
    (q : ∀ L acc H', H1 L = none → Same H1 H' → H' L = some (.lst acc) → PL (O H') acc (((List.range rs.length).filter cond).map f) → Q (.ref L) H') : LcW (Itl K t) (gName j) tt te [j] σ Q H1 := by
  intro L nL
  refine lc_list (K := K) (xs := rs) (fun i H' => Same H1 H' ∧ ∃ acc, H' L = some (.lst acc) ∧ acc.length ≤ i ∧ PL (O H') acc (((List.range i).filter cond).map f)) ⟨same_new nL, [], upd_same, Nat.zero_le _, .nil⟩ (fun i H' hi p => SqL.of (p.1 _ _ hl)) ?_ ?_
  · rintro k v H' hv ⟨e, acc, hL, la, pa⟩
    have kl : k < rs.length := (List.getElem?_eq_some_iff.mp hv).1
    refine ⟨?_, ?_⟩
    · show ((σ.set j none).set j (some v)).set j none = σ.set j none
      rw [List.set_set, List.set_set]
    · refine test k v H' _ hv e fun H3 e3 => ?_
      have hD3 := e3 _ _ hL
      have pa3 : PL (O H3) acc (((List.range k).filter cond).map f) := pa.imp fun _ _ o => KO.same o e3
      by_cases c : cond k = true
      · rw [if_pos c]
        refine elt k v _ _ hv c (e.trans e3) fun u H4 e4 o => ?_
        have hD4 := e4 _ _ hD3
        refine ⟨acc, hD4, by rw [show sizeLine = 16777216 from sizeLine_eq]; omega, Fr.unseen nL ((e.trans e3).trans e4) Fr.at_, _, upd_same, by rw [List.length_append]; show acc.length + 1 ≤ k + 1; omega, ?_⟩
        rw [List.range_succ, List.filter_append, List.map_append]
        have s1 : [k].filter cond = [k] := by simp [c]
        rw [s1]
        exact (pa3.imp fun _ _ o => KO.fill (KO.same o e4) hD4 Fr.at_).snoc (KO.fill o hD4 Fr.at_)
      · rw [if_neg c]
        refine ⟨e.trans e3, acc, hD3, by omega, ?_⟩
        rw [List.range_succ, List.filter_append, List.map_append]
        have s1 : [k].filter cond = [] := by simp [c]
        rw [s1]
        simpa using pa3
  · rintro H' ⟨e, acc, hL, la, pa⟩
    exact q L acc H' nL e hL pa
def Fr2 (a b : Addr) (H H' : Hp) : Prop := ∀ c o, c ≠ a → c ≠ b → H c = some o → H' c = some o
theorem Fr2.refl (a b : Addr) (H : Hp) : Fr2 a b H H := fun _ _ _ _ h => h
theorem Fr2.same {a b : Addr} {H H1 H2 : Hp} (f : Fr2 a b H H1) (e : Same H1 H2) : Fr2 a b H H2 := fun c o n m h => e _ _ (f c o n m h)
theorem Fr2.fa {a b : Addr} {H H1 H2 : Hp} (f : Fr2 a b H H1) (e : Fr a H1 H2) : Fr2 a b H H2 := fun c o n m h => e _ _ n (f c o n m h)
theorem Fr2.fb {a b : Addr} {H H1 H2 : Hp} (f : Fr2 a b H H1) (e : Fr b H1 H2) : Fr2 a b H H2 := fun c o n m h => e _ _ m (f c o n m h)
theorem Fr2.unseen {a b : Addr} {H0 H H1 : Hp} (f : Fr2 a b H H1) (s : Same H0 H) (na : H0 a = none) (nb : H0 b = none) : Same H0 H1 := fun c o h => f c o (ne_of_none h na) (ne_of_none h nb) (s _ _ h)
theorem trD_lay : ∀ ts : List Tr, PyData.canLayAll0 (ts.map trD) = true
  | [] => by simp only [List.map_nil, PyData.canLayAll0]
  | x :: xs => by
    simp only [List.map_cons, PyData.canLayAll0, trD_lay xs, Bool.and_true]
    simp only [trD, PyData.canLay0, PyData.canLayAll0, Bool.and_self]
theorem trD_depth (x : Tr) : (trD x).depth ≤ 1 := by simp only [trD, PyData.depth, PyData.depthAll]; decide
theorem lnD_depth (ts : List Tr) : (lnD ts).depth ≤ 2 := by
  have := depthAll_le (m := 1) (ds := ts.map trD) fun d hd => by obtain ⟨x, _, rfl⟩ := List.mem_map.mp hd; exact trD_depth x
  simp only [lnD, PyData.depth]
  omega
theorem lnD_shaped (ts : List Tr) : SeqAt.shaped (lnD ts) = true := by
  have h1 := trD_lay ts
  have h2 := lnD_depth ts
  unfold SeqAt.shaped
  have h3 : PyData.canLay0 (lnD ts) = true := by simp only [lnD, PyData.canLay0, h1]
  rw [h3, Bool.true_and]
  exact decide_eq_true (by omega)
theorem ln_nil (ts : List Tr) : PyData.eqv (lnD ts) (.list []) = ts.isEmpty := by
  cases ts with
  | nil => simp only [lnD, List.map_nil, PyData.eqv, PyData.eqvAll]; rfl
  | cons x xs => simp only [lnD, List.map_cons, PyData.eqv, PyData.eqvAll]; rfl
end G
namespace G
open PySem PySem.Spec PyProof.Rows L2
theorem fil_empty {us : List Tr} {k : Nat} {y : Tr} (h : us[k]? = some y) (f : Nat → Tr) : (((List.range k).filter fun j => !fre (us.getD j t0) y).map f).isEmpty = firstAt us k := by
  have kl := (List.getElem?_eq_some_iff.mp h).1
  unfold firstAt
  rw [h]
  have e1 : ((((List.range k).filter fun j => !fre (us.getD j t0) y).map f).isEmpty = true) ↔ ∀ j, j < k → fre (us.getD j t0) y = true := by
    rw [List.isEmpty_iff, List.map_eq_nil_iff, List.filter_eq_nil_iff]
    constructor
    · intro z j hj
      have := z j (List.mem_range.mpr hj)
      simpa using this
    · intro z j hj
      have := z j (List.mem_range.mp hj)
      rw [this]
      decide
  have e2 : (((us.take k).all fun z => fre z y) = true) ↔ ∀ j, j < k → fre (us.getD j t0) y = true := by
    rw [List.all_eq_true]
    constructor
    · intro z j hj
      have hj' : us[j]? = some (us[j]'(by omega)) := by rw [List.getElem?_eq_getElem]
      rw [List.getD_eq_getElem?_getD, hj']
      refine z _ (List.mem_of_getElem? (i := j) ?_)
      rw [List.getElem?_take_of_lt hj]
      exact hj'
    · intro z x hx
      obtain ⟨j, hj⟩ := List.mem_iff_getElem?.mp hx
      have jk : j < k := by
        have := (List.getElem?_eq_some_iff.mp hj).1
        rw [List.length_take] at this
        omega
      rw [List.getElem?_take_of_lt jk] at hj
      have := z j jk
      rw [List.getD_eq_getElem?_getD, hj] at this
      exact this
  exact Bool.eq_iff_iff.mpr (e1.trans e2.symm)
def pA (us : List Tr) (k : Nat) : List Tr := ((List.range k).filter (firstAt us)).map fun i => us.getD i t0
def pB (us : List Tr) (k : Nat) : List Tr := ((List.range k).filter fun i => !firstAt us i).map fun i => us.getD i t0
theorem pA_succ (us : List Tr) (k : Nat) : pA us (k + 1) = if firstAt us k = true then pA us k ++ [us.getD k t0] else pA us k := by
  unfold pA
  rw [List.range_succ, List.filter_append, List.map_append]
  cases c : firstAt us k <;> simp [c]
theorem pB_succ (us : List Tr) (k : Nat) : pB us (k + 1) = if firstAt us k = true then pB us k else pB us k ++ [us.getD k t0] := by
  unfold pB
  rw [List.range_succ, List.filter_append, List.map_append]
  cases c : firstAt us k <;> simp [c]
theorem pA_all (us : List Tr) : pA us us.length = fsG [] us := (fs_idx us).symm
theorem pB_all (us : List Tr) : pB us us.length = rsG [] us := (rs_idx us).symm
theorem getD_at {us : List Tr} {k : Nat} {y : Tr} (h : us[k]? = some y) : us.getD k t0 = y := by rw [List.getD_eq_getElem?_getD, h]; rfl
end G
namespace G
open PySem PySem.Spec PyProof.Rows L2
theorem lays_ok : ∀ (n : Nat) (ts : List Tr), ts.length ≤ n → (lays ts).length ≤ ts.length ∧ ∀ l ∈ lays ts, l.length ≤ ts.length ∧ ∀ x ∈ l, x ∈ ts
  | _, [], _ => by rw [lays]; exact ⟨Nat.le_refl _, nofun⟩
  | 0, x :: xs, h => by simp at h
  | n + 1, x :: xs, h => by
    have lt := @rs_lt x xs
    obtain ⟨a, b⟩ := lays_ok n (rsG [] (x :: xs)) (by omega)
    rw [lays]
    refine ⟨by rw [List.length_cons]; omega, fun l hl => ?_⟩
    rcases List.mem_cons.mp hl with rfl | hl
    · constructor
      · unfold srt
        rw [List.length_mergeSort, fs_idx, List.length_map]
        have := List.length_filter_le (firstAt (x :: xs)) (List.range (x :: xs).length)
        rw [List.length_range] at this
        exact this
      · exact fun y hy => fsG_mem _ _ y ((List.mergeSort_perm _ le3).subset hy)
    · obtain ⟨c, d⟩ := b l hl
      exact ⟨by omega, fun y hy => rsG_mem _ _ y (d y hy)⟩
theorem trD_lim {x : Tr} (h : Gd x) : lim (trD x) := by
  obtain ⟨a, b, c, _⟩ := h
  have big : (2000000 : Nat) < 2 ^ 1900 := by decide +kernel
  simp only [trD, lim, limAll]
  exact ⟨Nat.lt_trans (by omega : x.1.natAbs < 2000000) big, Nat.lt_trans (by omega : x.2.1.natAbs < 2000000) big, Nat.lt_trans (by omega : x.2.2.natAbs < 2000000) big, trivial⟩
theorem lnD_lim {ts : List Tr} (h : ∀ x ∈ ts, Gd x) : lim (lnD ts) := lim_list fun d hd => by
  obtain ⟨x, hx, rfl⟩ := List.mem_map.mp hd
  exact trD_lim (h x hx)
theorem lyD_lim {ls : List (List Tr)} (h : ∀ l ∈ ls, ∀ x ∈ l, Gd x) : lim (lyD ls) := lim_list fun d hd => by
  obtain ⟨l, hl, rfl⟩ := List.mem_map.mp hd
  exact lnD_lim (h l hl)
theorem lnD_cnt {ts : List Tr} (h : ts.length ≤ 24) : cnt (lnD ts) ≤ 97 := by
  simp only [lnD, cnt]
  have := cntAll_le (m := 4) (ds := ts.map trD) fun d hd => by
    obtain ⟨x, _, rfl⟩ := List.mem_map.mp hd
    simp only [trD, cnt, cntAll]
    decide
  rw [List.length_map] at this
  omega
theorem lyD_cnt {ls : List (List Tr)} (h : ls.length ≤ 24) (g : ∀ l ∈ ls, l.length ≤ 24) : cnt (lyD ls) ≤ 2400 := by
  simp only [lyD, cnt]
  have := cntAll_le (m := 97) (ds := ls.map lnD) fun d hd => by
    obtain ⟨l, hl, rfl⟩ := List.mem_map.mp hd
    exact lnD_cnt (g l hl)
  rw [List.length_map] at this
  have := Nat.mul_le_mul_left 97 h
  omega
theorem lyD_depth (ls : List (List Tr)) : (lyD ls).depth ≤ 3 := by
  have := depthAll_le (m := 2) (ds := ls.map lnD) fun d hd => by obtain ⟨x, _, rfl⟩ := List.mem_map.mp hd; exact lnD_depth x
  simp only [lyD, PyData.depth]
  omega
theorem lyD_shaped (ls : List (List Tr)) : SeqAt.shaped (lyD ls) = true := by
  have h1 : PyData.canLayAll0 (ls.map lnD) = true := by
    induction ls with
    | nil => simp only [List.map_nil, PyData.canLayAll0]
    | cons l r ih =>
      simp only [List.map_cons, PyData.canLayAll0, ih, Bool.and_true]
      simp only [lnD, PyData.canLay0, trD_lay]
  have h2 := lyD_depth ls
  unfold SeqAt.shaped
  have h3 : PyData.canLay0 (lyD ls) = true := by simp only [lyD, PyData.canLay0, h1]
  rw [h3, Bool.true_and]
  exact decide_eq_true (by omega)
theorem eqvAll_tr : ∀ ts : List Tr, PyData.eqvAll (ts.map trD) (ts.map trD) = true
  | [] => by simp only [List.map_nil, PyData.eqvAll]
  | x :: xs => by
    simp only [List.map_cons, PyData.eqvAll, eqvAll_tr xs, Bool.and_true]
    simp [trD, PyData.eqv, PyData.eqvAll]
theorem eqvAll_ln : ∀ ls : List (List Tr), PyData.eqvAll (ls.map lnD) (ls.map lnD) = true
  | [] => by simp only [List.map_nil, PyData.eqvAll]
  | l :: ls => by
    simp only [List.map_cons, PyData.eqvAll, eqvAll_ln ls, Bool.and_true]
    simp only [lnD, PyData.eqv, eqvAll_tr]
theorem eqv_ly (ls : List (List Tr)) : PyData.eqv (lyD ls) (lyD ls) = true := by simp only [lyD, PyData.eqv, eqvAll_ln]
theorem w_reprLn {K : PySem.W.Frag} {H : Hp} {Q : VK} {a : Addr} {ts : List Tr} (hd : Dp K H (.ref a) (lnD ts)) (g : ∀ x ∈ ts, Gd x) (hl : ts.length ≤ 24) (q : Q (.str (lnD ts).shown) H) : rRepr K [.ref a] H Q :=
  w_repr hd (lnD_lim g) q (decide_eq_true (by have := lnD_cnt hl; omega)) (decide_eq_true (by have := lnD_depth ts; omega))
theorem lays_lim {ts : List Tr} (g : ∀ x ∈ ts, Gd x) : lim (lyD (lays ts)) := lyD_lim fun l hl x hx => g x (((lays_ok _ ts (Nat.le_refl _)).2 l hl).2 x hx)
theorem lays_cnt {ts : List Tr} (hl : ts.length ≤ 24) : cnt (lyD (lays ts)) ≤ 2400 := by
  obtain ⟨a, b⟩ := lays_ok _ ts (Nat.le_refl _)
  exact lyD_cnt (by omega) fun l h => by have := (b l h).1; omega
theorem w_reprLy {K : PySem.W.Frag} {H : Hp} {Q : VK} {a : Addr} {ts : List Tr} (hd : Dp K H (.ref a) (lyD (lays ts))) (g : ∀ x ∈ ts, Gd x) (hl : ts.length ≤ 24) (q : Q (.str (lyD (lays ts)).shown) H) : rRepr K [.ref a] H Q :=
  w_repr hd (lays_lim g) q (decide_eq_true (by have := lays_cnt hl; omega)) (decide_eq_true (by have := lyD_depth (lays ts); omega))
theorem w_reprLy2 {K : PySem.W.Frag} {H : Hp} {Q : VK} {a : Addr} {ts : List Tr} (hd : Dp K H (.ref a) (.list [lyD (lays ts), lyD (lays ts)])) (g : ∀ x ∈ ts, Gd x) (hl : ts.length ≤ 24) (q : Q (.str (PyData.list [lyD (lays ts), lyD (lays ts)]).shown) H) : rRepr K [.ref a] H Q :=
  w_repr hd (lim_two (lays_lim g) (lays_lim g)) q (decide_eq_true (by
    have := lays_cnt hl
    rw [show cnt (.list [lyD (lays ts), lyD (lays ts)]) = cnt (lyD (lays ts)) + (cnt (lyD (lays ts)) + 0) + 1 from by simp only [cnt, cntAll]]
    omega)) (decide_eq_true (by
    have := depthAll_le (m := 3) (ds := [lyD (lays ts), lyD (lays ts)]) fun d hd => by
      simp only [List.mem_cons, List.not_mem_nil, or_false] at hd
      rcases hd with rfl | rfl <;> exact lyD_depth _
    simp only [PyData.depth]
    omega))
def spRight : Sp := fun vs H Q _ => ∃ l xs ts, vs = [.ref l] ∧ H l = some (.lst xs) ∧ Ts H xs ts ∧ (∀ x ∈ ts, Gd x) ∧ ts.length ≤ 24 ∧ ∀ H', Same H H' → Q (.bl true) H'
theorem w_gen {t : TE} {σ : L2.St} {H : Hp} {Q : VK} (C : Int → Hp → Prop) (h : ∀ Q' : VK, (∀ m H', C m H' → Q' (.int m) H') → t σ H Q') (k : ∀ m H', C m H' → Q (.int m) H') : t σ H Q := h Q k
end G

/-! The least list: min and remove of tuples, lists of tuples compared. -/
namespace G
open PySem PySem.Spec PyProof.Rows L2
/-! ### the order of transfers -/
def lt3 (x y : Tr) : Bool := decide (x.1 < y.1 ∨ (x.1 = y.1 ∧ (x.2.1 < y.2.1 ∨ (x.2.1 = y.2.1 ∧ x.2.2 < y.2.2))))
theorem lt3_irrefl (x : Tr) : lt3 x x = false := by
  unfold lt3
  exact decide_eq_false (by omega)
theorem lt3_trans' {x y z : Tr} (h : lt3 x y = false) (k : lt3 y z = false) : lt3 x z = false := by
  unfold lt3 at *
  have h := of_decide_eq_false h
  have k := of_decide_eq_false k
  exact decide_eq_false (by omega)
theorem lt3_anti {x y : Tr} (h : lt3 x y = false) (k : lt3 y x = false) : x = y := by
  unfold lt3 at *
  have h := of_decide_eq_false h
  have k := of_decide_eq_false k
  exact Prod.ext (by omega) (Prod.ext (by omega) (by omega))
theorem lt3_asymm {x y : Tr} (h : lt3 x y = true) : lt3 y x = false := by
  unfold lt3 at *
  have h := of_decide_eq_true h
  exact decide_eq_false (by omega)
def mn (x : Tr) (xs : List Tr) : Tr := xs.foldl (fun a y => if lt3 y a = true then y else a) x
theorem mn_spec : ∀ (xs : List Tr) (x : Tr), mn x xs ∈ x :: xs ∧ ∀ y ∈ x :: xs, lt3 y (mn x xs) = false
  | [], x => ⟨List.mem_singleton.mpr rfl, fun y hy => by rw [List.mem_singleton.mp hy]; exact lt3_irrefl x⟩
  | z :: zs, x => by
    obtain ⟨a, b⟩ := mn_spec zs (if lt3 z x = true then z else x)
    have e : mn x (z :: zs) = mn (if lt3 z x = true then z else x) zs := rfl
    rw [e]
    cases c : lt3 z x with
    | true =>
      rw [if_pos c] at a b
      simp only [if_true]
      refine ⟨List.mem_cons_of_mem _ a, fun y hy => ?_⟩
      rcases List.mem_cons.mp hy with rfl | hy
      · exact lt3_trans' (lt3_asymm c) (b z (List.mem_cons_self ..))
      · exact b y hy
    | false =>
      rw [if_neg (by rw [c]; decide)] at a b
      simp only [Bool.false_eq_true, if_false]
      refine ⟨?_, fun y hy => ?_⟩
      · rcases List.mem_cons.mp a with a | a
        · rw [a]; exact List.mem_cons_self ..
        · exact List.mem_cons_of_mem _ (List.mem_cons_of_mem _ a)
      · rcases List.mem_cons.mp hy with rfl | hy
        · exact b y (List.mem_cons_self ..)
        · rcases List.mem_cons.mp hy with rfl | hy
          · exact lt3_trans' c (b x (List.mem_cons_self ..))
          · exact b y (List.mem_cons_of_mem _ hy)
theorem mn_perm {x y : Tr} {xs ys : List Tr} (p : (x :: xs).Perm (y :: ys)) : mn x xs = mn y ys := by
  obtain ⟨a, b⟩ := mn_spec xs x
  obtain ⟨c, d⟩ := mn_spec ys y
  exact lt3_anti (d _ (p.subset a)) (b _ (p.symm.subset c))
/-! ### the least list -/
def leastN : Nat → List Tr → List Tr
  | 0, _ => []
  | n + 1, ts => match fsG [] ts with
    | [] => []
    | a :: as => mn a as :: leastN n (ts.erase (mn a as))
def least (ts : List Tr) : List Tr := leastN ts.length ts
/-- the first one -/
def fst3 (ts : List Tr) : Tr := match fsG [] ts with
  | [] => t0
  | a :: as => mn a as
theorem fst_cons {ts : List Tr} {a : Tr} {as : List Tr} (h : fsG [] ts = a :: as) : fst3 ts = mn a as := by unfold fst3; rw [h]
theorem fs_ne {ts : List Tr} (h : ts ≠ []) : ∃ a as, fsG [] ts = a :: as := by
  cases ts with
  | nil => exact absurd rfl h
  | cons x xs => exact ⟨x, _, by unfold fsG; rw [if_pos (by rfl)]⟩
theorem fst_mem {ts : List Tr} (h : ts ≠ []) : fst3 ts ∈ ts := by
  obtain ⟨a, as, e⟩ := fs_ne h
  rw [fst_cons e]
  exact fsG_mem ts [] _ (by rw [e]; exact (mn_spec as a).1)
theorem erase_len {ts : List Tr} {m : Tr} (h : m ∈ ts) : (ts.erase m).length + 1 = ts.length := by
  have := List.length_erase_of_mem h
  have := List.length_pos_of_mem h
  omega
theorem least_cons {ts : List Tr} (h : ts ≠ []) : least ts = fst3 ts :: least (ts.erase (fst3 ts)) := by
  obtain ⟨a, as, e⟩ := fs_ne h
  have m := fst_mem h
  have l := erase_len m
  unfold least
  rw [← l]
  show (match fsG [] ts with | [] => [] | a :: as => mn a as :: leastN (ts.erase (fst3 ts)).length (ts.erase (mn a as))) = _
  rw [fst_cons e] at *
  rw [e]
theorem least_nil : least [] = [] := rfl
theorem erase_swap (p q : List Tr) (x y m : Tr) : (p ++ x :: y :: q).erase m = (p ++ y :: x :: q).erase m ∨ ∃ p' q', (p ++ x :: y :: q).erase m = p' ++ x :: y :: q' ∧ (p ++ y :: x :: q).erase m = p' ++ y :: x :: q' := by
  by_cases hp : m ∈ p
  · rw [List.erase_append_left _ hp, List.erase_append_left _ hp]
    exact .inr ⟨_, _, rfl, rfl⟩
  · rw [List.erase_append_right _ hp, List.erase_append_right _ hp]
    by_cases hx : x = m
    · subst hx
      by_cases hy : y = x
      · subst hy
        exact .inl rfl
      · left
        rw [List.erase_cons_head, List.erase_cons_tail (by simpa using hy), List.erase_cons_head]
    · by_cases hy : y = m
      · subst hy
        left
        rw [List.erase_cons_head, List.erase_cons_tail (by simpa using hx), List.erase_cons_head]
      · rw [List.erase_cons_tail (by simpa using hx), List.erase_cons_tail (by simpa using hy), List.erase_cons_tail (by simpa using hy), List.erase_cons_tail (by simpa using hx)]
        exact .inr ⟨p, _, rfl, rfl⟩
theorem leastN_swap {x y : Tr} (h : fre x y = true) : ∀ (n : Nat) (p q : List Tr), leastN n (p ++ x :: y :: q) = leastN n (p ++ y :: x :: q)
  | 0, _, _ => rfl
  | n + 1, p, q => by
    obtain ⟨a, _⟩ := G_swap h q p []
    obtain ⟨c, cs, ec⟩ := fs_ne (ts := p ++ x :: y :: q) (by simp)
    obtain ⟨d, ds, ed⟩ := fs_ne (ts := p ++ y :: x :: q) (by simp)
    rw [ec, ed] at a
    show (match fsG [] (p ++ x :: y :: q) with | [] => [] | a :: as => mn a as :: leastN n ((p ++ x :: y :: q).erase (mn a as))) = (match fsG [] (p ++ y :: x :: q) with | [] => [] | a :: as => mn a as :: leastN n ((p ++ y :: x :: q).erase (mn a as)))
    rw [ec, ed]
    show mn c cs :: _ = mn d ds :: _
    rw [mn_perm a]
    congr 1
    rcases erase_swap p q x y (mn d ds) with e | ⟨p', q', e1, e2⟩
    · rw [e]
    · rw [e1, e2]
      exact leastN_swap h n p' q'
theorem Sw.least {ts us : List Tr} (h : Sw ts us) : G.least us = G.least ts := by
  induction h with
  | refl _ => rfl
  | step f s ih =>
    rw [← ih]
    unfold G.least
    have l : ∀ (p q : List Tr) (x y : Tr), (p ++ y :: x :: q).length = (p ++ x :: y :: q).length := fun p q x y => by simp
    rw [l]
    exact (leastN_swap f _ _ _).symm
theorem Sw.trans {ts us ws : List Tr} (h : Sw ts us) (k : Sw us ws) : Sw ts ws := by
  induction k with
  | refl _ => exact h
  | step f _ ih => exact .step f (ih h)
theorem Sw.cons {ts us : List Tr} (m : Tr) (h : Sw ts us) : Sw (m :: ts) (m :: us) := by
  induction h with
  | refl _ => exact .refl _
  | @step p q x y _ f _ ih => exact .step (p := m :: p) f ih
theorem Sw.front {m : Tr} : ∀ (n : Nat) (p q us : List Tr), p.length = n → (∀ y ∈ p, fre y m = true) → Sw us (p ++ m :: q) → Sw us (m :: (p ++ q))
  | 0, p, q, us, hn, _, h => by
    rw [List.eq_nil_of_length_eq_zero hn] at h ⊢
    exact h
  | n + 1, p, q, us, hn, hf, h => by
    obtain ⟨p', y, rfl⟩ : ∃ p' y, p = p' ++ [y] := ⟨p.dropLast, p.getLast (by intro e; rw [e] at hn; cases hn), (List.dropLast_concat_getLast _).symm⟩
    rw [List.append_assoc] at h ⊢
    have h2 : Sw us (p' ++ y :: m :: q) := h
    have := Sw.step (hf y (by simp)) h2
    exact Sw.front n p' (y :: q) us (by rw [List.length_append] at hn; simpa using hn) (fun z hz => hf z (List.mem_append_left _ hz)) this
theorem fsG_pre : ∀ (ts pre : List Tr) (x : Tr), x ∈ fsG pre ts → ∀ y ∈ pre, fre y x = true
  | [], _, _, h => by cases h
  | z :: zs, pre, x, h => by
    intro y hy
    unfold fsG at h
    split at h
    · rename_i c
      rcases List.mem_cons.mp h with rfl | h
      · exact List.all_eq_true.mp c y hy
      · exact fsG_pre zs (pre ++ [z]) x h y (List.mem_append_left _ hy)
    · exact fsG_pre zs (pre ++ [z]) x h y (List.mem_append_left _ hy)
theorem fsG_ahead : ∀ (p q pre : List Tr) (x : Tr), x ∈ fsG pre (p ++ x :: q) → x ∉ p → ∀ y ∈ pre ++ p, fre y x = true
  | [], q, pre, x, h, _ => by
    intro y hy
    rw [List.append_nil] at hy
    exact fsG_pre _ pre x h y hy
  | z :: p, q, pre, x, h, n => by
    intro y hy
    have zx : x ≠ z := fun e => n (by rw [e]; exact List.mem_cons_self ..)
    have h2 : x ∈ fsG (pre ++ [z]) (p ++ x :: q) := by
      have h : x ∈ fsG pre (z :: (p ++ x :: q)) := h
      unfold fsG at h
      split at h
      · rcases List.mem_cons.mp h with h | h
        · exact absurd h zx
        · exact h
      · exact h
    exact fsG_ahead p q (pre ++ [z]) x h2 (fun e => n (List.mem_cons_of_mem _ e)) y (by simpa using hy)
theorem sw_first {ts : List Tr} (h : ts ≠ []) : Sw ts (fst3 ts :: ts.erase (fst3 ts)) := by
  obtain ⟨a, as, e⟩ := fs_ne h
  have m : fst3 ts ∈ fsG [] ts := by rw [fst_cons e, e]; exact (mn_spec as a).1
  obtain ⟨p, q, hs, hn⟩ : ∃ p q, ts = p ++ fst3 ts :: q ∧ fst3 ts ∉ p := by
    obtain ⟨p, q, h1, h2⟩ := List.eq_append_cons_of_mem (fst_mem h)
    exact ⟨p, q, h1, h2⟩
  generalize fst3 ts = f at *
  subst hs
  rw [List.erase_append_right _ hn, List.erase_cons_head]
  exact Sw.front _ p q _ rfl (fun y hy => fsG_ahead p q [] f m hn y (by simpa using hy)) (.refl _)
theorem sw_least : ∀ (n : Nat) (ts : List Tr), ts.length = n → Sw ts (least ts)
  | 0, ts, h => by
    rw [List.eq_nil_of_length_eq_zero h]
    exact .refl _
  | n + 1, ts, h => by
    have hne : ts ≠ [] := by intro e; rw [e] at h; cases h
    rw [least_cons hne]
    have l := erase_len (fst_mem hne)
    exact (sw_first hne).trans ((sw_least n _ (by omega)).cons _)
theorem least_least (ts : List Tr) : least (least ts) = least ts := (sw_least _ ts rfl).least
/-! ### lists compared -/
def ltL : List Tr → List Tr → Bool
  | _, [] => false
  | [], _ :: _ => true
  | x :: xs, y :: ys => if x = y then ltL xs ys else lt3 x y
theorem ltL_least : ∀ (n : Nat) (ts : List Tr), ts.length = n → ltL ts (least ts) = false
  | 0, ts, h => by
    rw [List.eq_nil_of_length_eq_zero h]
    rfl
  | n + 1, ts, h => by
    cases ts with
    | nil => cases h
    | cons x xs =>
      have hne : x :: xs ≠ [] := by simp
      rw [least_cons hne]
      obtain ⟨as, e⟩ : ∃ as, fsG [] (x :: xs) = x :: as := ⟨_, by unfold fsG; rw [if_pos (by rfl)]⟩
      have f := fst_cons e
      by_cases c : x = fst3 (x :: xs)
      · unfold ltL
        rw [if_pos c, ← c, List.erase_cons_head]
        exact ltL_least n xs (by simpa using h)
      · unfold ltL
        rw [if_neg c, f]
        exact (mn_spec as x).2 x (List.mem_cons_self ..)
theorem least_perm (ts : List Tr) : (least ts).length = ts.length ∧ ∀ x ∈ least ts, x ∈ ts := ⟨(sw_least _ ts rfl).len, (sw_least _ ts rfl).mem⟩
end G
namespace G
open PySem PySem.Spec PyProof.Rows L2
section
variable {X : Cx}
/-- xs > ys, lists or tuples of data that are alike -/
def rGtD (K : PySem.W.Frag) : R2 := fun x y H Q => ∃ d e, Dp K H x d ∧ Dp K H y e ∧ PySem.W.alike d e = true ∧ d ≠ .none ∧ d.depth ≤ 60 ∧ Q (.bl (PySem.W.dataLt e d)) H
theorem op_gtD (hu : X.A.units + 64 < cLine) : OpR X (compareOp .Gt) (rGtD X.K) := by
  intro pins s σ H x y v u Q I rx ry h
  obtain ⟨d, e, hd, he, al, dn, dd, q⟩ := h
  obtain ⟨as, r1⟩ := Dp.reads I d x v hd rx
  obtain ⟨bs, r2⟩ := Dp.reads I e y u he ry
  exact PySem.W.gt_data r1 r2 al dn (by omega) ⟨.bl _, H, I, rfl, q⟩
/-- xs.remove(y) of data -/
def rRemD (K : PySem.W.Frag) : V → List V → Hp → VK → Prop := fun x vs H Q => ∃ l xs y ds d j, x = .ref l ∧ vs = [y] ∧ H l = some (.lst xs) ∧ DpAll K H xs ds ∧ Dp K H y d ∧ PyData.plainAll ds = true ∧ d.plain = true ∧ d.depth ≤ 60 ∧ SeqAt.dataPlace ds d = some j ∧ Q .non (upd H l (.lst (xs.eraseIdx j)))
theorem mt_removeD (hu : X.A.units + 64 < cLine) : MtM X "list.remove" (rRemD X.K) := by
  intro pins s σ H x vs v us Q I rx rv h
  obtain ⟨l, xs, y, ds, d, j, rfl, rfl, hH, hds, hd, pa, pd, dd, hp, q⟩ := h
  cases rx
  obtain ⟨u, rfl, ru⟩ := rv.one
  obtain ⟨z, its, n, r, hl, e⟩ := I.lstM hH
  obtain ⟨as, rs⟩ := Dp.readsAll I ds xs its hds r
  obtain ⟨bs, rx⟩ := Dp.reads I d y u hd ru
  refine SeqAt.remove_list_data (j := j) (vs := its.toArray) ⟨_, e, rfl, n, rfl⟩ (by simpa using rs) rx pa pd (by omega) hp (by rw [List.size_toArray]; omega) ?_
  refine ⟨.non, _, I.lset (its' := its.eraseIdx j) hH e ?_ (r.eraseIdx j) ?_, rfl, q⟩
  · show its.toArray.eraseIdxIfInBounds j = (its.eraseIdx j).toArray
    rw [List.eraseIdxIfInBounds_toArray]
  · have := len_erase xs j
    omega
end
end G
namespace G
open PySem PySem.Spec PyProof.Rows L2
theorem valsAt : ∀ {xs : List V} {us : List Value} {i : Nat} {u : Value}, Vals xs us → us[i]? = some u → ∃ v, xs[i]? = some v ∧ RelV v u
  | _, _, _, _, .nil, h => by cases h
  | _, _, 0, _, .cons r _, h => by cases h; exact ⟨_, rfl, r⟩
  | _, _, i + 1, _, .cons _ t, h => valsAt (i := i) t h
theorem reads_at {h : Heap} : ∀ {us : List Value} {ds : List PyData} {as : List Addr} {i : Nat} {u : Value}, ReadsAll h us ds as → us[i]? = some u → ∃ d bs, ds[i]? = some d ∧ Reads h u d bs
  | _, _, _, _, _, .nil, h => by cases h
  | _, _, _, 0, _, .cons r _, h => by cases h; exact ⟨_, _, rfl, r⟩
  | _, _, _, i + 1, _, .cons _ t, h => reads_at (i := i) t h
theorem minD_mem : ∀ (xs : List PyData) (x : PyData), PySem.W.minD x xs ∈ x :: xs
  | [], x => List.mem_singleton.mpr rfl
  | z :: zs, x => by
    have e : PySem.W.minD x (z :: zs) = PySem.W.minD (if PySem.W.dataLt z x then z else x) zs := rfl
    rw [e]
    have := minD_mem zs (if PySem.W.dataLt z x then z else x)
    split at this <;> rename_i c
    · rw [if_pos c]; exact List.mem_cons_of_mem _ this
    · rw [if_neg c]
      rcases List.mem_cons.mp this with h | h
      · rw [h]; exact List.mem_cons_self ..
      · exact List.mem_cons_of_mem _ (List.mem_cons_of_mem _ h)
section
variable {X : Cx}
/-- min(xs) of data that are alike -/
def rMinD (K : PySem.W.Frag) : List V → Hp → VK → Prop := fun vs H Q => ∃ a xs d ds, vs = [.ref a] ∧ SqL K H a xs ∧ DpAll K H xs (d :: ds) ∧ PySem.W.AlikeAll (d :: ds) ∧ PyData.depthAll (d :: ds) ≤ 60 ∧
  ∀ (i : Nat) v, xs[i]? = some v → (d :: ds)[i]? = some (PySem.W.minD d ds) → Q v H
theorem cr_minD (hc : X.calm = true) (hu : X.A.units + 64 < cLine) : CallR X (.builtin "min") (rMinD X.K) := by
  intro pins s σ H vs us Q I r h
  obtain ⟨a, xs, d, ds, rfl, hs, hds, al, dd, q⟩ := h
  obtain ⟨its, rv, hl, _⟩ := I.list hs
  rw [Vals.ref1 r]
  obtain ⟨as, rs⟩ := Dp.readsAll I (d :: ds) xs its hds rv
  refine PySem.W.min_list_data (I.ok.hd hc) hl.isList (by simpa using rs) al (by omega) fun i u h' tk bs hi hr hk => ?_
  have hi' : its[i]? = some u := by simpa using hi
  obtain ⟨v, hv, rl⟩ := valsAt rv hi'
  obtain ⟨e, cs, he, hre⟩ := reads_at rs hi'
  have em : e = PySem.W.minD d ds := PySem.W.alike_unique _ _ _ _ _ (al.1 e (List.mem_of_getElem? he) _ (minD_mem ds d)) (Reads.keeps hk hre) hr
  exact ⟨v, H, I.kept hk, rl, q i v hv (by rw [← em]; exact he)⟩
end
/-! ### transfers as data -/
theorem eqv_i (x y : Int) : PyData.eqv (.int x) (.int y) = decide (x = y) := by
  simp only [PyData.eqv]
  by_cases h : x = y <;> simp [h]
theorem dataLt_tr (x y : Tr) : PySem.W.dataLt (trD x) (trD y) = lt3 x y := by
  have al : ∀ a b : Int, PySem.W.alike (.int a) (.int b) = true := fun _ _ => by rw [PySem.W.alike]
  have st : ∀ (a b : Int) (xs ys : List PyData), PyProof.Rows.lexLt itemOrd (PySem.W.keyToksAll (.int a :: xs)) (PySem.W.keyToksAll (.int b :: ys)) = if a = b then PyProof.Rows.lexLt itemOrd (PySem.W.keyToksAll xs) (PySem.W.keyToksAll ys) else decide (a < b) := fun a b xs ys => by
    by_cases c : a = b
    · rw [if_pos c, PySem.W.dataLt_all_yes (al a b) (by rw [eqv_i]; exact decide_eq_true c)]
    · rw [if_neg c, PySem.W.dataLt_all_no (al a b) (by rw [eqv_i]; exact decide_eq_false c), PySem.W.dataLt_int]
  unfold trD
  rw [PySem.W.dataLt_tuple, st, st, st]
  have z : PyProof.Rows.lexLt itemOrd (PySem.W.keyToksAll []) (PySem.W.keyToksAll []) = false := by
    rw [PySem.W.keyToksAll]
    exact (lex_self (O := itemOrd) _ [] []).trans rfl
  rw [z]
  unfold lt3
  by_cases a : x.1 = y.1
  · rw [if_pos a]
    by_cases b : x.2.1 = y.2.1
    · rw [if_pos b]
      by_cases c : x.2.2 = y.2.2
      · rw [if_pos c]
        exact (decide_eq_false (by omega)).symm
      · rw [if_neg c]
        exact decide_eq_decide.mpr (by omega)
    · rw [if_neg b]
      exact decide_eq_decide.mpr (by omega)
  · rw [if_neg a]
    exact decide_eq_decide.mpr (by omega)
theorem alike_tr (x y : Tr) : PySem.W.alike (trD x) (trD y) = true := by simp [trD, PySem.W.alike, PySem.W.alikeAll]
theorem alikeAll_tr (ts : List Tr) : PySem.W.AlikeAll (ts.map trD) := by
  refine ⟨fun a ha b hb => ?_, fun a ha e => ?_⟩
  · obtain ⟨x, _, rfl⟩ := List.mem_map.mp ha
    obtain ⟨y, _, rfl⟩ := List.mem_map.mp hb
    exact alike_tr x y
  · obtain ⟨x, _, rfl⟩ := List.mem_map.mp ha
    cases e
theorem minD_tr : ∀ (xs : List Tr) (x : Tr), PySem.W.minD (trD x) (xs.map trD) = trD (mn x xs)
  | [], _ => rfl
  | z :: zs, x => by
    show PySem.W.minD (if PySem.W.dataLt (trD z) (trD x) = true then trD z else trD x) (zs.map trD) = trD (mn (if lt3 z x = true then z else x) zs)
    rw [dataLt_tr]
    cases lt3 z x with
    | true => exact minD_tr zs z
    | false => exact minD_tr zs x
theorem trD_inj {x y : Tr} (h : trD x = trD y) : x = y := by
  simp only [trD, PyData.tuple.injEq, List.cons.injEq, PyData.int.injEq, and_true] at h
  obtain ⟨a, b, c⟩ := h
  exact Prod.ext a (Prod.ext b c)
theorem eqv_tr (x y : Tr) : PyData.eqv (trD x) (trD y) = (x == y) := by
  have e : PyData.eqv (trD x) (trD y) = (decide (x.1 = y.1) && (decide (x.2.1 = y.2.1) && decide (x.2.2 = y.2.2))) := by
    simp only [trD, PyData.eqv, PyData.eqvAll, Bool.and_true]
    rw [Bool.eq_iff_iff]
    simp
  rw [e]
  rw [Bool.eq_iff_iff, beq_iff_eq, Bool.and_eq_true, Bool.and_eq_true, decide_eq_true_eq, decide_eq_true_eq, decide_eq_true_eq]
  constructor
  · rintro ⟨a, b, c⟩
    exact Prod.ext a (Prod.ext b c)
  · rintro rfl
    exact ⟨rfl, rfl, rfl⟩
theorem alikeAll_ln : ∀ ts us : List Tr, PySem.W.alikeAll (ts.map trD) (us.map trD) = true
  | [], _ => by rw [List.map_nil, PySem.W.alikeAll]
  | _ :: _, [] => by rw [List.map_nil, List.map_cons, PySem.W.alikeAll]
  | x :: xs, y :: ys => by rw [List.map_cons, List.map_cons, PySem.W.alikeAll, alike_tr, alikeAll_ln xs ys]; rfl
theorem alike_ln (ts us : List Tr) : PySem.W.alike (lnD ts) (lnD us) = true := by
  unfold lnD
  rw [PySem.W.alike]
  exact alikeAll_ln ts us
theorem dataLt_ln : ∀ ts us : List Tr, PySem.W.dataLt (lnD ts) (lnD us) = ltL ts us := by
  intro ts us
  unfold lnD
  rw [PySem.W.dataLt_list]
  induction ts generalizing us with
  | nil =>
    cases us with
    | nil =>
      rw [List.map_nil, PySem.W.keyToksAll]
      exact (lex_self (O := itemOrd) _ [] []).trans rfl
    | cons y ys =>
      rw [List.map_nil, List.map_cons, PySem.W.keyToksAll, PySem.W.toks_all_cons, PySem.W.lex_atom (by decide), PySem.W.lex_one]
      rfl
  | cons x xs ih =>
    cases us with
    | nil =>
      rw [List.map_nil, List.map_cons, PySem.W.toks_all_cons, PySem.W.keyToksAll, PySem.W.lex_atom (by decide), PySem.W.lex_one]
      rfl
    | cons y ys =>
      rw [List.map_cons, List.map_cons]
      unfold ltL
      by_cases c : x = y
      · rw [if_pos c, PySem.W.dataLt_all_yes (alike_tr x y) (by rw [eqv_tr]; exact beq_iff_eq.mpr c)]
        exact ih ys
      · rw [if_neg c, PySem.W.dataLt_all_no (alike_tr x y) (by rw [eqv_tr]; exact beq_false_of_ne c), dataLt_tr]
theorem place_tr {ts : List Tr} {m : Tr} (h : m ∈ ts) : ∃ j, SeqAt.dataPlace (ts.map trD) (trD m) = some j ∧ ts.erase m = ts.eraseIdx j := by
  have e : SeqAt.dataPlace (ts.map trD) (trD m) = ts.idxOf? m := by
    unfold SeqAt.dataPlace List.idxOf?
    rw [List.findIdx?_map]
    congr 1
    funext y
    exact eqv_tr y m
  have er := List.erase_eq_eraseIdx ts m
  cases c : ts.idxOf? m with
  | none => exact absurd h (List.idxOf?_eq_none_iff.mp c)
  | some j =>
    rw [c] at er
    exact ⟨j, by rw [e, c], er⟩
theorem plainAll_tr : ∀ ts : List Tr, PyData.plainAll (ts.map trD) = true
  | [] => rfl
  | x :: xs => by
    show (PyData.plain (trD x) && PyData.plainAll (xs.map trD)) = true
    rw [plainAll_tr xs]
    rfl
end G
namespace G
open PySem PySem.Spec PyProof.Rows L2
theorem PL.erase {β : Type} {O : V → β → Prop} {vs : List V} {ys : List β} (h : PL O vs ys) : ∀ j, PL O (vs.eraseIdx j) (ys.eraseIdx j) := by
  induction h with
  | nil => intro j; exact .nil
  | cons a t ih =>
    intro j
    cases j with
    | zero => exact t
    | succ j => exact .cons a (ih j)
theorem pl_int {vs : List V} {ns : List Int} (h : PL (fun v n => v = V.int n) vs ns) : vs = ns.map V.int := by
  induction h with
  | nil => rfl
  | cons a _ ih => rw [List.map_cons, a, ih]
theorem PL.drop' {β : Type} {O : V → β → Prop} {vs : List V} {ys : List β} (h : PL O vs ys) : ∀ k, PL O (vs.drop k) (ys.drop k) := by
  induction h with
  | nil => intro k; rw [List.drop_nil, List.drop_nil]; exact .nil
  | cons a t ih =>
    intro k
    cases k with
    | zero => exact .cons a t
    | succ k => exact ih k
theorem eqv_ln (ts : List Tr) : PyData.eqv (lnD ts) (lnD ts) = true := by simp only [lnD, PyData.eqv, eqvAll_tr]
def spLst : Sp := fun vs H Q _ => ∃ a xs ts, vs = [.ref a] ∧ H a = some (.lst xs) ∧ Ts H xs ts ∧ (∀ x ∈ ts, Gd x) ∧ ts.length ≤ 24 ∧ ∀ L vs H', H L = none → Same H H' → H' L = some (.lst vs) → Ts H' vs (least ts) → Q (.ref L) H'
theorem w_minD {K : PySem.W.Frag} {H : Hp} {Q : VK} {a : Addr} {xs : List V} {us : List Tr} (ha : SqL K H a xs) (hT : Ts H xs us) (hu : us ≠ []) (q : ∀ v, T3 H v (us.foldl (fun a y => if lt3 y a = true then y else a) (us.headD t0)) → Q v H) : rMinD K [.ref a] H Q := by
  cases us with
  | nil => exact absurd rfl hu
  | cons d ds =>
    have e0 : (d :: ds).foldl (fun a y => if lt3 y a = true then y else a) ((d :: ds).headD t0) = mn d ds := by
      show ds.foldl (fun a y => if lt3 y a = true then y else a) (if lt3 d d = true then d else d) = mn d ds
      rw [lt3_irrefl]
      rfl
    rw [e0] at q
    have dp := hT.dp (K := K)
    refine ⟨a, xs, trD d, ds.map trD, rfl, ha, dp, alikeAll_tr (d :: ds), ?_, fun i v hv hi => ?_⟩
    · have := depthAll_le (m := 1) (ds := (d :: ds).map trD) fun d hd => by obtain ⟨x, _, rfl⟩ := List.mem_map.mp hd; exact trD_depth x
      exact Nat.le_trans this (by decide)
    · rw [minD_tr] at hi
      obtain ⟨y, hy, oy⟩ := hT.get hv
      have hi' : ((d :: ds).map trD)[i]? = some (trD (mn d ds)) := hi
      rw [List.getElem?_map, hy] at hi'
      have : y = mn d ds := trD_inj (Option.some.inj hi')
      exact q v (by rw [← this]; exact oy)
def mnL (us : List Tr) : Tr := us.foldl (fun a y => if lt3 y a = true then y else a) (us.headD t0)
theorem mnL_fst {ts : List Tr} (h : ts ≠ []) : mnL (fsG [] ts) = fst3 ts := by
  obtain ⟨a, as, e⟩ := fs_ne h
  rw [fst_cons e, e]
  show as.foldl (fun a y => if lt3 y a = true then y else a) (if lt3 a a = true then a else a) = mn a as
  rw [lt3_irrefl]
  rfl
theorem w_remD {K : PySem.W.Frag} {H : Hp} {Q : VK} {a : Addr} {xs : List V} {us : List Tr} {v : V} {m : Tr} (ha : H a = some (.lst xs)) (hT : Ts H xs us) (hv : T3 H v m) (hm : m ∈ us) (q : ∀ j H', us.erase m = us.eraseIdx j → Fr a H H' → H' a = some (.lst (xs.eraseIdx j)) → Q .non H') : rRemD K (.ref a) [v] H Q := by
  obtain ⟨j, hj, e⟩ := place_tr hm
  exact ⟨a, xs, v, us.map trD, trD m, j, rfl, rfl, ha, hT.dp, hv.dp, plainAll_tr us, rfl, Nat.le_trans (trD_depth m) (by decide), hj, q j _ e Fr.at_ upd_same⟩
theorem ints_nil {ns : List Int} : PyData.eqv (.list (ns.map PyData.int)) (.list []) = ns.isEmpty := by
  cases ns with
  | nil => simp only [List.map_nil, PyData.eqv, PyData.eqvAll]; rfl
  | cons n ns => simp only [List.map_cons, PyData.eqv, PyData.eqvAll]; rfl
theorem w_reprTwo {K : PySem.W.Frag} {H : Hp} {Q : VK} {a : Addr} {ts us : List Tr} (hd : Dp K H (.ref a) (lyD [ts, us])) (g : ∀ x ∈ ts, Gd x) (g' : ∀ x ∈ us, Gd x) (hl : ts.length ≤ 24) (hl' : us.length ≤ 24) (q : Q (.str (lyD [ts, us]).shown) H) : rRepr K [.ref a] H Q := by
  have two : ∀ l ∈ [ts, us], l.length ≤ 24 ∧ ∀ x ∈ l, Gd x := fun l h => by
    simp only [List.mem_cons, List.not_mem_nil, or_false] at h
    rcases h with rfl | rfl
    · exact ⟨hl, g⟩
    · exact ⟨hl', g'⟩
  exact w_repr hd (lyD_lim fun l h => (two l h).2) q (decide_eq_true (by have := lyD_cnt (ls := [ts, us]) (by show 2 ≤ 24; decide) fun l h => (two l h).1; omega)) (decide_eq_true (by have := lyD_depth [ts, us]; omega))
theorem ly_two {K : PySem.W.Frag} {H : Hp} {p a b : Addr} {vs ws : List V} {ts us : List Tr} (hp : H p = some (.lst [.ref a, .ref b])) (ha : H a = some (.lst vs)) (hT : Ts H vs ts) (hb : H b = some (.lst ws)) (hU : Ts H ws us) : Dp K H (.ref p) (lyD [ts, us]) :=
  .lst (SqL.of hp) (.cons (ln_dp ha hT) (.cons (ln_dp hb hU) .nil))
end G

namespace K62
open PySem L2 G
def top (i : Nat) : Stmt := PySem.Challenge.pw_stirred_k62_least_alike_lists.main.body.getD i (.Pass ⟨0, 0, 0, 0⟩)
abbrev s_is_whole : Stmt := (top 1)
abbrev N_is_whole : List Str := ["value"]
theorem sc_is_whole : FnScope N_is_whole ["value"] (defScope s_is_whole) := ⟨rfl, rfl, rfl, by decide +kernel, rfl, by decide +kernel, by decide +kernel⟩
abbrev s_is_whole_within : Stmt := (top 2)
abbrev N_is_whole_within : List Str := ["value", "least", "most"]
theorem sc_is_whole_within : FnScope N_is_whole_within ["value", "least", "most"] (defScope s_is_whole_within) := ⟨rfl, rfl, rfl, by decide +kernel, rfl, by decide +kernel, by decide +kernel⟩
abbrev s_is_list_within : Stmt := (top 3)
abbrev N_is_list_within : List Str := ["value", "least", "most"]
theorem sc_is_list_within : FnScope N_is_list_within ["value", "least", "most"] (defScope s_is_list_within) := ⟨rfl, rfl, rfl, by decide +kernel, rfl, by decide +kernel, by decide +kernel⟩
abbrev s_is_transfer : Stmt := (top 11)
abbrev N_is_transfer : List Str := ["value", "giver", "taker", "amount", "vessel"]
theorem sc_is_transfer : FnScope N_is_transfer ["value"] (defScope s_is_transfer) := ⟨rfl, rfl, rfl, by decide +kernel, rfl, by decide +kernel, by decide +kernel⟩
abbrev s_is_transfers : Stmt := (top 12)
abbrev N_is_transfers : List Str := ["value", "transfer"]
theorem sc_is_transfers : FnScope N_is_transfers ["value"] (defScope s_is_transfers) := ⟨rfl, rfl, rfl, by decide +kernel, rfl, by decide +kernel, by decide +kernel⟩
abbrev s_check_transfers : Stmt := (top 13)
abbrev N_check_transfers : List Str := ["transfers"]
theorem sc_check_transfers : FnScope N_check_transfers ["transfers"] (defScope s_check_transfers) := ⟨rfl, rfl, rfl, by decide +kernel, rfl, by decide +kernel, by decide +kernel⟩
abbrev s_least_alike : Stmt := (top 15)
abbrev N_least_alike : List Str := ["transfers", "found", "rest", "least", "at"]
theorem sc_least_alike : FnScope N_least_alike ["transfers"] (defScope s_least_alike) := ⟨rfl, rfl, rfl, by decide +kernel, rfl, by decide +kernel, by decide +kernel⟩
abbrev s_are_free : Stmt := (top 16)
abbrev N_are_free : List Str := ["one", "other"]
theorem sc_are_free : FnScope N_are_free ["one", "other"] (defScope s_are_free) := ⟨rfl, rfl, rfl, by decide +kernel, rfl, by decide +kernel, by decide +kernel⟩
abbrev s_indices_of_first : Stmt := (top 17)
abbrev N_indices_of_first : List Str := ["transfers", "at", "transfer", "ahead"]
theorem sc_indices_of_first : FnScope N_indices_of_first ["transfers"] (defScope s_indices_of_first) := ⟨rfl, rfl, rfl, by decide +kernel, rfl, by decide +kernel, by decide +kernel⟩
abbrev s_law_pool : Stmt := (top 19)
abbrev N_law_pool : List Str := ["script", "k", "cell"]
theorem sc_law_pool : FnScope N_law_pool ["script", "k"] (defScope s_law_pool) := ⟨rfl, rfl, rfl, by decide +kernel, rfl, by decide +kernel, by decide +kernel⟩
abbrev s_law_draw : Stmt := (top 20)
abbrev N_law_draw : List Str := ["pool", "many", "digit", "mixed"]
theorem sc_law_draw : FnScope N_law_draw ["pool", "many"] (defScope s_law_draw) := ⟨rfl, rfl, rfl, by decide +kernel, rfl, by decide +kernel, by decide +kernel⟩
abbrev s_law_any : Stmt := (top 21)
abbrev N_law_any : List Str := ["pool", "most", "wide", "great", "found", "turn", "giver"]
theorem sc_law_any : FnScope N_law_any ["pool", "most"] (defScope s_law_any) := ⟨rfl, rfl, rfl, by decide +kernel, rfl, by decide +kernel, by decide +kernel⟩
abbrev s_law_is_free : Stmt := (top 22)
abbrev N_law_is_free : List Str := ["here", "there"]
theorem sc_law_is_free : FnScope N_law_is_free ["here", "there"] (defScope s_law_is_free) := ⟨rfl, rfl, rfl, by decide +kernel, rfl, by decide +kernel, by decide +kernel⟩
abbrev s_law_shuffled : Stmt := (top 23)
abbrev N_law_shuffled : List Str := ["pool", "line", "found", "turn", "at", "here"]
theorem sc_law_shuffled : FnScope N_law_shuffled ["pool", "line"] (defScope s_law_shuffled) := ⟨rfl, rfl, rfl, by decide +kernel, rfl, by decide +kernel, by decide +kernel⟩
abbrev s_law_least : Stmt := (top 24)
abbrev N_law_least : List Str := ["line", "left", "found", "able", "at", "here", "there"]
theorem sc_law_least : FnScope N_law_least ["line"] (defScope s_law_least) := ⟨rfl, rfl, rfl, by decide +kernel, rfl, by decide +kernel, by decide +kernel⟩
abbrev s_law_right : Stmt := (top 25)
abbrev N_law_right : List Str := ["line", "kept", "due", "told"]
theorem sc_law_right : FnScope N_law_right ["line"] (defScope s_law_right) := ⟨rfl, rfl, rfl, by decide +kernel, rfl, by decide +kernel, by decide +kernel⟩
abbrev s_law : Stmt := (top 26)
abbrev N_law : List Str := ["script", "k", "pool", "line", "turn", "near"]
theorem sc_law : FnScope N_law ["script"] (defScope s_law) := ⟨rfl, rfl, rfl, by decide +kernel, rfl, by decide +kernel, by decide +kernel⟩
structure Ad where
  a_is_whole : Addr
  d_is_whole : FuncData
  a_is_whole_within : Addr
  d_is_whole_within : FuncData
  a_is_list_within : Addr
  d_is_list_within : FuncData
  a_is_transfer : Addr
  d_is_transfer : FuncData
  a_is_transfers : Addr
  d_is_transfers : FuncData
  a_check_transfers : Addr
  d_check_transfers : FuncData
  a_least_alike : Addr
  d_least_alike : FuncData
  a_are_free : Addr
  d_are_free : FuncData
  a_indices_of_first : Addr
  d_indices_of_first : FuncData
  a_law_pool : Addr
  d_law_pool : FuncData
  a_law_draw : Addr
  d_law_draw : FuncData
  a_law_any : Addr
  d_law_any : FuncData
  a_law_is_free : Addr
  d_law_is_free : FuncData
  a_law_shuffled : Addr
  d_law_shuffled : FuncData
  a_law_least : Addr
  d_law_least : FuncData
  a_law_right : Addr
  d_law_right : FuncData
  a_law : Addr
  d_law : FuncData
structure Txt (K : PySem.W.Frag) (mg : Str → Option Value) (A : Ad) : Prop where
  fun_is_whole : Fun K "is_whole" "is_whole" s_is_whole A.a_is_whole A.d_is_whole
  bd_is_whole : Binds K A.d_is_whole ["value"] []
  mg_is_whole : mg "is_whole" = some (.ref A.a_is_whole)
  fun_is_whole_within : Fun K "is_whole_within" "is_whole_within" s_is_whole_within A.a_is_whole_within A.d_is_whole_within
  bd_is_whole_within : Binds K A.d_is_whole_within ["value", "least", "most"] []
  mg_is_whole_within : mg "is_whole_within" = some (.ref A.a_is_whole_within)
  fun_is_list_within : Fun K "is_list_within" "is_list_within" s_is_list_within A.a_is_list_within A.d_is_list_within
  bd_is_list_within : Binds K A.d_is_list_within ["value", "least", "most"] []
  mg_is_list_within : mg "is_list_within" = some (.ref A.a_is_list_within)
  fun_is_transfer : Fun K "is_transfer" "is_transfer" s_is_transfer A.a_is_transfer A.d_is_transfer
  bd_is_transfer : Binds K A.d_is_transfer ["value"] []
  mg_is_transfer : mg "is_transfer" = some (.ref A.a_is_transfer)
  fun_is_transfers : Fun K "is_transfers" "is_transfers" s_is_transfers A.a_is_transfers A.d_is_transfers
  bd_is_transfers : Binds K A.d_is_transfers ["value"] []
  mg_is_transfers : mg "is_transfers" = some (.ref A.a_is_transfers)
  fun_check_transfers : Fun K "check_transfers" "check_transfers" s_check_transfers A.a_check_transfers A.d_check_transfers
  bd_check_transfers : Binds K A.d_check_transfers ["transfers"] []
  mg_check_transfers : mg "check_transfers" = some (.ref A.a_check_transfers)
  fun_least_alike : Fun K "least_alike" "least_alike" s_least_alike A.a_least_alike A.d_least_alike
  bd_least_alike : Binds K A.d_least_alike ["transfers"] []
  mg_least_alike : mg "least_alike" = some (.ref A.a_least_alike)
  fun_are_free : Fun K "_are_free" "_are_free" s_are_free A.a_are_free A.d_are_free
  bd_are_free : Binds K A.d_are_free ["one", "other"] []
  mg_are_free : mg "_are_free" = some (.ref A.a_are_free)
  fun_indices_of_first : Fun K "_indices_of_first" "_indices_of_first" s_indices_of_first A.a_indices_of_first A.d_indices_of_first
  bd_indices_of_first : Binds K A.d_indices_of_first ["transfers"] []
  mg_indices_of_first : mg "_indices_of_first" = some (.ref A.a_indices_of_first)
  fun_law_pool : Fun K "_law_pool" "_law_pool" s_law_pool A.a_law_pool A.d_law_pool
  bd_law_pool : Binds K A.d_law_pool ["script", "k"] []
  mg_law_pool : mg "_law_pool" = some (.ref A.a_law_pool)
  fun_law_draw : Fun K "_law_draw" "_law_draw" s_law_draw A.a_law_draw A.d_law_draw
  bd_law_draw : Binds K A.d_law_draw ["pool", "many"] []
  mg_law_draw : mg "_law_draw" = some (.ref A.a_law_draw)
  fun_law_any : Fun K "_law_any" "_law_any" s_law_any A.a_law_any A.d_law_any
  bd_law_any : Binds K A.d_law_any ["pool", "most"] []
  mg_law_any : mg "_law_any" = some (.ref A.a_law_any)
  fun_law_is_free : Fun K "_law_is_free" "_law_is_free" s_law_is_free A.a_law_is_free A.d_law_is_free
  bd_law_is_free : Binds K A.d_law_is_free ["here", "there"] []
  mg_law_is_free : mg "_law_is_free" = some (.ref A.a_law_is_free)
  fun_law_shuffled : Fun K "_law_shuffled" "_law_shuffled" s_law_shuffled A.a_law_shuffled A.d_law_shuffled
  bd_law_shuffled : Binds K A.d_law_shuffled ["pool", "line"] []
  mg_law_shuffled : mg "_law_shuffled" = some (.ref A.a_law_shuffled)
  fun_law_least : Fun K "_law_least" "_law_least" s_law_least A.a_law_least A.d_law_least
  bd_law_least : Binds K A.d_law_least ["line"] []
  mg_law_least : mg "_law_least" = some (.ref A.a_law_least)
  fun_law_right : Fun K "_law_right" "_law_right" s_law_right A.a_law_right A.d_law_right
  bd_law_right : Binds K A.d_law_right ["line"] []
  mg_law_right : mg "_law_right" = some (.ref A.a_law_right)
  fun_law : Fun K "law" "law" s_law A.a_law A.d_law
  bd_law : Binds K A.d_law ["script"] []
  mg_law : mg "law" = some (.ref A.a_law)
  ki_int_int : PySem.W.kitOne K (.type "int") (.type "int") = some true
  ki_int_bool : PySem.W.kitOne K (.type "int") (.type "bool") = some false
  gi_MOST_VESSELS : ∃ t, mg "MOST_VESSELS" = some (.int 8 t)
  gi_MOST_TRANSFERS : ∃ t, mg "MOST_TRANSFERS" = some (.int 24 t)
  gi_MOST_DROPS : ∃ t, mg "MOST_DROPS" = some (.int 1000000 t)
  z_isinstance : mg "isinstance" = none
  z_int : mg "int" = none
  z_bool : mg "bool" = none
  z_len : mg "len" = none
  z_range : mg "range" = none
  z_enumerate : mg "enumerate" = none
  z_list : mg "list" = none
  z_tuple : mg "tuple" = none
  z_type : mg "type" = none
  z_all : mg "all" = none
  z_max : mg "max" = none
  z_min : mg "min" = none
  z_repr : mg "repr" = none
theorem txt_mk {K : PySem.W.Frag} {h : Heap} {mg : Str → Option Value} (X : K.In h) (G : h.Ns mainGlobals mg)
  {tk_MOST_DROPS : Tok}
  {tk_MOST_TRANSFERS : Tok}
  {tk_MOST_VESSELS : Tok}
  {a_law : Addr} {oc_law kV_law dc_law pm_law cd_law ct_law : Value} {od_law an_law : Option Addr} {sl_law : Array (Option Value)}
  {a_law_right : Addr} {oc_law_right kV_law_right dc_law_right pm_law_right cd_law_right ct_law_right : Value} {od_law_right an_law_right : Option Addr} {sl_law_right : Array (Option Value)}
  {a_law_least : Addr} {oc_law_least kV_law_least dc_law_least pm_law_least cd_law_least ct_law_least : Value} {od_law_least an_law_least : Option Addr} {sl_law_least : Array (Option Value)}
  {a_law_shuffled : Addr} {oc_law_shuffled kV_law_shuffled dc_law_shuffled pm_law_shuffled cd_law_shuffled ct_law_shuffled : Value} {od_law_shuffled an_law_shuffled : Option Addr} {sl_law_shuffled : Array (Option Value)}
  {a_law_is_free : Addr} {oc_law_is_free kV_law_is_free dc_law_is_free pm_law_is_free cd_law_is_free ct_law_is_free : Value} {od_law_is_free an_law_is_free : Option Addr} {sl_law_is_free : Array (Option Value)}
  {a_law_any : Addr} {oc_law_any kV_law_any dc_law_any pm_law_any cd_law_any ct_law_any : Value} {od_law_any an_law_any : Option Addr} {sl_law_any : Array (Option Value)}
  {a_law_draw : Addr} {oc_law_draw kV_law_draw dc_law_draw pm_law_draw cd_law_draw ct_law_draw : Value} {od_law_draw an_law_draw : Option Addr} {sl_law_draw : Array (Option Value)}
  {a_law_pool : Addr} {oc_law_pool kV_law_pool dc_law_pool pm_law_pool cd_law_pool ct_law_pool : Value} {od_law_pool an_law_pool : Option Addr} {sl_law_pool : Array (Option Value)}
  {a_indices_of_first : Addr} {oc_indices_of_first kV_indices_of_first dc_indices_of_first pm_indices_of_first cd_indices_of_first ct_indices_of_first : Value} {od_indices_of_first an_indices_of_first : Option Addr} {sl_indices_of_first : Array (Option Value)}
  {a_are_free : Addr} {oc_are_free kV_are_free dc_are_free pm_are_free cd_are_free ct_are_free : Value} {od_are_free an_are_free : Option Addr} {sl_are_free : Array (Option Value)}
  {a_least_alike : Addr} {oc_least_alike kV_least_alike dc_least_alike pm_least_alike cd_least_alike ct_least_alike : Value} {od_least_alike an_least_alike : Option Addr} {sl_least_alike : Array (Option Value)}
  {a_check_transfers : Addr} {oc_check_transfers kV_check_transfers dc_check_transfers pm_check_transfers cd_check_transfers ct_check_transfers : Value} {od_check_transfers an_check_transfers : Option Addr} {sl_check_transfers : Array (Option Value)}
  {a_is_transfers : Addr} {oc_is_transfers kV_is_transfers dc_is_transfers pm_is_transfers cd_is_transfers ct_is_transfers : Value} {od_is_transfers an_is_transfers : Option Addr} {sl_is_transfers : Array (Option Value)}
  {a_is_transfer : Addr} {oc_is_transfer kV_is_transfer dc_is_transfer pm_is_transfer cd_is_transfer ct_is_transfer : Value} {od_is_transfer an_is_transfer : Option Addr} {sl_is_transfer : Array (Option Value)}
  {a_is_list_within : Addr} {oc_is_list_within kV_is_list_within dc_is_list_within pm_is_list_within cd_is_list_within ct_is_list_within : Value} {od_is_list_within an_is_list_within : Option Addr} {sl_is_list_within : Array (Option Value)}
  {a_is_whole_within : Addr} {oc_is_whole_within kV_is_whole_within dc_is_whole_within pm_is_whole_within cd_is_whole_within ct_is_whole_within : Value} {od_is_whole_within an_is_whole_within : Option Addr} {sl_is_whole_within : Array (Option Value)}
  {a_is_whole : Addr} {oc_is_whole kV_is_whole dc_is_whole pm_is_whole cd_is_whole ct_is_whole : Value} {od_is_whole an_is_whole : Option Addr} {sl_is_whole : Array (Option Value)}
  (m_is_whole : PySem.W.nsIn K mainGlobals "is_whole" = some (some (.ref a_is_whole)))
  (l_is_whole : K.lookup a_is_whole = some ⟨oc_is_whole, od_is_whole, .func (PySem.W.fnOf "is_whole" "is_whole" (defArgs s_is_whole) (defBody s_is_whole) (defScope s_is_whole) (.none) kV_is_whole dc_is_whole pm_is_whole an_is_whole cd_is_whole ct_is_whole), sl_is_whole⟩)
  (k_is_whole : PySem.W.codeIn K cd_is_whole "is_whole" = true)
  (e_is_whole : PySem.W.keepIn K (.ref a_is_whole) = true)
  (m_is_whole_within : PySem.W.nsIn K mainGlobals "is_whole_within" = some (some (.ref a_is_whole_within)))
  (l_is_whole_within : K.lookup a_is_whole_within = some ⟨oc_is_whole_within, od_is_whole_within, .func (PySem.W.fnOf "is_whole_within" "is_whole_within" (defArgs s_is_whole_within) (defBody s_is_whole_within) (defScope s_is_whole_within) (.none) kV_is_whole_within dc_is_whole_within pm_is_whole_within an_is_whole_within cd_is_whole_within ct_is_whole_within), sl_is_whole_within⟩)
  (k_is_whole_within : PySem.W.codeIn K cd_is_whole_within "is_whole_within" = true)
  (e_is_whole_within : PySem.W.keepIn K (.ref a_is_whole_within) = true)
  (m_is_list_within : PySem.W.nsIn K mainGlobals "is_list_within" = some (some (.ref a_is_list_within)))
  (l_is_list_within : K.lookup a_is_list_within = some ⟨oc_is_list_within, od_is_list_within, .func (PySem.W.fnOf "is_list_within" "is_list_within" (defArgs s_is_list_within) (defBody s_is_list_within) (defScope s_is_list_within) (.none) kV_is_list_within dc_is_list_within pm_is_list_within an_is_list_within cd_is_list_within ct_is_list_within), sl_is_list_within⟩)
  (k_is_list_within : PySem.W.codeIn K cd_is_list_within "is_list_within" = true)
  (e_is_list_within : PySem.W.keepIn K (.ref a_is_list_within) = true)
  (m_is_transfer : PySem.W.nsIn K mainGlobals "is_transfer" = some (some (.ref a_is_transfer)))
  (l_is_transfer : K.lookup a_is_transfer = some ⟨oc_is_transfer, od_is_transfer, .func (PySem.W.fnOf "is_transfer" "is_transfer" (defArgs s_is_transfer) (defBody s_is_transfer) (defScope s_is_transfer) (.none) kV_is_transfer dc_is_transfer pm_is_transfer an_is_transfer cd_is_transfer ct_is_transfer), sl_is_transfer⟩)
  (k_is_transfer : PySem.W.codeIn K cd_is_transfer "is_transfer" = true)
  (e_is_transfer : PySem.W.keepIn K (.ref a_is_transfer) = true)
  (m_is_transfers : PySem.W.nsIn K mainGlobals "is_transfers" = some (some (.ref a_is_transfers)))
  (l_is_transfers : K.lookup a_is_transfers = some ⟨oc_is_transfers, od_is_transfers, .func (PySem.W.fnOf "is_transfers" "is_transfers" (defArgs s_is_transfers) (defBody s_is_transfers) (defScope s_is_transfers) (.none) kV_is_transfers dc_is_transfers pm_is_transfers an_is_transfers cd_is_transfers ct_is_transfers), sl_is_transfers⟩)
  (k_is_transfers : PySem.W.codeIn K cd_is_transfers "is_transfers" = true)
  (e_is_transfers : PySem.W.keepIn K (.ref a_is_transfers) = true)
  (m_check_transfers : PySem.W.nsIn K mainGlobals "check_transfers" = some (some (.ref a_check_transfers)))
  (l_check_transfers : K.lookup a_check_transfers = some ⟨oc_check_transfers, od_check_transfers, .func (PySem.W.fnOf "check_transfers" "check_transfers" (defArgs s_check_transfers) (defBody s_check_transfers) (defScope s_check_transfers) (.none) kV_check_transfers dc_check_transfers pm_check_transfers an_check_transfers cd_check_transfers ct_check_transfers), sl_check_transfers⟩)
  (k_check_transfers : PySem.W.codeIn K cd_check_transfers "check_transfers" = true)
  (e_check_transfers : PySem.W.keepIn K (.ref a_check_transfers) = true)
  (m_least_alike : PySem.W.nsIn K mainGlobals "least_alike" = some (some (.ref a_least_alike)))
  (l_least_alike : K.lookup a_least_alike = some ⟨oc_least_alike, od_least_alike, .func (PySem.W.fnOf "least_alike" "least_alike" (defArgs s_least_alike) (defBody s_least_alike) (defScope s_least_alike) (.none) kV_least_alike dc_least_alike pm_least_alike an_least_alike cd_least_alike ct_least_alike), sl_least_alike⟩)
  (k_least_alike : PySem.W.codeIn K cd_least_alike "least_alike" = true)
  (e_least_alike : PySem.W.keepIn K (.ref a_least_alike) = true)
  (m_are_free : PySem.W.nsIn K mainGlobals "_are_free" = some (some (.ref a_are_free)))
  (l_are_free : K.lookup a_are_free = some ⟨oc_are_free, od_are_free, .func (PySem.W.fnOf "_are_free" "_are_free" (defArgs s_are_free) (defBody s_are_free) (defScope s_are_free) (.none) kV_are_free dc_are_free pm_are_free an_are_free cd_are_free ct_are_free), sl_are_free⟩)
  (k_are_free : PySem.W.codeIn K cd_are_free "_are_free" = true)
  (e_are_free : PySem.W.keepIn K (.ref a_are_free) = true)
  (m_indices_of_first : PySem.W.nsIn K mainGlobals "_indices_of_first" = some (some (.ref a_indices_of_first)))
  (l_indices_of_first : K.lookup a_indices_of_first = some ⟨oc_indices_of_first, od_indices_of_first, .func (PySem.W.fnOf "_indices_of_first" "_indices_of_first" (defArgs s_indices_of_first) (defBody s_indices_of_first) (defScope s_indices_of_first) (.none) kV_indices_of_first dc_indices_of_first pm_indices_of_first an_indices_of_first cd_indices_of_first ct_indices_of_first), sl_indices_of_first⟩)
  (k_indices_of_first : PySem.W.codeIn K cd_indices_of_first "_indices_of_first" = true)
  (e_indices_of_first : PySem.W.keepIn K (.ref a_indices_of_first) = true)
  (m_law_pool : PySem.W.nsIn K mainGlobals "_law_pool" = some (some (.ref a_law_pool)))
  (l_law_pool : K.lookup a_law_pool = some ⟨oc_law_pool, od_law_pool, .func (PySem.W.fnOf "_law_pool" "_law_pool" (defArgs s_law_pool) (defBody s_law_pool) (defScope s_law_pool) (.none) kV_law_pool dc_law_pool pm_law_pool an_law_pool cd_law_pool ct_law_pool), sl_law_pool⟩)
  (k_law_pool : PySem.W.codeIn K cd_law_pool "_law_pool" = true)
  (e_law_pool : PySem.W.keepIn K (.ref a_law_pool) = true)
  (m_law_draw : PySem.W.nsIn K mainGlobals "_law_draw" = some (some (.ref a_law_draw)))
  (l_law_draw : K.lookup a_law_draw = some ⟨oc_law_draw, od_law_draw, .func (PySem.W.fnOf "_law_draw" "_law_draw" (defArgs s_law_draw) (defBody s_law_draw) (defScope s_law_draw) (.none) kV_law_draw dc_law_draw pm_law_draw an_law_draw cd_law_draw ct_law_draw), sl_law_draw⟩)
  (k_law_draw : PySem.W.codeIn K cd_law_draw "_law_draw" = true)
  (e_law_draw : PySem.W.keepIn K (.ref a_law_draw) = true)
  (m_law_any : PySem.W.nsIn K mainGlobals "_law_any" = some (some (.ref a_law_any)))
  (l_law_any : K.lookup a_law_any = some ⟨oc_law_any, od_law_any, .func (PySem.W.fnOf "_law_any" "_law_any" (defArgs s_law_any) (defBody s_law_any) (defScope s_law_any) (.none) kV_law_any dc_law_any pm_law_any an_law_any cd_law_any ct_law_any), sl_law_any⟩)
  (k_law_any : PySem.W.codeIn K cd_law_any "_law_any" = true)
  (e_law_any : PySem.W.keepIn K (.ref a_law_any) = true)
  (m_law_is_free : PySem.W.nsIn K mainGlobals "_law_is_free" = some (some (.ref a_law_is_free)))
  (l_law_is_free : K.lookup a_law_is_free = some ⟨oc_law_is_free, od_law_is_free, .func (PySem.W.fnOf "_law_is_free" "_law_is_free" (defArgs s_law_is_free) (defBody s_law_is_free) (defScope s_law_is_free) (.none) kV_law_is_free dc_law_is_free pm_law_is_free an_law_is_free cd_law_is_free ct_law_is_free), sl_law_is_free⟩)
  (k_law_is_free : PySem.W.codeIn K cd_law_is_free "_law_is_free" = true)
  (e_law_is_free : PySem.W.keepIn K (.ref a_law_is_free) = true)
  (m_law_shuffled : PySem.W.nsIn K mainGlobals "_law_shuffled" = some (some (.ref a_law_shuffled)))
  (l_law_shuffled : K.lookup a_law_shuffled = some ⟨oc_law_shuffled, od_law_shuffled, .func (PySem.W.fnOf "_law_shuffled" "_law_shuffled" (defArgs s_law_shuffled) (defBody s_law_shuffled) (defScope s_law_shuffled) (.none) kV_law_shuffled dc_law_shuffled pm_law_shuffled an_law_shuffled cd_law_shuffled ct_law_shuffled), sl_law_shuffled⟩)
  (k_law_shuffled : PySem.W.codeIn K cd_law_shuffled "_law_shuffled" = true)
  (e_law_shuffled : PySem.W.keepIn K (.ref a_law_shuffled) = true)
  (m_law_least : PySem.W.nsIn K mainGlobals "_law_least" = some (some (.ref a_law_least)))
  (l_law_least : K.lookup a_law_least = some ⟨oc_law_least, od_law_least, .func (PySem.W.fnOf "_law_least" "_law_least" (defArgs s_law_least) (defBody s_law_least) (defScope s_law_least) (.none) kV_law_least dc_law_least pm_law_least an_law_least cd_law_least ct_law_least), sl_law_least⟩)
  (k_law_least : PySem.W.codeIn K cd_law_least "_law_least" = true)
  (e_law_least : PySem.W.keepIn K (.ref a_law_least) = true)
  (m_law_right : PySem.W.nsIn K mainGlobals "_law_right" = some (some (.ref a_law_right)))
  (l_law_right : K.lookup a_law_right = some ⟨oc_law_right, od_law_right, .func (PySem.W.fnOf "_law_right" "_law_right" (defArgs s_law_right) (defBody s_law_right) (defScope s_law_right) (.none) kV_law_right dc_law_right pm_law_right an_law_right cd_law_right ct_law_right), sl_law_right⟩)
  (k_law_right : PySem.W.codeIn K cd_law_right "_law_right" = true)
  (e_law_right : PySem.W.keepIn K (.ref a_law_right) = true)
  (m_law : PySem.W.nsIn K mainGlobals "law" = some (some (.ref a_law)))
  (l_law : K.lookup a_law = some ⟨oc_law, od_law, .func (PySem.W.fnOf "law" "law" (defArgs s_law) (defBody s_law) (defScope s_law) (.none) kV_law dc_law pm_law an_law cd_law ct_law), sl_law⟩)
  (k_law : PySem.W.codeIn K cd_law "law" = true)
  (e_law : PySem.W.keepIn K (.ref a_law) = true)
  (gi_MOST_VESSELS : PySem.W.nsIn K mainGlobals "MOST_VESSELS" = some (some (.int 8 tk_MOST_VESSELS)))
  (gi_MOST_TRANSFERS : PySem.W.nsIn K mainGlobals "MOST_TRANSFERS" = some (some (.int 24 tk_MOST_TRANSFERS)))
  (gi_MOST_DROPS : PySem.W.nsIn K mainGlobals "MOST_DROPS" = some (some (.int 1000000 tk_MOST_DROPS)))
  (z_isinstance : PySem.W.nsIn K mainGlobals "isinstance" = some none)
  (z_int : PySem.W.nsIn K mainGlobals "int" = some none)
  (z_bool : PySem.W.nsIn K mainGlobals "bool" = some none)
  (z_len : PySem.W.nsIn K mainGlobals "len" = some none)
  (z_range : PySem.W.nsIn K mainGlobals "range" = some none)
  (z_enumerate : PySem.W.nsIn K mainGlobals "enumerate" = some none)
  (z_list : PySem.W.nsIn K mainGlobals "list" = some none)
  (z_tuple : PySem.W.nsIn K mainGlobals "tuple" = some none)
  (z_type : PySem.W.nsIn K mainGlobals "type" = some none)
  (z_all : PySem.W.nsIn K mainGlobals "all" = some none)
  (z_max : PySem.W.nsIn K mainGlobals "max" = some none)
  (z_min : PySem.W.nsIn K mainGlobals "min" = some none)
  (z_repr : PySem.W.nsIn K mainGlobals "repr" = some none) :
  Txt K mg ⟨a_is_whole, (PySem.W.fnOf "is_whole" "is_whole" (defArgs s_is_whole) (defBody s_is_whole) (defScope s_is_whole) (.none) kV_is_whole dc_is_whole pm_is_whole an_is_whole cd_is_whole ct_is_whole), a_is_whole_within, (PySem.W.fnOf "is_whole_within" "is_whole_within" (defArgs s_is_whole_within) (defBody s_is_whole_within) (defScope s_is_whole_within) (.none) kV_is_whole_within dc_is_whole_within pm_is_whole_within an_is_whole_within cd_is_whole_within ct_is_whole_within), a_is_list_within, (PySem.W.fnOf "is_list_within" "is_list_within" (defArgs s_is_list_within) (defBody s_is_list_within) (defScope s_is_list_within) (.none) kV_is_list_within dc_is_list_within pm_is_list_within an_is_list_within cd_is_list_within ct_is_list_within), a_is_transfer, (PySem.W.fnOf "is_transfer" "is_transfer" (defArgs s_is_transfer) (defBody s_is_transfer) (defScope s_is_transfer) (.none) kV_is_transfer dc_is_transfer pm_is_transfer an_is_transfer cd_is_transfer ct_is_transfer), a_is_transfers, (PySem.W.fnOf "is_transfers" "is_transfers" (defArgs s_is_transfers) (defBody s_is_transfers) (defScope s_is_transfers) (.none) kV_is_transfers dc_is_transfers pm_is_transfers an_is_transfers cd_is_transfers ct_is_transfers), a_check_transfers, (PySem.W.fnOf "check_transfers" "check_transfers" (defArgs s_check_transfers) (defBody s_check_transfers) (defScope s_check_transfers) (.none) kV_check_transfers dc_check_transfers pm_check_transfers an_check_transfers cd_check_transfers ct_check_transfers), a_least_alike, (PySem.W.fnOf "least_alike" "least_alike" (defArgs s_least_alike) (defBody s_least_alike) (defScope s_least_alike) (.none) kV_least_alike dc_least_alike pm_least_alike an_least_alike cd_least_alike ct_least_alike), a_are_free, (PySem.W.fnOf "_are_free" "_are_free" (defArgs s_are_free) (defBody s_are_free) (defScope s_are_free) (.none) kV_are_free dc_are_free pm_are_free an_are_free cd_are_free ct_are_free), a_indices_of_first, (PySem.W.fnOf "_indices_of_first" "_indices_of_first" (defArgs s_indices_of_first) (defBody s_indices_of_first) (defScope s_indices_of_first) (.none) kV_indices_of_first dc_indices_of_first pm_indices_of_first an_indices_of_first cd_indices_of_first ct_indices_of_first), a_law_pool, (PySem.W.fnOf "_law_pool" "_law_pool" (defArgs s_law_pool) (defBody s_law_pool) (defScope s_law_pool) (.none) kV_law_pool dc_law_pool pm_law_pool an_law_pool cd_law_pool ct_law_pool), a_law_draw, (PySem.W.fnOf "_law_draw" "_law_draw" (defArgs s_law_draw) (defBody s_law_draw) (defScope s_law_draw) (.none) kV_law_draw dc_law_draw pm_law_draw an_law_draw cd_law_draw ct_law_draw), a_law_any, (PySem.W.fnOf "_law_any" "_law_any" (defArgs s_law_any) (defBody s_law_any) (defScope s_law_any) (.none) kV_law_any dc_law_any pm_law_any an_law_any cd_law_any ct_law_any), a_law_is_free, (PySem.W.fnOf "_law_is_free" "_law_is_free" (defArgs s_law_is_free) (defBody s_law_is_free) (defScope s_law_is_free) (.none) kV_law_is_free dc_law_is_free pm_law_is_free an_law_is_free cd_law_is_free ct_law_is_free), a_law_shuffled, (PySem.W.fnOf "_law_shuffled" "_law_shuffled" (defArgs s_law_shuffled) (defBody s_law_shuffled) (defScope s_law_shuffled) (.none) kV_law_shuffled dc_law_shuffled pm_law_shuffled an_law_shuffled cd_law_shuffled ct_law_shuffled), a_law_least, (PySem.W.fnOf "_law_least" "_law_least" (defArgs s_law_least) (defBody s_law_least) (defScope s_law_least) (.none) kV_law_least dc_law_least pm_law_least an_law_least cd_law_least ct_law_least), a_law_right, (PySem.W.fnOf "_law_right" "_law_right" (defArgs s_law_right) (defBody s_law_right) (defScope s_law_right) (.none) kV_law_right dc_law_right pm_law_right an_law_right cd_law_right ct_law_right), a_law, (PySem.W.fnOf "law" "law" (defArgs s_law) (defBody s_law) (defScope s_law) (.none) kV_law dc_law pm_law an_law cd_law ct_law)⟩ := by
  refine ⟨?g_fun_is_whole, ?g_bd_is_whole, ?g_mg_is_whole, ?g_fun_is_whole_within, ?g_bd_is_whole_within, ?g_mg_is_whole_within, ?g_fun_is_list_within, ?g_bd_is_list_within, ?g_mg_is_list_within, ?g_fun_is_transfer, ?g_bd_is_transfer, ?g_mg_is_transfer, ?g_fun_is_transfers, ?g_bd_is_transfers, ?g_mg_is_transfers, ?g_fun_check_transfers, ?g_bd_check_transfers, ?g_mg_check_transfers, ?g_fun_least_alike, ?g_bd_least_alike, ?g_mg_least_alike, ?g_fun_are_free, ?g_bd_are_free, ?g_mg_are_free, ?g_fun_indices_of_first, ?g_bd_indices_of_first, ?g_mg_indices_of_first, ?g_fun_law_pool, ?g_bd_law_pool, ?g_mg_law_pool, ?g_fun_law_draw, ?g_bd_law_draw, ?g_mg_law_draw, ?g_fun_law_any, ?g_bd_law_any, ?g_mg_law_any, ?g_fun_law_is_free, ?g_bd_law_is_free, ?g_mg_law_is_free, ?g_fun_law_shuffled, ?g_bd_law_shuffled, ?g_mg_law_shuffled, ?g_fun_law_least, ?g_bd_law_least, ?g_mg_law_least, ?g_fun_law_right, ?g_bd_law_right, ?g_mg_law_right, ?g_fun_law, ?g_bd_law, ?g_mg_law, ?g_ki_int_int, ?g_ki_int_bool, ?g_gi_MOST_VESSELS, ?g_gi_MOST_TRANSFERS, ?g_gi_MOST_DROPS, ?g_z_isinstance, ?g_z_int, ?g_z_bool, ?g_z_len, ?g_z_range, ?g_z_enumerate, ?g_z_list, ?g_z_tuple, ?g_z_type, ?g_z_all, ?g_z_max, ?g_z_min, ?g_z_repr⟩
  (case g_fun_is_whole => exact fun_mk (st := s_is_whole) l_is_whole k_is_whole e_is_whole)
  (case g_bd_is_whole => exact (fun_mk (st := s_is_whole) l_is_whole k_is_whole e_is_whole).binds (ps := ["value"]) fun _ _ _ _ _ _ us hl => match us, hl with | [_], _ => rfl)
  (case g_mg_is_whole => exact PySem.W.mg_of X G m_is_whole)
  (case g_fun_is_whole_within => exact fun_mk (st := s_is_whole_within) l_is_whole_within k_is_whole_within e_is_whole_within)
  (case g_bd_is_whole_within => exact (fun_mk (st := s_is_whole_within) l_is_whole_within k_is_whole_within e_is_whole_within).binds (ps := ["value", "least", "most"]) fun _ _ _ _ _ _ us hl => match us, hl with | [_, _, _], _ => rfl)
  (case g_mg_is_whole_within => exact PySem.W.mg_of X G m_is_whole_within)
  (case g_fun_is_list_within => exact fun_mk (st := s_is_list_within) l_is_list_within k_is_list_within e_is_list_within)
  (case g_bd_is_list_within => exact (fun_mk (st := s_is_list_within) l_is_list_within k_is_list_within e_is_list_within).binds (ps := ["value", "least", "most"]) fun _ _ _ _ _ _ us hl => match us, hl with | [_, _, _], _ => rfl)
  (case g_mg_is_list_within => exact PySem.W.mg_of X G m_is_list_within)
  (case g_fun_is_transfer => exact fun_mk (st := s_is_transfer) l_is_transfer k_is_transfer e_is_transfer)
  (case g_bd_is_transfer => exact (fun_mk (st := s_is_transfer) l_is_transfer k_is_transfer e_is_transfer).binds (ps := ["value"]) fun _ _ _ _ _ _ us hl => match us, hl with | [_], _ => rfl)
  (case g_mg_is_transfer => exact PySem.W.mg_of X G m_is_transfer)
  (case g_fun_is_transfers => exact fun_mk (st := s_is_transfers) l_is_transfers k_is_transfers e_is_transfers)
  (case g_bd_is_transfers => exact (fun_mk (st := s_is_transfers) l_is_transfers k_is_transfers e_is_transfers).binds (ps := ["value"]) fun _ _ _ _ _ _ us hl => match us, hl with | [_], _ => rfl)
  (case g_mg_is_transfers => exact PySem.W.mg_of X G m_is_transfers)
  (case g_fun_check_transfers => exact fun_mk (st := s_check_transfers) l_check_transfers k_check_transfers e_check_transfers)
  (case g_bd_check_transfers => exact (fun_mk (st := s_check_transfers) l_check_transfers k_check_transfers e_check_transfers).binds (ps := ["transfers"]) fun _ _ _ _ _ _ us hl => match us, hl with | [_], _ => rfl)
  (case g_mg_check_transfers => exact PySem.W.mg_of X G m_check_transfers)
  (case g_fun_least_alike => exact fun_mk (st := s_least_alike) l_least_alike k_least_alike e_least_alike)
  (case g_bd_least_alike => exact (fun_mk (st := s_least_alike) l_least_alike k_least_alike e_least_alike).binds (ps := ["transfers"]) fun _ _ _ _ _ _ us hl => match us, hl with | [_], _ => rfl)
  (case g_mg_least_alike => exact PySem.W.mg_of X G m_least_alike)
  (case g_fun_are_free => exact fun_mk (st := s_are_free) l_are_free k_are_free e_are_free)
  (case g_bd_are_free => exact (fun_mk (st := s_are_free) l_are_free k_are_free e_are_free).binds (ps := ["one", "other"]) fun _ _ _ _ _ _ us hl => match us, hl with | [_, _], _ => rfl)
  (case g_mg_are_free => exact PySem.W.mg_of X G m_are_free)
  (case g_fun_indices_of_first => exact fun_mk (st := s_indices_of_first) l_indices_of_first k_indices_of_first e_indices_of_first)
  (case g_bd_indices_of_first => exact (fun_mk (st := s_indices_of_first) l_indices_of_first k_indices_of_first e_indices_of_first).binds (ps := ["transfers"]) fun _ _ _ _ _ _ us hl => match us, hl with | [_], _ => rfl)
  (case g_mg_indices_of_first => exact PySem.W.mg_of X G m_indices_of_first)
  (case g_fun_law_pool => exact fun_mk (st := s_law_pool) l_law_pool k_law_pool e_law_pool)
  (case g_bd_law_pool => exact (fun_mk (st := s_law_pool) l_law_pool k_law_pool e_law_pool).binds (ps := ["script", "k"]) fun _ _ _ _ _ _ us hl => match us, hl with | [_, _], _ => rfl)
  (case g_mg_law_pool => exact PySem.W.mg_of X G m_law_pool)
  (case g_fun_law_draw => exact fun_mk (st := s_law_draw) l_law_draw k_law_draw e_law_draw)
  (case g_bd_law_draw => exact (fun_mk (st := s_law_draw) l_law_draw k_law_draw e_law_draw).binds (ps := ["pool", "many"]) fun _ _ _ _ _ _ us hl => match us, hl with | [_, _], _ => rfl)
  (case g_mg_law_draw => exact PySem.W.mg_of X G m_law_draw)
  (case g_fun_law_any => exact fun_mk (st := s_law_any) l_law_any k_law_any e_law_any)
  (case g_bd_law_any => exact (fun_mk (st := s_law_any) l_law_any k_law_any e_law_any).binds (ps := ["pool", "most"]) fun _ _ _ _ _ _ us hl => match us, hl with | [_, _], _ => rfl)
  (case g_mg_law_any => exact PySem.W.mg_of X G m_law_any)
  (case g_fun_law_is_free => exact fun_mk (st := s_law_is_free) l_law_is_free k_law_is_free e_law_is_free)
  (case g_bd_law_is_free => exact (fun_mk (st := s_law_is_free) l_law_is_free k_law_is_free e_law_is_free).binds (ps := ["here", "there"]) fun _ _ _ _ _ _ us hl => match us, hl with | [_, _], _ => rfl)
  (case g_mg_law_is_free => exact PySem.W.mg_of X G m_law_is_free)
  (case g_fun_law_shuffled => exact fun_mk (st := s_law_shuffled) l_law_shuffled k_law_shuffled e_law_shuffled)
  (case g_bd_law_shuffled => exact (fun_mk (st := s_law_shuffled) l_law_shuffled k_law_shuffled e_law_shuffled).binds (ps := ["pool", "line"]) fun _ _ _ _ _ _ us hl => match us, hl with | [_, _], _ => rfl)
  (case g_mg_law_shuffled => exact PySem.W.mg_of X G m_law_shuffled)
  (case g_fun_law_least => exact fun_mk (st := s_law_least) l_law_least k_law_least e_law_least)
  (case g_bd_law_least => exact (fun_mk (st := s_law_least) l_law_least k_law_least e_law_least).binds (ps := ["line"]) fun _ _ _ _ _ _ us hl => match us, hl with | [_], _ => rfl)
  (case g_mg_law_least => exact PySem.W.mg_of X G m_law_least)
  (case g_fun_law_right => exact fun_mk (st := s_law_right) l_law_right k_law_right e_law_right)
  (case g_bd_law_right => exact (fun_mk (st := s_law_right) l_law_right k_law_right e_law_right).binds (ps := ["line"]) fun _ _ _ _ _ _ us hl => match us, hl with | [_], _ => rfl)
  (case g_mg_law_right => exact PySem.W.mg_of X G m_law_right)
  (case g_fun_law => exact fun_mk (st := s_law) l_law k_law e_law)
  (case g_bd_law => exact (fun_mk (st := s_law) l_law k_law e_law).binds (ps := ["script"]) fun _ _ _ _ _ _ us hl => match us, hl with | [_], _ => rfl)
  (case g_mg_law => exact PySem.W.mg_of X G m_law)
  (case g_ki_int_int => exact kit_ty (by decide +kernel))
  (case g_ki_int_bool => exact kit_ty (by decide +kernel))
  (case g_gi_MOST_VESSELS => exact ⟨tk_MOST_VESSELS, PySem.W.mg_of X G gi_MOST_VESSELS⟩)
  (case g_gi_MOST_TRANSFERS => exact ⟨tk_MOST_TRANSFERS, PySem.W.mg_of X G gi_MOST_TRANSFERS⟩)
  (case g_gi_MOST_DROPS => exact ⟨tk_MOST_DROPS, PySem.W.mg_of X G gi_MOST_DROPS⟩)
  (case g_z_isinstance => exact PySem.W.mg_none_of X G z_isinstance)
  (case g_z_int => exact PySem.W.mg_none_of X G z_int)
  (case g_z_bool => exact PySem.W.mg_none_of X G z_bool)
  (case g_z_len => exact PySem.W.mg_none_of X G z_len)
  (case g_z_range => exact PySem.W.mg_none_of X G z_range)
  (case g_z_enumerate => exact PySem.W.mg_none_of X G z_enumerate)
  (case g_z_list => exact PySem.W.mg_none_of X G z_list)
  (case g_z_tuple => exact PySem.W.mg_none_of X G z_tuple)
  (case g_z_type => exact PySem.W.mg_none_of X G z_type)
  (case g_z_all => exact PySem.W.mg_none_of X G z_all)
  (case g_z_max => exact PySem.W.mg_none_of X G z_max)
  (case g_z_min => exact PySem.W.mg_none_of X G z_min)
  (case g_z_repr => exact PySem.W.mg_none_of X G z_repr)
local macro_rules | `(tactic| walk_at "pos") => `(tactic| first | assumption | (decide +kernel) | omega)
local macro_rules | `(tactic| walk_at "bt") => `(tactic| first
  | assumption
  | (decide +kernel)
  | exact Bt.mono (by assumption) (by decide)
  | (refine' Bt.add ?b1 ?b2; (case b1 => walk_at "bt"); (case b2 => walk_at "bt"))
  | (refine' Bt.sub ?b1 ?b2; (case b1 => walk_at "bt"); (case b2 => walk_at "bt"))
  | (refine' Bt.mul ?b1 ?b2; (case b1 => walk_at "bt"); (case b2 => walk_at "bt"))
  | (refine' Bt.mod ?b1 ?b2; (case b2 => walk_at "bt"); (case b1 => walk_at "pos"))
  | (refine' Bt.div ?b1 ?b2; (case b2 => walk_at "bt"); (case b1 => walk_at "pos"))
  | (refine' Bt.pow3 ?b1; (case b1 => walk_at "bt"))
  | (refine' Bt.neg ?b1; (case b1 => walk_at "bt"))
  | exact Bt.any)
local macro_rules | `(tactic| walk_at "btm") => `(tactic| ((refine' Bt.mono ?m1 ?m2); (case m1 => walk_at "bt"); (case m2 => (decide +kernel))))
local macro_rules | `(tactic| walk_at "ne") => `(tactic| first
  | assumption
  | (refine' Ne.symm ?q1; (case q1 => assumption))
  | (refine' ne_of_none (by assumption) ?q1; (case q1 => assumption))
  | (refine' Ne.symm (ne_of_none (by assumption) ?q1); (case q1 => assumption)))
local macro_rules | `(tactic| walk_at "hp") => `(tactic| first
  | assumption
  | exact upd_same
  | ((refine' lst_same ?q1 (by assumption : Same _ _)); (case q1 => walk_at "hp"))
  | ((refine' (by assumption : Fr _ _ _) _ _ ?n ?h); (case n => walk_at "ne"); (case h => walk_at "hp"))
  | ((refine (upd_ne (by assumption)).trans ?_); walk_at "hp")
  | ((refine (upd_ne (Ne.symm (by assumption))).trans ?_); walk_at "hp"))
local macro_rules | `(tactic| walk_at "sr") => `(tactic| first
  | assumption
  | ((refine' Src.same ?q1 (by assumption : Same _ _)); (case q1 => walk_at "sr")))
local macro_rules | `(tactic| walk_at "rt") => `(tactic| first
  | assumption
  | ((refine' Rat.same ?q1 (by assumption : Same _ _)); (case q1 => walk_at "rt"))
  | ((refine' Rat.fr ?q1 ?q2 (by assumption : Fr _ _ _)); (case q2 => walk_at "sr"); (case q1 => walk_at "rt")))
local macro_rules | `(tactic| walk_at "tp") => `(tactic| first
  | assumption
  | ((refine' tup_same ?q1 (by assumption : Same _ _)); (case q1 => walk_at "tp"))
  | ((refine' tup_fr ?q1 ?q2 (by assumption : Fr _ _ _)); (case q2 => walk_at "sr"); (case q1 => walk_at "tp")))
local macro_rules | `(tactic| walk_at "ls") => `(tactic| first
  | assumption
  | ((refine' lst_same ?q1 (by assumption : Same _ _)); (case q1 => walk_at "ls"))
  | ((refine' lst_fr ?q1 ?q2 (by assumption : Fr _ _ _)); (case q2 => assumption); (case q1 => walk_at "ls")))
local macro_rules | `(tactic| walk_at "sm") => `(tactic| first
  | exact Same.refl _
  | assumption
  | ((refine Same.trans ?_ (by assumption : Same _ _)); walk_at "sm"))
local macro_rules | `(tactic| walk_at "fr") => `(tactic| first
  | exact Fr.refl _ _
  | assumption
  | ((refine Fr.trans ?_ (Fr.same (by assumption : Same _ _))); walk_at "fr")
  | ((refine Fr.trans ?_ (by assumption : Fr _ _ _)); walk_at "fr"))
local macro_rules | `(tactic| walk_at "wp1") => `(tactic| first
  | (with_reducible refine w_seq ?_) | (with_reducible refine w_next ?_) | (with_reducible refine w_ret ?_) | (with_reducible refine w_asg ?_) | (with_reducible refine w_gn ?_) | (with_reducible refine w_if ?_)
  | (with_reducible refine w_cons ?_) | (with_reducible refine w_nil ?_) | (with_reducible refine w_c ?_) | (with_reducible refine w_op ?_) | (with_reducible refine w_cb ?_)
  | ((with_reducible refine' w_var ?h ?_); (case h => exact rfl))
  | (with_reducible refine w_I0 ?_) | (with_reducible refine w_eqI ?_) | (with_reducible refine w_neI ?_) | (with_reducible refine w_test ?_) | (with_reducible refine w_tB ?_) | (with_reducible refine w_bl ?_) | (with_reducible refine w_par ?_) | (with_reducible refine w_par2 ?_) | (with_reducible refine w_par3 ?_) | (with_reducible refine w_three ?_)
  | (with_reducible refine w_not ?_) | (with_reducible refine w_and ?_) | (with_reducible refine w_or ?_) | (with_reducible refine w_andV ?_) | (with_reducible refine w_orV ?_) | (with_reducible refine w_notV ?_) | (with_reducible refine w_tif ?_)
  | (with_reducible refine w_tup ?_) | (with_reducible refine w_lst ?_) | (with_reducible refine w_un ?_) | (with_reducible refine w_U ?_) | (with_reducible refine w_drop ?_) | (with_reducible refine w_brk ?_) | (with_reducible refine w_cont ?_) | (with_reducible refine w_retN ?_)
  | (with_reducible refine w_call ?_) | (with_reducible refine w_fld ?_) | (with_reducible refine w_sfld ?_) | (with_reducible refine w_prop ?_) | (with_reducible refine w_make ?_) | (with_reducible refine w_meth ?_) | (with_reducible refine w_methN ?_) | (with_reducible refine w_revL ?_) | (with_reducible refine w_gsub ?_)
  | ((with_reducible refine' w_powN ?c1 ?c2 ?_); (case c2 => (decide +kernel)); (case c1 => exact rfl))
  | ((with_reducible refine' w_powV ?c1 ?c2 ?c3 ?c4 ?_); (case c2 => walk_at "bt"); (case c3 => (decide +kernel)); (case c4 => (decide +kernel)); (case c1 => exact rfl))
  | ((with_reducible refine' w_I (C := CMulW) ?c1 ?_); (case c1 => (refine' mulOk ?k1 ?k2 ?k3; (case k1 => walk_at "bt"); (case k2 => walk_at "bt"); (case k3 => decide +kernel))))
  | ((with_reducible refine' w_I (C := CDivW) ?c1 ?_); (case c1 => (refine' divOk ?k1 ?k2 ?k3; (case k1 => walk_at "pos"); (case k2 => walk_at "bt"); (case k3 => decide +kernel))))
  | ((with_reducible refine' w_I (C := fun _ j => 0 < j) ?c1 ?_); (case c1 => walk_at "pos"))
  | (with_reducible refine w_isB ?_) | (with_reducible refine w_notB ?_) | (with_reducible refine w_neS ?_) | (with_reducible refine w_eqS ?_)
  | (with_reducible refine w_iRng1 ?_) | (with_reducible refine w_for ?_) | (with_reducible refine w_iEnum ?_) | (with_reducible refine w_iList ?_) | (with_reducible refine w_iTup ?_) | (with_reducible refine w_noPart ?_) | (with_reducible refine w_part ?_) | (with_reducible refine w_int ?_)
  | (with_reducible refine w_sl ?_)
  | (with_reducible refine w_two ?_) | (with_reducible refine w_one ?_)
  | ((with_reducible refine' w_ixL ?hs ?he ?_); (case hs => first | (refine' SqL.of ?q0; (case q0 => walk_at "hp")) | assumption); (case he => exact rfl))
  | ((with_reducible refine' w_ixT ?hs ?he ?_); (case hs => first | (refine' SqT.of ?q0; (case q0 => walk_at "tp")) | assumption); (case he => exact rfl))
  | ((with_reducible refine' w_setL ?hs ?he ?_); (case hs => walk_at "hp"); (case he => exact rfl))
  | (with_reducible refine w_iteT rfl ?_) | (with_reducible refine w_iteF rfl ?_) | ((with_reducible refine w_alloc ?h ?_); (case h => exact rfl))
  | (with_reducible refine w_augS ?_) | (with_reducible refine w_ipI ?_) | (with_reducible refine w_exo1 ?_) | (with_reducible refine w_exoI ?_) | (with_reducible refine w_exoK ?_) | (with_reducible refine w_fldE ?_) | (with_reducible refine w_ost ?_) | (with_reducible refine w_makeS ?_) | (with_reducible refine w_methS ?_) | (with_reducible refine w_callS ?_) | (with_reducible refine w_bm ?_) | (with_reducible refine w_bm0 ?_) | (with_reducible refine w_din ?_) | (with_reducible refine w_dget ?_) | (with_reducible refine w_dput ?_) | (with_reducible refine w_listVals ?_) | (with_reducible refine w_dget2 ?_) | (with_reducible refine w_dpop2 ?_) | (with_reducible refine w_makeK ?_) | (with_reducible refine w_callN ?_))
local macro_rules | `(tactic| walk_at "wp") => `(tactic| repeat (walk_at "wp1"))

section
variable {P : Program} {w : World} {K : PySem.W.Frag} {mg : Str → Option Value} {base : Heap} {A : Ad}
end
end K62

namespace K62
open PySem L2 G
local macro_rules | `(tactic| walk_at "pos") => `(tactic| first | assumption | (decide +kernel) | omega)
local macro_rules | `(tactic| walk_at "bt") => `(tactic| first
  | assumption
  | (decide +kernel)
  | exact Bt.mono (by assumption) (by decide)
  | (refine' Bt.add ?b1 ?b2; (case b1 => walk_at "bt"); (case b2 => walk_at "bt"))
  | (refine' Bt.sub ?b1 ?b2; (case b1 => walk_at "bt"); (case b2 => walk_at "bt"))
  | (refine' Bt.mul ?b1 ?b2; (case b1 => walk_at "bt"); (case b2 => walk_at "bt"))
  | (refine' Bt.mod ?b1 ?b2; (case b2 => walk_at "bt"); (case b1 => walk_at "pos"))
  | (refine' Bt.div ?b1 ?b2; (case b2 => walk_at "bt"); (case b1 => walk_at "pos"))
  | (refine' Bt.pow3 ?b1; (case b1 => walk_at "bt"))
  | (refine' Bt.neg ?b1; (case b1 => walk_at "bt"))
  | exact Bt.any)
local macro_rules | `(tactic| walk_at "btm") => `(tactic| ((refine' Bt.mono ?m1 ?m2); (case m1 => walk_at "bt"); (case m2 => (decide +kernel))))
local macro_rules | `(tactic| walk_at "ne") => `(tactic| first
  | assumption
  | (refine' Ne.symm ?q1; (case q1 => assumption))
  | (refine' ne_of_none (by assumption) ?q1; (case q1 => assumption))
  | (refine' Ne.symm (ne_of_none (by assumption) ?q1); (case q1 => assumption)))
local macro_rules | `(tactic| walk_at "hp") => `(tactic| first
  | assumption
  | exact upd_same
  | ((refine' lst_same ?q1 (by assumption : Same _ _)); (case q1 => walk_at "hp"))
  | ((refine' (by assumption : Fr _ _ _) _ _ ?n ?h); (case n => walk_at "ne"); (case h => walk_at "hp"))
  | ((refine (upd_ne (by assumption)).trans ?_); walk_at "hp")
  | ((refine (upd_ne (Ne.symm (by assumption))).trans ?_); walk_at "hp"))
local macro_rules | `(tactic| walk_at "sr") => `(tactic| first
  | assumption
  | ((refine' Src.same ?q1 (by assumption : Same _ _)); (case q1 => walk_at "sr")))
local macro_rules | `(tactic| walk_at "rt") => `(tactic| first
  | assumption
  | ((refine' Rat.same ?q1 (by assumption : Same _ _)); (case q1 => walk_at "rt"))
  | ((refine' Rat.fr ?q1 ?q2 (by assumption : Fr _ _ _)); (case q2 => walk_at "sr"); (case q1 => walk_at "rt")))
local macro_rules | `(tactic| walk_at "tp") => `(tactic| first
  | assumption
  | ((refine' tup_same ?q1 (by assumption : Same _ _)); (case q1 => walk_at "tp"))
  | ((refine' tup_fr ?q1 ?q2 (by assumption : Fr _ _ _)); (case q2 => walk_at "sr"); (case q1 => walk_at "tp")))
local macro_rules | `(tactic| walk_at "ls") => `(tactic| first
  | assumption
  | ((refine' lst_same ?q1 (by assumption : Same _ _)); (case q1 => walk_at "ls"))
  | ((refine' lst_fr ?q1 ?q2 (by assumption : Fr _ _ _)); (case q2 => assumption); (case q1 => walk_at "ls")))
local macro_rules | `(tactic| walk_at "sm") => `(tactic| first
  | exact Same.refl _
  | assumption
  | ((refine Same.trans ?_ (by assumption : Same _ _)); walk_at "sm"))
local macro_rules | `(tactic| walk_at "fr") => `(tactic| first
  | exact Fr.refl _ _
  | assumption
  | ((refine Fr.trans ?_ (Fr.same (by assumption : Same _ _))); walk_at "fr")
  | ((refine Fr.trans ?_ (by assumption : Fr _ _ _)); walk_at "fr"))
local macro_rules | `(tactic| walk_at "wp1") => `(tactic| first
  | (with_reducible refine w_seq ?_) | (with_reducible refine w_next ?_) | (with_reducible refine w_ret ?_) | (with_reducible refine w_asg ?_) | (with_reducible refine w_gn ?_) | (with_reducible refine w_if ?_)
  | (with_reducible refine w_cons ?_) | (with_reducible refine w_nil ?_) | (with_reducible refine w_c ?_) | (with_reducible refine w_op ?_) | (with_reducible refine w_cb ?_)
  | ((with_reducible refine' w_var ?h ?_); (case h => exact rfl))
  | (with_reducible refine w_I0 ?_) | (with_reducible refine w_eqI ?_) | (with_reducible refine w_neI ?_) | (with_reducible refine w_test ?_) | (with_reducible refine w_tB ?_) | (with_reducible refine w_bl ?_) | (with_reducible refine w_par ?_) | (with_reducible refine w_par2 ?_) | (with_reducible refine w_par3 ?_) | (with_reducible refine w_three ?_)
  | (with_reducible refine w_not ?_) | (with_reducible refine w_and ?_) | (with_reducible refine w_or ?_) | (with_reducible refine w_andV ?_) | (with_reducible refine w_orV ?_) | (with_reducible refine w_notV ?_) | (with_reducible refine w_tif ?_)
  | (with_reducible refine w_tup ?_) | (with_reducible refine w_lst ?_) | (with_reducible refine w_un ?_) | (with_reducible refine w_U ?_) | (with_reducible refine w_drop ?_) | (with_reducible refine w_brk ?_) | (with_reducible refine w_cont ?_) | (with_reducible refine w_retN ?_)
  | (with_reducible refine w_call ?_) | (with_reducible refine w_fld ?_) | (with_reducible refine w_sfld ?_) | (with_reducible refine w_prop ?_) | (with_reducible refine w_make ?_) | (with_reducible refine w_meth ?_) | (with_reducible refine w_methN ?_) | (with_reducible refine w_revL ?_) | (with_reducible refine w_gsub ?_)
  | ((with_reducible refine' w_powN ?c1 ?c2 ?_); (case c2 => (decide +kernel)); (case c1 => exact rfl))
  | ((with_reducible refine' w_powV ?c1 ?c2 ?c3 ?c4 ?_); (case c2 => walk_at "bt"); (case c3 => (decide +kernel)); (case c4 => (decide +kernel)); (case c1 => exact rfl))
  | ((with_reducible refine' w_I (C := CMulW) ?c1 ?_); (case c1 => (refine' mulOk ?k1 ?k2 ?k3; (case k1 => walk_at "bt"); (case k2 => walk_at "bt"); (case k3 => decide +kernel))))
  | ((with_reducible refine' w_I (C := CDivW) ?c1 ?_); (case c1 => (refine' divOk ?k1 ?k2 ?k3; (case k1 => walk_at "pos"); (case k2 => walk_at "bt"); (case k3 => decide +kernel))))
  | ((with_reducible refine' w_I (C := fun _ j => 0 < j) ?c1 ?_); (case c1 => walk_at "pos"))
  | (with_reducible refine w_isB ?_) | (with_reducible refine w_notB ?_) | (with_reducible refine w_neS ?_) | (with_reducible refine w_eqS ?_)
  | (with_reducible refine w_iRng1 ?_) | (with_reducible refine w_for ?_) | (with_reducible refine w_iEnum ?_) | (with_reducible refine w_iList ?_) | (with_reducible refine w_iTup ?_) | (with_reducible refine w_noPart ?_) | (with_reducible refine w_part ?_) | (with_reducible refine w_int ?_)
  | (with_reducible refine w_sl ?_)
  | (with_reducible refine w_two ?_) | (with_reducible refine w_one ?_)
  | ((with_reducible refine' w_ixL ?hs ?he ?_); (case hs => first | (refine' SqL.of ?q0; (case q0 => walk_at "hp")) | assumption); (case he => exact rfl))
  | ((with_reducible refine' w_ixT ?hs ?he ?_); (case hs => first | (refine' SqT.of ?q0; (case q0 => walk_at "tp")) | assumption); (case he => exact rfl))
  | ((with_reducible refine' w_setL ?hs ?he ?_); (case hs => walk_at "hp"); (case he => exact rfl))
  | (with_reducible refine w_iteT rfl ?_) | (with_reducible refine w_iteF rfl ?_) | ((with_reducible refine w_alloc ?h ?_); (case h => exact rfl))
  | (with_reducible refine w_augS ?_) | (with_reducible refine w_ipI ?_) | (with_reducible refine w_exo1 ?_) | (with_reducible refine w_exoI ?_) | (with_reducible refine w_exoK ?_) | (with_reducible refine w_fldE ?_) | (with_reducible refine w_ost ?_) | (with_reducible refine w_makeS ?_) | (with_reducible refine w_methS ?_) | (with_reducible refine w_callS ?_) | (with_reducible refine w_bm ?_) | (with_reducible refine w_bm0 ?_) | (with_reducible refine w_din ?_) | (with_reducible refine w_dget ?_) | (with_reducible refine w_dput ?_) | (with_reducible refine w_listVals ?_) | (with_reducible refine w_dget2 ?_) | (with_reducible refine w_dpop2 ?_) | (with_reducible refine w_makeK ?_) | (with_reducible refine w_callN ?_))
local macro_rules | `(tactic| walk_at "wp") => `(tactic| repeat (walk_at "wp1"))

section
variable {P : Program} {w : World} {K : PySem.W.Frag} {mg : Str → Option Value} {base : Heap} {A : Ad}
theorem ok_is_whole (T : Txt K mg A) : FnOk P w K mg base CX0 1 A.a_is_whole A.d_is_whole ["value"] spWhole := by
  refine T.fun_is_whole.ok sc_is_whole (fun vs H Q E h => ?_) (fun cdv B outer s H vs Q E hr h => ?_)
  · obtain ⟨i, rfl, _⟩ := h
    rfl
  · obtain ⟨i, rfl, q⟩ := h
    refine ⟨_, (pss_one (ps_ret (pe_and (pe_callB call_isi (by rfl) T.z_isinstance (by decide +kernel) (pa_cons (pv 0) (pa_cons (pe_bltn (by rfl) T.z_int (by decide +kernel) (show RelV (.ty "int") _ from rfl)) pa_nil))) (pe_one (pe_not (pe_callB call_isi (by rfl) T.z_isinstance (by decide +kernel) (pa_cons (pv 0) (pa_cons (pe_bltn (by rfl) T.z_bool (by decide +kernel) (show RelV (.ty "bool") _ from rfl)) pa_nil)))))))), ?_⟩
    refine w_ret (w_andV (w_cb (w_cons (w_var rfl (w_cons (w_c (w_nil ?_)))))))
    refine ⟨_, _, _, _, true, rfl, .ty "int", .base (.int i), T.ki_int_int, true, rfl, ?_⟩
    refine w_iteT rfl (w_notV (w_cb (w_cons (w_var rfl (w_cons (w_c (w_nil ?_)))))))
    exact ⟨_, _, _, _, false, rfl, .ty "bool", .base (.int i), T.ki_int_bool, false, rfl, q⟩
theorem ok_is_whole_within (T : Txt K mg A) : FnOk P w K mg base CX0 2 A.a_is_whole_within A.d_is_whole_within ["value", "least", "most"] spWithin := by
  refine T.fun_is_whole_within.ok sc_is_whole_within (fun vs H Q E h => ?_) (fun cdv B outer s H vs Q E hr h => ?_)
  · obtain ⟨i, l, m, rfl, _⟩ := h
    rfl
  · obtain ⟨i, l, m, rfl, q⟩ := h
    refine ⟨_, (pss_one (ps_ret (pe_and (pe_call (ok_is_whole T) (hr.mono (by decide)) rfl T.mg_is_whole T.fun_is_whole.kp T.bd_is_whole .nil pass0 (pa_cons (pv 0) pa_nil)) (pe_and (pe_cmpR op_le (pv 1) (pv 0) (nomark _)) (pe_one (pe_cmpR op_le (pv 0) (pv 2) (nomark _))))))), ?_⟩
    walk_at "wp"
    refine ⟨i, rfl, ?_⟩
    walk_at "wp"
    refine w_ite (fun c => ?_) fun c => ?_
    · have c : l ≤ i := of_decide_eq_true c
      walk_at "wp"
      have e : decide (i ≤ m) = decide (l ≤ i ∧ i ≤ m) := decide_eq_decide.mpr ⟨fun h => ⟨c, h⟩, fun h => h.2⟩
      rw [e]
      exact q
    · have c : ¬ l ≤ i := of_decide_eq_false c
      have e : decide (l ≤ i ∧ i ≤ m) = false := decide_eq_false fun h => c h.1
      rw [e] at q
      exact q
theorem ok_is_list_within (T : Txt K mg A) : FnOk P w K mg base CX0 1 A.a_is_list_within A.d_is_list_within ["value", "least", "most"] (spListIn K) := by
  refine T.fun_is_list_within.ok sc_is_list_within (fun vs H Q E h => ?_) (fun cdv B outer s H vs Q E hr h => ?_)
  · obtain ⟨a, xs, l, m, rfl, _⟩ := h
    rfl
  · obtain ⟨a, xs, l, m, rfl, ha, hl, q⟩ := h
    refine ⟨_, (pss_one (ps_ret (pe_and (pe_cmpR op_isTyB (pe_callTy call_type1 (by rfl) T.z_type (by decide +kernel) (pa_cons (pv 0) pa_nil)) (pe_bltn (by rfl) T.z_list (by decide +kernel) (show RelV (.ty "list") _ from rfl)) (nomark _)) (pe_and (pe_cmpR op_le (pv 1) (pe_callB call_len (by rfl) T.z_len (by decide +kernel) (pa_cons (pv 0) pa_nil)) (nomark _)) (pe_one (pe_cmpR op_le (pe_callB call_len (by rfl) T.z_len (by decide +kernel) (pa_cons (pv 0) pa_nil)) (pv 2) (nomark _))))))), ?_⟩
    walk_at "wp"
    refine ⟨_, _, rfl, .lst (SqL.of ha), ?_⟩
    walk_at "wp"
    refine ⟨_, _, rfl, rfl, ?_⟩
    walk_at "wp"
    refine w_lenL (SqL.of ha) ?_
    walk_at "wp"
    refine w_ite (fun c => ?_) fun c => ?_
    · have c : l ≤ (xs.length : Int) := of_decide_eq_true c
      walk_at "wp"
      refine w_lenL (SqL.of ha) ?_
      walk_at "wp"
      have e : decide ((xs.length : Int) ≤ m) = decide (l ≤ (xs.length : Int) ∧ (xs.length : Int) ≤ m) := decide_eq_decide.mpr ⟨fun h => ⟨c, h⟩, fun h => h.2⟩
      rw [e]
      exact q
    · have c : ¬ l ≤ (xs.length : Int) := of_decide_eq_false c
      have e : decide (l ≤ (xs.length : Int) ∧ (xs.length : Int) ≤ m) = false := decide_eq_false fun h => c h.1
      rw [e] at q
      exact q
theorem ok_are_free (T : Txt K mg A) : FnOk P w K mg base CX0 1 A.a_are_free A.d_are_free ["one", "other"] spFree := by
  refine T.fun_are_free.ok sc_are_free (fun vs H Q E h => ?_) (fun cdv B outer s H vs Q E hr h => ?_)
  · obtain ⟨u, v, x, y, rfl, _⟩ := h
    rfl
  · obtain ⟨u, v, x, y, rfl, ⟨r1, rfl, h1⟩, ⟨r2, rfl, h2⟩, q⟩ := h
    refine ⟨_, (pss_one (ps_ret (pe_and (pe_cmpR op_ne (pe_ix ix_tup (pv 0) pe_int (fun _ _ => rfl)) (pe_ix ix_tup (pv 1) pe_int (fun _ _ => rfl)) (nomark _)) (pe_one (pe_cmpR op_ne (pe_ix ix_tup (pv 0) pe_int (fun _ _ => rfl)) (pe_ix ix_tup (pv 1) pe_int (fun _ _ => rfl)) (nomark _)))))), ?_⟩
    walk_at "wp"
    unfold fre at q
    refine w_ite (fun c => ?_) fun c => ?_
    · rw [c, Bool.true_and] at q
      walk_at "wp"
      exact q
    · rw [c, Bool.false_and] at q
      walk_at "wp"
      exact q
theorem ok_indices_of_first (T : Txt K mg A) : FnOk P w K mg base CX0 2 A.a_indices_of_first A.d_indices_of_first ["transfers"] spFirsts := by
  refine T.fun_indices_of_first.ok sc_indices_of_first (fun vs H Q E h => ?_) (fun cdv B outer s H vs Q E hr h => ?_)
  · obtain ⟨a, xs, ts, rfl, _⟩ := h
    rfl
  · obtain ⟨a, xs, ts, rfl, ha, hT, hl, q⟩ := h
    refine ⟨_, (pss_one (ps_ret (pe_lc (own := [("at", 1), ("transfer", 2)]) (g := gTup K 2 (gCons (gName 1) (gCons (gName 2) gNil))) rfl (sc_indices_of_first).nd (pi_enum rfl T.z_enumerate (pa_cons (pv 0) pa_nil)) (blkOk_by (own := [("at", 1), ("transfer", 2)]) (N := N_indices_of_first) (sc := defScope s_indices_of_first) (by decide +kernel)) (fun _ _ _ _ _ => (pg_tup rfl (pgs_cons (pg_name (i := 1) (sc_indices_of_first).nd rfl (Or.inl rfl)) (pgs_cons (pg_name (i := 2) (sc_indices_of_first).nd rfl (Or.inr rfl)) pgs_nil)))) (fun _ _ _ _ _ => (pts_one (pt_val (pe_callB (G.cr_allK (K := K) rfl rfl) (by rfl) T.z_all (by decide +kernel) (pa_cons (pe_lc (own := [("ahead", 3)]) (g := gName 3) rfl (sc_indices_of_first).nd (G.pi_listK (K := K) rfl (pe_slice (G.sl_listK (K := K) rfl) (pv 0) po_none (po_some (pv 1)))) (blkOk_by (own := [("ahead", 3)]) (N := N_indices_of_first) (sc := _) (by with_unfolding_all rfl)) (fun _ _ _ _ _ => (pg_name (i := 3) (sc_indices_of_first).nd rfl (Or.inl rfl))) (fun _ _ _ _ _ => pts_nil) (fun _ _ _ _ _ => (pe_call (ok_are_free T) (hr.mono (by decide)) rfl T.mg_are_free T.fun_are_free.kp T.bd_are_free .nil pass0 (pa_cons (pv 3) (pa_cons (pv 2) pa_nil))))) pa_nil))))) (fun _ _ _ _ _ => (pv 1))))), ?_⟩
    have lx : xs.length = ts.length := hT.len
    walk_at "wp"
    refine w_lc ?_
    walk_at "wp"
    refine ⟨a, xs, rfl, SqL.of ha, w_lcEnum (O := fun _ v (y : V) => v = y) kept_val (fun k v => [some (.ref a), some (.int (k : Int)), some v, none]) (firstAt ts) (fun i : Nat => V.int (i : Int)) ha (by omega) (fun T' k v H' R hT' r => w_g2 (SqT.of hT') rfl r) (fun _ _ => rfl) ?_ ?_ ?_⟩
    · intro k v H' R hv e r
      have kl : k < xs.length := (List.getElem?_eq_some_iff.mp hv).1
      obtain ⟨x, hx, ox⟩ := hT.get hv
      walk_at "wp"
      refine w_lc ?_
      walk_at "wp"
      refine w_slL (SqL.of (e _ _ ha)) fun s1 H2 n2 e2 h2 => ?_
      rw [cut_nat (by omega)] at h2
      have t2 := Ts.same (Ts.same (hT.take k) e) e2
      have ox2 := (ox.same e).same e2
      refine ⟨s1, rfl, ⟨_, SqL.of h2⟩, w_lcMap (O := fun _ v b => v = V.bl b) kept_val ((ts.take k).map fun y => fre y x) h2 (by rw [List.length_map]; exact t2.len) (by rw [List.length_take]; omega) ?_ ?_⟩
      · intro c u b H3 R' hu hb e3 r'
        obtain ⟨y, hy, oy⟩ := t2.get hu
        rw [List.getElem?_map, hy] at hb
        cases hb
        walk_at "wp"
        refine ⟨u, v, y, x, rfl, oy.same e3, ox2.same e3, ?_⟩
        exact r' _ _ (Same.refl _) rfl
      · intro L acc H3 nL e3 hL ps
        rw [pl_bl ps] at hL
        walk_at "wp"
        refine ⟨L, _, rfl, SqL.of hL, ?_⟩
        rw [← firstAt_get hx]
        walk_at "wp"
        exact r _ (e2.trans e3)
    · intro k v H' R hv c e r
      walk_at "wp"
      exact r _ _ (Same.refl _) rfl
    · intro L acc H1 nL e hL ps
      rw [pl_id ps, lx] at hL
      exact q L H1 nL e hL
theorem ok_is_transfer (T : Txt K mg A) : FnOk P w K mg base CX0 3 A.a_is_transfer A.d_is_transfer ["value"] spTr := by
  refine T.fun_is_transfer.ok sc_is_transfer (fun vs H Q E h => ?_) (fun cdv B outer s H vs Q E hr h => ?_)
  · obtain ⟨v, x, rfl, _⟩ := h
    rfl
  · obtain ⟨v, x, rfl, ⟨r, rfl, hx⟩, g, q⟩ := h
    refine ⟨_, (pss_cons (ps_if (PW.pt (pw_or (pt_cmpR op_notTyB (pe_callTy call_type1 (by rfl) T.z_type (by decide +kernel) (pa_cons (pv 0) pa_nil)) (pe_bltn (by rfl) T.z_tuple (by decide +kernel) (show RelV (.ty "tuple") _ from rfl)) (nomark _)) (pw_or1 (pt_cmpR op_ne (pe_callB call_len (by rfl) T.z_len (by decide +kernel) (pa_cons (pv 0) pa_nil)) pe_int (nomark _))))) (pss_one (ps_ret pe_bl)) pss_nil)
 (pss_cons (ps_asg (pv 0) (pg_tup rfl (pgs_cons (pg_name (i := 1) (sc_is_transfer).nd rfl (Or.inl rfl)) (pgs_cons (pg_name (i := 2) (sc_is_transfer).nd rfl (Or.inl rfl)) (pgs_cons (pg_name (i := 3) (sc_is_transfer).nd rfl (Or.inl rfl)) pgs_nil)))))
 (pss_cons (ps_if (pt_not (pt_val (pe_callB (cr_all rfl) (by rfl) T.z_all (by decide +kernel) (pa_cons (pe_lc (own := [("vessel", 4)]) (g := gName 4) rfl (sc_is_transfer).nd (pi_list (pe_lst (pa_cons (pv 1) (pa_cons (pv 2) pa_nil)))) (blkOk_by (own := [("vessel", 4)]) (N := N_is_transfer) (sc := defScope s_is_transfer) (by decide +kernel)) (fun _ _ _ _ _ => (pg_name (i := 4) (sc_is_transfer).nd rfl (Or.inl rfl))) (fun _ _ _ _ _ => pts_nil) (fun _ _ _ _ _ => (pe_call (ok_is_whole_within T) (hr.mono (by decide)) rfl T.mg_is_whole_within T.fun_is_whole_within.kp T.bd_is_whole_within .nil pass0 (pa_cons (pv 4) (pa_cons pe_int (pa_cons (pe_op op_sub (pe_glob (v := .int 8) rfl T.gi_MOST_VESSELS.choose_spec ⟨_, rfl⟩) pe_int) pa_nil)))))) pa_nil)))) (pss_one (ps_ret pe_bl)) pss_nil)
 (pss_one (ps_ret (pe_and (pe_cmpR op_ne (pv 1) (pv 2) (nomark _)) (pe_one (pe_call (ok_is_whole_within T) (hr.mono (by decide)) rfl T.mg_is_whole_within T.fun_is_whole_within.kp T.bd_is_whole_within .nil pass0 (pa_cons (pv 3) (pa_cons pe_int (pa_cons (pe_glob (v := .int 1000000) rfl T.gi_MOST_DROPS.choose_spec ⟨_, rfl⟩) pa_nil))))))))))), ?_⟩
    obtain ⟨ga, gb, gc, gn⟩ := g
    walk_at "wp"
    refine ⟨_, _, rfl, .tup (SqT.of hx), ?_⟩
    walk_at "wp"
    refine ⟨_, _, rfl, rfl, ?_⟩
    walk_at "wp"
    refine w_lenT (SqT.of hx) ?_
    walk_at "wp"
    refine w_g3 (SqT.of hx) rfl ?_
    walk_at "wp"
    refine w_lc ?_
    walk_at "wp"
    intro l H1 n1 e1 h1
    refine ⟨l, rfl, ⟨_, SqL.of h1⟩, w_lcMap (O := fun _ v b => v = V.bl b) kept_val [true, true] h1 rfl (by show (2 : Nat) ≤ 1000; decide) ?_ ?_⟩
    · intro c u b H3 R' hu hb e3 r'
      obtain ⟨i, rfl, i0, rfl⟩ : ∃ i : Int, u = .int i ∧ (0 ≤ i ∧ i ≤ 7) ∧ b = true := by
        match c, hu, hb with
        | 0, hu, hb => cases hu; cases hb; exact ⟨_, rfl, by omega, rfl⟩
        | 1, hu, hb => cases hu; cases hb; exact ⟨_, rfl, by omega, rfl⟩
      walk_at "wp"
      refine ⟨i, 0, 7, rfl, ?_⟩
      rw [decide_eq_true i0]
      exact r' _ _ (Same.refl _) rfl
    · intro L acc H3 nL e3 hL ps
      rw [pl_bl ps] at hL
      walk_at "wp"
      refine ⟨L, _, rfl, SqL.of hL, ?_⟩
      walk_at "wp"
      refine w_iteT (by rw [decide_eq_false gn]; rfl) ?_
      walk_at "wp"
      refine ⟨x.2.2, 1, 1000000, rfl, ?_⟩
      rw [decide_eq_true gc]
      exact q _ (e1.trans e3)
theorem ok_is_transfers (T : Txt K mg A) : FnOk P w K mg base CX0 4 A.a_is_transfers A.d_is_transfers ["value"] spTrs := by
  refine T.fun_is_transfers.ok sc_is_transfers (fun vs H Q E h => ?_) (fun cdv B outer s H vs Q E hr h => ?_)
  · obtain ⟨a, xs, ts, rfl, _⟩ := h
    rfl
  · obtain ⟨a, xs, ts, rfl, ha, hT, g, hl, q⟩ := h
    refine ⟨_, (pss_one (ps_ret (pe_and (pe_call (ok_is_list_within T) (hr.mono (by decide)) rfl T.mg_is_list_within T.fun_is_list_within.kp T.bd_is_list_within .nil pass0 (pa_cons (pv 0) (pa_cons pe_int (pa_cons (pe_glob (v := .int 24) rfl T.gi_MOST_TRANSFERS.choose_spec ⟨_, rfl⟩) pa_nil)))) (pe_one (pe_callB (cr_all rfl) (by rfl) T.z_all (by decide +kernel) (pa_cons (pe_lc (own := [("transfer", 1)]) (g := gName 1) rfl (sc_is_transfers).nd (pi_list (pv 0)) (blkOk_by (own := [("transfer", 1)]) (N := N_is_transfers) (sc := defScope s_is_transfers) (by decide +kernel)) (fun _ _ _ _ _ => (pg_name (i := 1) (sc_is_transfers).nd rfl (Or.inl rfl))) (fun _ _ _ _ _ => pts_nil) (fun _ _ _ _ _ => (pe_call (ok_is_transfer T) (hr.mono (by decide)) rfl T.mg_is_transfer T.fun_is_transfer.kp T.bd_is_transfer .nil pass0 (pa_cons (pv 1) pa_nil)))) pa_nil)))))), ?_⟩
    have lx : xs.length = ts.length := hT.len
    walk_at "wp"
    refine ⟨a, xs, 0, 24, rfl, ha, by omega, ?_⟩
    rw [decide_eq_true (show (0 : Int) ≤ xs.length ∧ (xs.length : Int) ≤ 24 by omega)]
    walk_at "wp"
    refine w_lc ?_
    walk_at "wp"
    refine ⟨a, rfl, ⟨_, SqL.of ha⟩, w_lcMap (O := fun _ v b => v = V.bl b) kept_val (ts.map fun _ => true) ha (by rw [List.length_map]; exact lx) (by omega) ?_ ?_⟩
    · intro c u b H3 R' hu hb e3 r'
      obtain ⟨y, hy, oy⟩ := hT.get hu
      rw [List.getElem?_map, hy] at hb
      cases hb
      walk_at "wp"
      refine ⟨u, y, rfl, oy.same e3, g y (List.mem_of_getElem? hy), fun H4 e4 => ?_⟩
      exact r' _ _ e4 rfl
    · intro L acc H3 nL e3 hL ps
      rw [pl_bl ps] at hL
      walk_at "wp"
      refine ⟨L, _, rfl, SqL.of hL, ?_⟩
      rw [show ((ts.map fun _ => true).all id) = true from by rw [List.all_map]; exact List.all_eq_true.mpr fun _ _ => rfl]
      exact q _ e3
theorem ok_check_transfers (T : Txt K mg A) : FnOk P w K mg base CX0 5 A.a_check_transfers A.d_check_transfers ["transfers"] spCheckT := by
  refine T.fun_check_transfers.ok sc_check_transfers (fun vs H Q E h => ?_) (fun cdv B outer s H vs Q E hr h => ?_)
  · obtain ⟨a, xs, ts, rfl, _⟩ := h
    rfl
  · obtain ⟨a, xs, ts, rfl, ha, hT, g, hl, q⟩ := h
    refine ⟨_, (pss_one (ps_if (pt_not (pt_val (pe_call (ok_is_transfers T) (hr.mono (by decide)) rfl T.mg_is_transfers T.fun_is_transfers.kp T.bd_is_transfers .nil pass0 (pa_cons (pv 0) pa_nil)))) (pss_one ps_never) pss_nil)), ?_⟩
    walk_at "wp"
    refine ⟨a, xs, ts, rfl, ha, hT, g, hl, fun H1 e1 => ?_⟩
    walk_at "wp"
    exact q H1 e1
theorem ok_law_pool (T : Txt K mg A) : FnOk P w K mg base CX0 1 A.a_law_pool A.d_law_pool ["script", "k"] (spPool K) := by
  refine T.fun_law_pool.ok sc_law_pool (fun vs H Q E h => ?_) (fun cdv B outer s H vs Q E hr h => ?_)
  · obtain ⟨s, ns, k, rfl, _⟩ := h
    rfl
  · obtain ⟨s, ns, k, rfl, hs, hl, hk, bk, q⟩ := h
    refine ⟨_, (pss_cons (ps_set (i := 2) (sc_law_pool).nd rfl (Or.inl rfl) pe_int)
 (pss_cons (ps_if (pt_cmpR op_lt (pv 1) (pe_callB call_len (by rfl) T.z_len (by decide +kernel) (pa_cons (pv 0) pa_nil)) (nomark _)) (pss_one (ps_set (i := 2) (sc_law_pool).nd rfl (Or.inl rfl) (pe_ix ix_list (pv 0) (pv 1) (fun _ _ => rfl)))) pss_nil)
 (pss_one (ps_ret (pe_lst (pa_cons (pe_callB (call_max2 rfl) (by rfl) T.z_max (by decide +kernel) (pa_cons pe_int (pa_cons (pe_op op_sub (pv 2) (G.pe_powc (c := 1000000000000000000) (by decide +kernel) (by decide +kernel))) pa_nil))) (pa_cons (pe_op op_add (pe_op op_mulW (pe_op op_modW (pv 2) (pe_op op_add (G.pe_powc (c := 10000000000000000000000000000000000000000) (by decide +kernel) (by decide +kernel)) pe_int)) pe_int) (pv 1)) (pa_cons pe_int pa_nil)))))))), ?_⟩
    have fin : ∀ (c : Int) (p : Addr) (H' : Hp), H p = none → Same H H' → H' p = some (.lst [.int (if c - 1000000000000000000 > 0 then c - 1000000000000000000 else 0), .int (c % (10000000000000000000000000000000000000000 + 121) * 64 + k), .int 0]) → Q (.ref p) H' := by
      intro c p H' np e h
      refine q p H' np e ⟨_, _, _, h, ?_, ?_, ?_, Int.le_refl 0, Int.le_refl 0⟩
      · split <;> omega
      · have h := Int.emod_nonneg c (show (10000000000000000000000000000000000000000 : Int) + 121 ≠ 0 by decide +kernel)
        omega
      · refine Bt.mono (a := ?_) ?_ ?_
        rotate_left
        · walk_at "bt"
        · decide +kernel
    walk_at "wp"
    refine w_lenL hs ?_
    walk_at "wp"
    refine w_ite (fun c => ?_) fun c => ?_
    · have c := of_decide_eq_true c
      rw [List.length_map] at c
      obtain ⟨z, hz⟩ : ∃ z, ns[k.toNat]? = some z := ⟨ns[k.toNat]'(by omega), by rw [List.getElem?_eq_getElem]⟩
      walk_at "wp"
      refine w_ixL hs (v := .int z) ?_ ?_
      · unfold atI ixN
        rw [if_pos hk, if_pos (by rw [List.length_map]; exact c)]
        show (ns.map V.int)[k.toNat]? = _
        rw [List.getElem?_map, hz]
        rfl
      · walk_at "wp"
        exact fin z
    · walk_at "wp"
      exact fin 0
theorem ok_law_draw (T : Txt K mg A) : FnOk P w K mg base CX0 1 A.a_law_draw A.d_law_draw ["pool", "many"] spDraw := by
  refine T.fun_law_draw.ok sc_law_draw (fun vs H Q E h => ?_) (fun cdv B outer s H vs Q E hr h => ?_)
  · obtain ⟨a, n, b, rfl, _⟩ := h
    rfl
  · obtain ⟨a, n, b, rfl, ⟨x, y, z, ha, hx, hy, by_, hz, hzb⟩, hb, hn, bn, q⟩ := h
    refine ⟨_, (pss_cons (ps_if (pt_cmpR op_gt (pe_ix ix_list (pv 0) pe_int (fun _ _ => rfl)) pe_int (nomark _)) (pss_cons (ps_set (i := 2) (sc_law_draw).nd rfl (Or.inl rfl) (pe_op op_modW (pe_ix ix_list (pv 0) pe_int (fun _ _ => rfl)) (pv 1)))
 (pss_cons (ps_asg (pe_op op_fdivW (pe_ix ix_list (pv 0) pe_int (fun _ _ => rfl)) (pv 1)) (pg_sub (pv 0) pe_int set_list))
 (pss_one (ps_ret (pv 2))))) pss_nil)
 (pss_cons (ps_asg (pe_op op_add (pe_ix ix_list (pv 0) pe_int (fun _ _ => rfl)) pe_int) (pg_sub (pv 0) pe_int set_list))
 (pss_cons (ps_set (i := 3) (sc_law_draw).nd rfl (Or.inl rfl) (pe_op op_modW (pe_op op_powW (pe_op op_add (pe_ix ix_list (pv 0) pe_int (fun _ _ => rfl)) (pe_op op_mulW pe_int (pe_ix ix_list (pv 0) pe_int (fun _ _ => rfl)))) pe_int) (pe_op op_add (G.pe_powc (c := 100000000000000000000000000000000000000000) (by decide +kernel) (by decide +kernel)) pe_int)))
 (pss_cons (ps_set (i := 3) (sc_law_draw).nd rfl (Or.inl rfl) (pe_op op_modW (pe_op op_powW (pe_op op_add (pv 3) (pe_op op_mulW pe_int (pe_ix ix_list (pv 0) pe_int (fun _ _ => rfl)))) pe_int) (pe_op op_add (G.pe_powc (c := 100000000000000000000000000000000000000) (by decide +kernel) (by decide +kernel)) pe_int)))
 (pss_one (ps_ret (pe_op op_modW (pe_op op_fdivW (pv 3) pe_int) (pv 1)))))))), ?_⟩
    have bz : Bt 60 z := by
      unfold Bt
      omega
    walk_at "wp"
    refine w_ite (fun c => ?_) fun c => ?_
    · have c : 0 < x := of_decide_eq_true c
      walk_at "wp"
      refine q _ _ (Int.emod_nonneg x (by omega)) (Int.emod_lt_of_pos x hn) ⟨_, _, _, upd_same, Int.ediv_nonneg hx (by omega), hy, by_, hz, by omega⟩ Fr.at_
    · walk_at "wp"
      refine q _ _ (Int.emod_nonneg _ (by omega)) (Int.emod_lt_of_pos _ hn) ⟨_, _, _, upd_same, hx, hy, by_, by omega, by omega⟩ Fr.at_
theorem ok_law_is_free (T : Txt K mg A) : FnOk P w K mg base CX0 1 A.a_law_is_free A.d_law_is_free ["here", "there"] spFree := by
  refine T.fun_law_is_free.ok sc_law_is_free (fun vs H Q E h => ?_) (fun cdv B outer s H vs Q E hr h => ?_)
  · obtain ⟨u, v, x, y, rfl, _⟩ := h
    rfl
  · obtain ⟨u, v, x, y, rfl, ⟨r1, rfl, h1⟩, ⟨r2, rfl, h2⟩, q⟩ := h
    refine ⟨_, (pss_one (ps_ret (pe_and (pe_cmpR op_ne (pe_ix ix_tup (pv 0) pe_int (fun _ _ => rfl)) (pe_ix ix_tup (pv 1) pe_int (fun _ _ => rfl)) (nomark _)) (pe_one (pe_cmpR op_ne (pe_ix ix_tup (pv 0) pe_int (fun _ _ => rfl)) (pe_ix ix_tup (pv 1) pe_int (fun _ _ => rfl)) (nomark _)))))), ?_⟩
    walk_at "wp"
    unfold fre at q
    refine w_ite (fun c => ?_) fun c => ?_
    · rw [c, Bool.true_and] at q
      walk_at "wp"
      exact q
    · rw [c, Bool.false_and] at q
      walk_at "wp"
      exact q
theorem ok_law_any (T : Txt K mg A) : FnOk P w K mg base CX0 2 A.a_law_any A.d_law_any ["pool", "most"] spAny3 := by
  refine T.fun_law_any.ok sc_law_any (fun vs H Q E h => ?_) (fun cdv B outer s H vs Q E hr h => ?_)
  · obtain ⟨a, m, b, rfl, _⟩ := h
    rfl
  · obtain ⟨a, m, b, rfl, hS, hb, m0, m9, q⟩ := h
    refine ⟨_, (pss_cons (ps_par3 (i := 2) (j := 3) (l := 4) (by rfl) (sc_law_any).nd rfl rfl rfl (by decide) (by decide) (by decide) rfl rfl rfl (pa_cons (pe_op op_add pe_int (pe_call (ok_law_draw T) (hr.mono (by decide)) rfl T.mg_law_draw T.fun_law_draw.kp T.bd_law_draw .nil pass0 (pa_cons (pv 0) (pa_cons pe_int pa_nil)))) (pa_cons (pe_ix ix_list (pe_lst (pa_cons pe_int (pa_cons pe_int (pa_cons (G.pe_powc (c := 1000000) (by decide +kernel) (by decide +kernel)) pa_nil)))) (pe_call (ok_law_draw T) (hr.mono (by decide)) rfl T.mg_law_draw T.fun_law_draw.kp T.bd_law_draw .nil pass0 (pa_cons (pv 0) (pa_cons pe_int pa_nil))) (fun _ _ => rfl)) (pa_cons (pe_lst pa_nil) pa_nil))) (by rfl))
 (pss_cons (ps_for PassesOwn.never rfl (pi_range1 rfl T.z_range (pa_cons (pv 1) pa_nil)) (pg_name (i := 5) (sc_law_any).nd rfl (Or.inl rfl)) (pss_cons (ps_set (i := 6) (sc_law_any).nd rfl (Or.inl rfl) (pe_call (ok_law_draw T) (hr.mono (by decide)) rfl T.mg_law_draw T.fun_law_draw.kp T.bd_law_draw .nil pass0 (pa_cons (pv 0) (pa_cons (pv 2) pa_nil))))
 (pss_one (ps_expr (pe_bm PySem.F.plainAttrs_list PySem.F.slot_list_append PySem.F.type_list_append mt_append (pv 4) (pa_cons (pe_tup (pa_cons (pv 6) (pa_cons (pe_op op_modW (pe_op op_add (pe_op op_add (pv 6) pe_int) (pe_call (ok_law_draw T) (hr.mono (by decide)) rfl T.mg_law_draw T.fun_law_draw.kp T.bd_law_draw .nil pass0 (pa_cons (pv 0) (pa_cons (pe_op op_sub (pv 2) pe_int) pa_nil)))) (pv 2)) (pa_cons (pe_op op_add pe_int (pe_call (ok_law_draw T) (hr.mono (by decide)) rfl T.mg_law_draw T.fun_law_draw.kp T.bd_law_draw .nil pass0 (pa_cons (pv 0) (pa_cons (pv 3) pa_nil)))) pa_nil)))) pa_nil))))))
 (pss_one (ps_ret (pv 4))))), ?_⟩
    walk_at "wp"
    refine ⟨a, _, b, rfl, hS, by omega, by decide, by decide +kernel, fun d1 H1 d0 d9 S1 f1 => ?_⟩
    walk_at "wp"
    intro p2 H2 n2 e2 h2
    walk_at "wp"
    refine ⟨a, _, _, rfl, S1.same e2, by omega, by decide, by decide +kernel, fun d3 H3 g0 g9 S3 f3 => ?_⟩
    have p2a : p2 ≠ a := S1.ne n2
    obtain ⟨gr, eg, gr0, gr9⟩ : ∃ gr : Int, atI [V.int 2, V.int 4, V.int 1000000] d3 = some (.int gr) ∧ 0 < gr ∧ gr ≤ 1000000 := by
      have c : d3 = 0 ∨ d3 = 1 ∨ d3 = 2 := by omega
      rcases c with rfl | rfl | rfl
      · exact ⟨2, rfl, by decide, by decide⟩
      · exact ⟨4, rfl, by decide, by decide⟩
      · exact ⟨1000000, rfl, by decide, by decide⟩
    walk_at "wp"
    refine w_ixL (SqL.of (f3 _ _ p2a h2)) eg ?_
    walk_at "wp"
    intro l H4 n4 e4 h4
    walk_at "wp"
    have F4 : Fr a H H4 := ((f1.trans (.same e2)).trans f3).trans (.same e4)
    have S4 := S3.same e4
    have la : l ≠ a := S3.ne n4
    have nHl : H l = none := by
      cases c : H l with
      | none => rfl
      | some o =>
        have := ((f1.trans (.same e2)).trans f3) l o la c
        rw [n4] at this
        cases this
    generalize hw : (2 : Int) + d1 = wd
    have w2 : 2 ≤ wd := by omega
    have w8 : wd ≤ 8 := by omega
    clear hw d0 d9 f1 f3 h2 e2 S1 S3 n2 hS eg
    refine w_walkR ⟨m0, by omega⟩ (fun i σ' H' => ∃ (v5 v6 : Option V) (xs : List V) (ts : List Tr), σ' = [some (.ref a), some (.int m), some (.int wd), some (.int gr), some (.ref l), v5, v6] ∧ H' l = some (.lst xs) ∧ Ts H' xs ts ∧ ts.length = i ∧ (∀ x ∈ ts, Gd x) ∧ Src (b + 1 + 1 + 3 * i) H' a ∧ Fr a H H') ⟨_, _, [], [], rfl, h4, .nil, rfl, nofun, S4, F4⟩ ?_ ?_
    · rintro i σ' H' hi ⟨v5, v6, xs, ts, rfl, hl, hT, lt, gt, S, F⟩
      walk_at "wp"
      refine ⟨a, wd, _, rfl, S, by omega, by omega, Bt.mono (a := 5) (by unfold Bt; omega) (by decide), fun gi H5 i0 i9 S5 f5 => ?_⟩
      walk_at "wp"
      have hl5 := f5 _ _ la hl
      refine w_bmL hl5 ?_
      walk_at "wp"
      refine ⟨a, wd - 1, _, rfl, S5, by omega, by omega, Bt.mono (a := 5) (by unfold Bt; omega) (by decide), fun st H6 s0 s9 S6 f6 => ?_⟩
      walk_at "wp"
      refine ⟨a, gr, _, rfl, S6, by omega, gr0, Bt.mono (a := 21) (by unfold Bt; omega) (by decide), fun dr H7 r0 r9 S7 f7 => ?_⟩
      walk_at "wp"
      intro tp H8 n8 e8 h8
      walk_at "wp"
      have hl8 := e8 _ _ (f7 _ _ la (f6 _ _ la hl5))
      have lx : xs.length = ts.length := hT.len
      refine w_append hl8 (fun H9 f9 h9 => ?_) (decide_eq_true (by omega))
      have m0' := Int.emod_nonneg (gi + 1 + st) (show wd ≠ 0 by omega)
      have m1' := Int.emod_lt_of_pos (gi + 1 + st) (show 0 < wd by omega)
      have good : Gd (gi, (gi + 1 + st) % wd, 1 + dr) := by
        refine ⟨⟨i0, by show gi < 8; omega⟩, ⟨m0', by show (gi + 1 + st) % wd < 8; omega⟩, ⟨by show 1 ≤ 1 + dr; omega, by show 1 + dr ≤ 1000000; omega⟩, ?_⟩
        show gi ≠ (gi + 1 + st) % wd
        have c : wd = 2 ∨ wd = 3 ∨ wd = 4 ∨ wd = 5 ∨ wd = 6 ∨ wd = 7 ∨ wd = 8 := by omega
        rcases c with rfl | rfl | rfl | rfl | rfl | rfl | rfl <;> omega
      have tr8 : Ts H8 xs ts := hT.imp fun v x o => let ⟨r, ev, hr'⟩ := o; ⟨r, ev, e8 _ _ (tup_fr (tup_fr (tup_fr hr' S f5) S5 f6) S6 f7)⟩
      have nt : T3 H8 (.ref tp) (gi, (gi + 1 + st) % wd, 1 + dr) := ⟨tp, rfl, h8⟩
      exact ⟨_, _, xs ++ [.ref tp], ts ++ [(gi, (gi + 1 + st) % wd, 1 + dr)], rfl, h9, PL.snoc (Ts.fr tr8 hl8 f9) (nt.fr hl8 f9), by rw [List.length_append]; show ts.length + 1 = i + 1; omega, fun x hx => (List.mem_append.mp hx).elim (gt x) fun h => by rw [List.mem_singleton.mp h]; exact good,
        ((S7.same e8).fr (Ne.symm la) f9).mono (by omega), fun c o nc hc => f9 _ _ (fun z => by rw [z, nHl] at hc; cases hc) (e8 _ _ (f7 _ _ nc (f6 _ _ nc (f5 _ _ nc (F _ _ nc hc)))))⟩
    · rintro σ' H' ⟨v5, v6, xs, ts, rfl, hl, hT, lt, gt, S, F⟩
      walk_at "wp"
      exact q l xs ts H' nHl hl hT (by omega) gt (S.mono (by omega)) F
theorem ok_law_shuffled (T : Txt K mg A) : FnOk P w K mg base CX0 2 A.a_law_shuffled A.d_law_shuffled ["pool", "line"] spShuf := by
  refine T.fun_law_shuffled.ok sc_law_shuffled (fun vs H Q E h => ?_) (fun cdv B outer s H vs Q E hr h => ?_)
  · obtain ⟨a, l, b, xs, ts, rfl, _⟩ := h
    rfl
  · obtain ⟨a, l, b, xs, ts, rfl, hS, hb, hl, hT, lt, la, q⟩ := h
    refine ⟨_, (pss_cons (ps_set (i := 2) (sc_law_shuffled).nd rfl (Or.inl rfl) (pe_callTy G.call_listO (by rfl) T.z_list (by decide +kernel) (pa_cons (pv 1) pa_nil)))
 (pss_cons (ps_for PassesOwn.never rfl (pi_range1 rfl T.z_range (pa_cons pe_int pa_nil)) (pg_name (i := 3) (sc_law_shuffled).nd rfl (Or.inl rfl)) (pss_cons (ps_set (i := 4) (sc_law_shuffled).nd rfl (Or.inl rfl) (pe_call (ok_law_draw T) (hr.mono (by decide)) rfl T.mg_law_draw T.fun_law_draw.kp T.bd_law_draw .nil pass0 (pa_cons (pv 0) (pa_cons (pe_callB (call_max2 rfl) (by rfl) T.z_max (by decide +kernel) (pa_cons pe_int (pa_cons (pe_op op_sub (pe_callB call_len (by rfl) T.z_len (by decide +kernel) (pa_cons (pv 1) pa_nil)) pe_int) pa_nil))) pa_nil))))
 (pss_one (ps_if (PW.pt (pw_and (pt_cmpR op_gt (pe_callB call_len (by rfl) T.z_len (by decide +kernel) (pa_cons (pv 1) pa_nil)) pe_int (nomark _)) (pw_and1 (pt_val (pe_call (ok_law_is_free T) (hr.mono (by decide)) rfl T.mg_law_is_free T.fun_law_is_free.kp T.bd_law_is_free .nil pass0 (pa_cons (pe_ix ix_list (pv 2) (pv 4) (fun _ _ => rfl)) (pa_cons (pe_ix ix_list (pv 2) (pe_op op_add (pv 4) pe_int) (fun _ _ => rfl)) pa_nil))))))) (pss_cons (ps_set (i := 5) (sc_law_shuffled).nd rfl (Or.inl rfl) (pe_ix ix_list (pv 2) (pv 4) (fun _ _ => rfl)))
 (pss_cons (ps_asg (pe_ix ix_list (pv 2) (pe_op op_add (pv 4) pe_int) (fun _ _ => rfl)) (pg_sub (pv 2) (pv 4) set_list))
 (pss_one (ps_asg (pv 5) (pg_sub (pv 2) (pe_op op_add (pv 4) pe_int) set_list))))) pss_nil))))
 (pss_one (ps_ret (pv 2))))), ?_⟩
    have lx : xs.length = ts.length := hT.len
    walk_at "wp"
    refine w_listOf (SqL.of hl) fun f H1 n1 e1 h1 => ?_
    walk_at "wp"
    have fa : f ≠ a := hS.ne n1
    have lf : l ≠ f := ne_of_none hl n1
    refine w_walkR (n := 60) (by decide) (fun i σ' H' => ∃ (v3 v4 v5 : Option V) (ys : List V) (us : List Tr), σ' = [some (.ref a), some (.ref l), some (.ref f), v3, v4, v5] ∧ H' f = some (.lst ys) ∧ H' l = some (.lst xs) ∧ Ts H' ys us ∧ Sw ts us ∧ Src (b + i) H' a ∧ Fr a H H') ⟨_, _, _, xs, ts, rfl, h1, e1 _ _ hl, Ts.same hT e1, .refl _, hS.same e1, .same e1⟩ ?_ ?_
    · rintro i σ' H' hi ⟨v3, v4, v5, ys, us, rfl, hf, hl', hU, sw, S, F⟩
      have ly : ys.length = us.length := hU.len
      have lu : us.length = ts.length := sw.len
      walk_at "wp"
      refine w_lenL (SqL.of hl') ?_
      walk_at "wp"
      refine ⟨a, _, _, rfl, S, by omega, by split <;> omega, Bt.mono (a := 10) (by unfold Bt; split <;> omega) (by decide), fun at_ H2 c0 c9 S2 f2 => ?_⟩
      walk_at "wp"
      have hl2 := f2 _ _ la hl'
      have hf2 := f2 _ _ fa hf
      have hU2 : Ts H2 ys us := hU.imp fun v x o => let ⟨r, ev, h⟩ := o; ⟨r, ev, tup_fr h S f2⟩
      have F2 := F.trans f2
      clear hl' hf hU S F f2
      refine w_lenL (SqL.of hl2) ?_
      walk_at "wp"
      refine w_ite (fun c => ?_) fun c => ?_
      · have c : (xs.length : Int) > 1 := of_decide_eq_true c
        obtain ⟨k, rfl⟩ : ∃ k : Nat, at_ = (k : Int) := ⟨at_.toNat, by omega⟩
        have kl : k + 1 < us.length := by
          have : (k : Int) < (xs.length : Int) - 1 := by
            split at c9 <;> omega
          omega
        obtain ⟨x, hx⟩ : ∃ x, us[k]? = some x := ⟨us[k]'(by omega), by rw [List.getElem?_eq_getElem]⟩
        obtain ⟨y, hy⟩ : ∃ y, us[k + 1]? = some y := ⟨us[k + 1]'(by omega), by rw [List.getElem?_eq_getElem]⟩
        obtain ⟨u, hu, ou⟩ := hU2.gety hx
        obtain ⟨v, hv, ov⟩ := hU2.gety hy
        walk_at "wp"
        refine w_ixL (SqL.of hf2) (ix_nat hu) ?_
        walk_at "wp"
        refine w_ixL (SqL.of hf2) (i := (k : Int) + 1) (ix_nat (k := k + 1) hv) ?_
        walk_at "wp"
        refine ⟨u, v, x, y, rfl, ou, ov, ?_⟩
        walk_at "wp"
        refine w_ite (fun cf => ?_) fun cf => ?_
        · walk_at "wp"
          refine w_ixL (SqL.of hf2) (ix_nat hu) ?_
          walk_at "wp"
          refine w_ixL (SqL.of hf2) (i := (k : Int) + 1) (ix_nat (k := k + 1) hv) ?_
          walk_at "wp"
          refine w_setL hf2 (ixN_nat (by omega)) ?_
          walk_at "wp"
          refine w_setL (xs := ys.set k v) upd_same (i := (k : Int) + 1) (ixN_nat (k := k + 1) (by rw [List.length_set]; omega)) ?_
          walk_at "wp"
          rw [upd_twice]
          have hf2' := hf2
          refine ⟨_, _, _, (ys.set k v).set (k + 1) u, (us.set k y).set (k + 1) x, rfl, upd_same, by rw [upd_ne lf]; exact hl2, ?_, sw_at sw hx hy cf, S2.upd (Ne.symm fa), ?_⟩
          · have := PL.set (PL.set hU2 ov k) ou (k + 1)
            exact this.imp fun _ _ o => o.fr hf2 Fr.at_
          · exact fun c o nc hc => by rw [upd_ne (ne_of_none hc n1)]; exact F2 _ _ nc hc
        · walk_at "wp"
          exact ⟨_, _, _, ys, us, rfl, hf2, hl2, hU2, sw, S2, F2⟩
      · walk_at "wp"
        exact ⟨_, _, _, ys, us, rfl, hf2, hl2, hU2, sw, S2, F2⟩
    · rintro σ' H' ⟨v3, v4, v5, ys, us, rfl, hf, hl', hU, sw, S, F⟩
      walk_at "wp"
      exact q f ys us H' n1 hf hU sw (S.mono (by omega)) F
end
end K62

namespace K62
open PySem L2 G
local macro_rules | `(tactic| walk_at "pos") => `(tactic| first | assumption | (decide +kernel) | omega)
local macro_rules | `(tactic| walk_at "bt") => `(tactic| first
  | assumption
  | (decide +kernel)
  | exact Bt.mono (by assumption) (by decide)
  | (refine' Bt.add ?b1 ?b2; (case b1 => walk_at "bt"); (case b2 => walk_at "bt"))
  | (refine' Bt.sub ?b1 ?b2; (case b1 => walk_at "bt"); (case b2 => walk_at "bt"))
  | (refine' Bt.mul ?b1 ?b2; (case b1 => walk_at "bt"); (case b2 => walk_at "bt"))
  | (refine' Bt.mod ?b1 ?b2; (case b2 => walk_at "bt"); (case b1 => walk_at "pos"))
  | (refine' Bt.div ?b1 ?b2; (case b2 => walk_at "bt"); (case b1 => walk_at "pos"))
  | (refine' Bt.pow3 ?b1; (case b1 => walk_at "bt"))
  | (refine' Bt.neg ?b1; (case b1 => walk_at "bt"))
  | exact Bt.any)
local macro_rules | `(tactic| walk_at "btm") => `(tactic| ((refine' Bt.mono ?m1 ?m2); (case m1 => walk_at "bt"); (case m2 => (decide +kernel))))
local macro_rules | `(tactic| walk_at "ne") => `(tactic| first
  | assumption
  | (refine' Ne.symm ?q1; (case q1 => assumption))
  | (refine' ne_of_none (by assumption) ?q1; (case q1 => assumption))
  | (refine' Ne.symm (ne_of_none (by assumption) ?q1); (case q1 => assumption)))
local macro_rules | `(tactic| walk_at "hp") => `(tactic| first
  | assumption
  | exact upd_same
  | ((refine' lst_same ?q1 (by assumption : Same _ _)); (case q1 => walk_at "hp"))
  | ((refine' (by assumption : Fr _ _ _) _ _ ?n ?h); (case n => walk_at "ne"); (case h => walk_at "hp"))
  | ((refine (upd_ne (by assumption)).trans ?_); walk_at "hp")
  | ((refine (upd_ne (Ne.symm (by assumption))).trans ?_); walk_at "hp"))
local macro_rules | `(tactic| walk_at "sr") => `(tactic| first
  | assumption
  | ((refine' Src.same ?q1 (by assumption : Same _ _)); (case q1 => walk_at "sr")))
local macro_rules | `(tactic| walk_at "rt") => `(tactic| first
  | assumption
  | ((refine' Rat.same ?q1 (by assumption : Same _ _)); (case q1 => walk_at "rt"))
  | ((refine' Rat.fr ?q1 ?q2 (by assumption : Fr _ _ _)); (case q2 => walk_at "sr"); (case q1 => walk_at "rt")))
local macro_rules | `(tactic| walk_at "tp") => `(tactic| first
  | assumption
  | ((refine' tup_same ?q1 (by assumption : Same _ _)); (case q1 => walk_at "tp"))
  | ((refine' tup_fr ?q1 ?q2 (by assumption : Fr _ _ _)); (case q2 => walk_at "sr"); (case q1 => walk_at "tp")))
local macro_rules | `(tactic| walk_at "ls") => `(tactic| first
  | assumption
  | ((refine' lst_same ?q1 (by assumption : Same _ _)); (case q1 => walk_at "ls"))
  | ((refine' lst_fr ?q1 ?q2 (by assumption : Fr _ _ _)); (case q2 => assumption); (case q1 => walk_at "ls")))
local macro_rules | `(tactic| walk_at "sm") => `(tactic| first
  | exact Same.refl _
  | assumption
  | ((refine Same.trans ?_ (by assumption : Same _ _)); walk_at "sm"))
local macro_rules | `(tactic| walk_at "fr") => `(tactic| first
  | exact Fr.refl _ _
  | assumption
  | ((refine Fr.trans ?_ (Fr.same (by assumption : Same _ _))); walk_at "fr")
  | ((refine Fr.trans ?_ (by assumption : Fr _ _ _)); walk_at "fr"))
local macro_rules | `(tactic| walk_at "wp1") => `(tactic| first
  | (with_reducible refine w_seq ?_) | (with_reducible refine w_next ?_) | (with_reducible refine w_ret ?_) | (with_reducible refine w_asg ?_) | (with_reducible refine w_gn ?_) | (with_reducible refine w_if ?_)
  | (with_reducible refine w_cons ?_) | (with_reducible refine w_nil ?_) | (with_reducible refine w_c ?_) | (with_reducible refine w_op ?_) | (with_reducible refine w_cb ?_)
  | ((with_reducible refine' w_var ?h ?_); (case h => exact rfl))
  | (with_reducible refine w_I0 ?_) | (with_reducible refine w_eqI ?_) | (with_reducible refine w_neI ?_) | (with_reducible refine w_test ?_) | (with_reducible refine w_tB ?_) | (with_reducible refine w_bl ?_) | (with_reducible refine w_par ?_) | (with_reducible refine w_par2 ?_) | (with_reducible refine w_par3 ?_) | (with_reducible refine w_three ?_)
  | (with_reducible refine w_not ?_) | (with_reducible refine w_and ?_) | (with_reducible refine w_or ?_) | (with_reducible refine w_andV ?_) | (with_reducible refine w_orV ?_) | (with_reducible refine w_notV ?_) | (with_reducible refine w_tif ?_)
  | (with_reducible refine w_tup ?_) | (with_reducible refine w_lst ?_) | (with_reducible refine w_un ?_) | (with_reducible refine w_U ?_) | (with_reducible refine w_drop ?_) | (with_reducible refine w_brk ?_) | (with_reducible refine w_cont ?_) | (with_reducible refine w_retN ?_)
  | (with_reducible refine w_call ?_) | (with_reducible refine w_fld ?_) | (with_reducible refine w_sfld ?_) | (with_reducible refine w_prop ?_) | (with_reducible refine w_make ?_) | (with_reducible refine w_meth ?_) | (with_reducible refine w_methN ?_) | (with_reducible refine w_revL ?_) | (with_reducible refine w_gsub ?_)
  | ((with_reducible refine' w_powN ?c1 ?c2 ?_); (case c2 => (decide +kernel)); (case c1 => exact rfl))
  | ((with_reducible refine' w_powV ?c1 ?c2 ?c3 ?c4 ?_); (case c2 => walk_at "bt"); (case c3 => (decide +kernel)); (case c4 => (decide +kernel)); (case c1 => exact rfl))
  | ((with_reducible refine' w_I (C := CMulW) ?c1 ?_); (case c1 => (refine' mulOk ?k1 ?k2 ?k3; (case k1 => walk_at "bt"); (case k2 => walk_at "bt"); (case k3 => decide +kernel))))
  | ((with_reducible refine' w_I (C := CDivW) ?c1 ?_); (case c1 => (refine' divOk ?k1 ?k2 ?k3; (case k1 => walk_at "pos"); (case k2 => walk_at "bt"); (case k3 => decide +kernel))))
  | ((with_reducible refine' w_I (C := fun _ j => 0 < j) ?c1 ?_); (case c1 => walk_at "pos"))
  | (with_reducible refine w_isB ?_) | (with_reducible refine w_notB ?_) | (with_reducible refine w_neS ?_) | (with_reducible refine w_eqS ?_)
  | (with_reducible refine w_iRng1 ?_) | (with_reducible refine w_for ?_) | (with_reducible refine w_iEnum ?_) | (with_reducible refine w_iList ?_) | (with_reducible refine w_iTup ?_) | (with_reducible refine w_noPart ?_) | (with_reducible refine w_part ?_) | (with_reducible refine w_int ?_)
  | (with_reducible refine w_sl ?_)
  | (with_reducible refine w_two ?_) | (with_reducible refine w_one ?_)
  | ((with_reducible refine' w_ixL ?hs ?he ?_); (case hs => first | (refine' SqL.of ?q0; (case q0 => walk_at "hp")) | assumption); (case he => exact rfl))
  | ((with_reducible refine' w_ixT ?hs ?he ?_); (case hs => first | (refine' SqT.of ?q0; (case q0 => walk_at "tp")) | assumption); (case he => exact rfl))
  | ((with_reducible refine' w_setL ?hs ?he ?_); (case hs => walk_at "hp"); (case he => exact rfl))
  | (with_reducible refine w_iteT rfl ?_) | (with_reducible refine w_iteF rfl ?_) | ((with_reducible refine w_alloc ?h ?_); (case h => exact rfl))
  | (with_reducible refine w_augS ?_) | (with_reducible refine w_ipI ?_) | (with_reducible refine w_exo1 ?_) | (with_reducible refine w_exoI ?_) | (with_reducible refine w_exoK ?_) | (with_reducible refine w_fldE ?_) | (with_reducible refine w_ost ?_) | (with_reducible refine w_makeS ?_) | (with_reducible refine w_methS ?_) | (with_reducible refine w_callS ?_) | (with_reducible refine w_bm ?_) | (with_reducible refine w_bm0 ?_) | (with_reducible refine w_din ?_) | (with_reducible refine w_dget ?_) | (with_reducible refine w_dput ?_) | (with_reducible refine w_listVals ?_) | (with_reducible refine w_dget2 ?_) | (with_reducible refine w_dpop2 ?_) | (with_reducible refine w_makeK ?_) | (with_reducible refine w_callN ?_))
local macro_rules | `(tactic| walk_at "wp") => `(tactic| repeat (walk_at "wp1"))

section
variable {P : Program} {w : World} {K : PySem.W.Frag} {mg : Str → Option Value} {base : Heap} {A : Ad}
theorem ok_least_alike (T : Txt K mg A) : FnOk P w K mg base CX0 6 A.a_least_alike A.d_least_alike ["transfers"] spLst := by
  refine T.fun_least_alike.ok sc_least_alike (fun vs H Q E h => ?_) (fun cdv B outer s H vs Q E hr h => ?_)
  · obtain ⟨a, xs, ts, rfl, _⟩ := h
    rfl
  · obtain ⟨a, xs, ts, rfl, ha, hT, g, hl, q⟩ := h
    refine ⟨_, (pss_cons (ps_expr (pe_call (ok_check_transfers T) (hr.mono (by decide)) rfl T.mg_check_transfers T.fun_check_transfers.kp T.bd_check_transfers .nil pass0 (pa_cons (pv 0) pa_nil)))
 (pss_cons (ps_set (i := 1) (sc_least_alike).nd rfl (Or.inl rfl) (pe_lst pa_nil))
 (pss_cons (ps_set (i := 2) (sc_least_alike).nd rfl (Or.inr rfl) (pe_callTy G.call_listO (by rfl) T.z_list (by decide +kernel) (pa_cons (pv 0) pa_nil)))
 (pss_cons (ps_while PassesOwn.never (pt_truth (pv 2) (by intro _; rfl)) (pss_cons (ps_set (i := 3) (sc_least_alike).nd rfl (Or.inl rfl) (pe_callB (G.cr_minD rfl hr.units) (by rfl) T.z_min (by decide +kernel) (pa_cons (pe_lc (own := [("at", 4)]) (g := gName 4) rfl (sc_least_alike).nd (pi_list (pe_call (ok_indices_of_first T) (hr.mono (by decide)) rfl T.mg_indices_of_first T.fun_indices_of_first.kp T.bd_indices_of_first .nil pass0 (pa_cons (pv 2) pa_nil))) (blkOk_by (own := [("at", 4)]) (N := N_least_alike) (sc := defScope s_least_alike) (by decide +kernel)) (fun _ _ _ _ _ => (pg_name (i := 4) (sc_least_alike).nd rfl (Or.inl rfl))) (fun _ _ _ _ _ => pts_nil) (fun _ _ _ _ _ => (pe_ix (G.ix_listK (K := K) rfl) (pv 2) (pv 4) (fun _ _ => rfl)))) pa_nil)))
 (pss_cons (ps_expr (pe_bm PySem.F.plainAttrs_list PySem.F.slot_list_append PySem.F.type_list_append mt_append (pv 1) (pa_cons (pv 3) pa_nil)))
 (pss_one (ps_expr (pe_bm PySem.F.plainAttrs_list PySem.F.slot_list_remove PySem.F.type_list_remove (G.mt_removeD hr.units) (pv 2) (pa_cons (pv 3) pa_nil)))))))
 (pss_one (ps_ret (pv 1))))))), ?_⟩
    walk_at "wp"
    refine ⟨a, xs, ts, rfl, ha, hT, g, hl, fun H0 e0 => ?_⟩
    walk_at "wp"
    intro L H1 n1 e1 h1
    walk_at "wp"
    refine w_listOf (SqL.of (e1 _ _ (e0 _ _ ha))) fun r H2 n2 e2 h2 => ?_
    walk_at "wp"
    have e02 := e0.trans (e1.trans e2)
    have h12 := e2 _ _ h1
    have nL : H L = none := e0.free n1
    have nr : H r = none := (e0.trans e1).free n2
    have Lr : L ≠ r := ne_of_none h1 n2
    refine ⟨fun m σ' H' => ∃ (rs vs : List V) (us done : List Tr) (v3 v4 : Option V), σ' = [some (.ref a), some (.ref L), some (.ref r), v3, v4] ∧ m = us.length ∧ Fr2 L r H2 H' ∧ H' L = some (.lst vs) ∧ Ts H' vs done ∧ H' r = some (.lst rs) ∧ Ts H' rs us ∧ least ts = done ++ least us ∧ vs.length + us.length ≤ 24 ∧ (∀ x ∈ us, Gd x), ⟨ts.length, xs, [], ts, [], _, _, rfl, rfl, Fr2.refl _ _ _, h12, .nil, h2, Ts.same hT e02, rfl, by show 0 + ts.length ≤ 24; omega, g⟩, ?_⟩
    rintro m σ' H' ⟨rs, vs, us, done, v3, v4, rfl, rfl, f, hL, hD, hr', hU, el, lv, gu⟩
    have lr : rs.length = us.length := hU.len
    walk_at "wp"
    refine ⟨!rs.isEmpty, .inl ⟨rs, SqL.of hr', rfl⟩, ?_⟩
    refine w_ite (fun c => ?_) fun c => ?_
    · have une : us ≠ [] := by
        intro z
        rw [z] at lr
        have : rs = [] := List.eq_nil_of_length_eq_zero lr
        rw [this] at c
        cases c
      refine ⟨_, fun σ' H'' z => z, ?_⟩
      walk_at "wp"
      refine w_lc ?_
      walk_at "wp"
      refine ⟨r, rs, us, rfl, hr', hU, by omega, fun fi H3 n3 e3 h3 => ?_⟩
      have h3' : H3 fi = some (.lst ((idx us).map fun i : Nat => V.int (i : Int))) := h3
      have li : (idx us).length ≤ 24 := by
        have := List.length_filter_le (firstAt us) (List.range us.length)
        rw [List.length_range] at this
        exact Nat.le_trans this (by omega)
      refine ⟨fi, rfl, ⟨_, SqL.of h3'⟩, w_lcMap kept_T3 (fsG [] us) h3' (by rw [fs_idx, List.length_map, List.length_map]) (by rw [List.length_map]; omega) ?_ ?_⟩
      · intro k v y H4 R hv hy e4 r'
        rw [List.getElem?_map, Option.map_eq_some_iff] at hv
        obtain ⟨i, hi, rfl⟩ := hv
        have il := idx_lt (List.mem_of_getElem? hi)
        rw [fs_idx, List.getElem?_map, hi] at hy
        cases hy
        obtain ⟨y, hy⟩ : ∃ y, us[i]? = some y := ⟨us[i]'il, by rw [List.getElem?_eq_getElem]⟩
        obtain ⟨v, hv, ov⟩ := hU.gety hy
        have gd : us.getD i t0 = y := by rw [List.getD_eq_getElem?_getD, hy]; rfl
        walk_at "wp"
        refine w_ixL (SqL.of (e4 _ _ (e3 _ _ hr'))) (v := v) (ix_nat hv) ?_
        exact r' _ _ (Same.refl _) (by show T3 H4 v (us.getD i t0); rw [gd]; exact (ov.same e3).same e4)
      · intro L4 acc H4 n4 e4 h4 ps
        walk_at "wp"
        refine w_minD (SqL.of h4) ps (by obtain ⟨a, as, e⟩ := fs_ne une; rw [e]; simp) fun v hv => ?_
        have hv : T3 H4 v (fst3 us) := by rw [← mnL_fst une]; exact hv
        have e24 := e3.trans e4
        have hL4 := e24 _ _ hL
        have hr4 := e24 _ _ hr'
        have hU4 := Ts.same hU e24
        have hD4 := Ts.same hD e24
        walk_at "wp"
        refine w_bmL hL4 ?_
        walk_at "wp"
        refine w_append hL4 (fun H5 f5 h5 => ?_) (decide_eq_true (by omega))
        walk_at "wp"
        have hr5 := f5 _ _ (Ne.symm Lr) hr4
        have hU5 := Ts.fr hU4 hL4 f5
        have hv5 := hv.fr hL4 f5
        refine w_bmL hr5 ?_
        walk_at "wp"
        refine w_remD hr5 hU5 hv5 (fst_mem une) fun j H6 ej f6 h6 => ?_
        have le := erase_len (fst_mem une)
        have hU6 : Ts H6 (rs.eraseIdx j) (us.erase (fst3 us)) := by rw [ej]; exact (Ts.fr hU5 hr5 f6).erase j
        walk_at "wp"
        refine ⟨(us.erase (fst3 us)).length, by omega, rs.eraseIdx j, vs ++ [v], us.erase (fst3 us), done ++ [fst3 us], _, _, rfl, rfl, ((f.same e24).fa f5).fb f6, f6 _ _ Lr h5, ?_, h6, hU6, ?_, ?_, fun x hx => gu x (List.mem_of_mem_erase hx)⟩
        · exact PL.snoc (Ts.fr (Ts.fr hD4 hL4 f5) hr5 f6) (hv5.fr hr5 f6)
        · rw [el, least_cons une, List.append_assoc]
          rfl
        · rw [List.length_append]
          show vs.length + 1 + _ ≤ 24
          omega
    · have une : us = [] := by
        have : rs = [] := by
          cases rs with
          | nil => rfl
          | cons _ _ => cases c
        rw [this] at lr
        exact List.eq_nil_of_length_eq_zero lr.symm
      subst une
      walk_at "wp"
      rw [el, least_nil, List.append_nil] at q
      exact q L vs H' nL (f.unseen e02 nL nr) hL hD
theorem kb_least_alike_transfers (T : Txt K mg A) : KBn K A.d_least_alike ["transfers"] 0 ["transfers"] (fun _ ws => ws) (fun _ zs => zs) := by
  obtain ⟨oc, od, kV, doc, pm, an, cdv, ct, osl, e, _⟩ := T.fun_least_alike.ex
  rw [e]
  exact kbn_all fun ws h => match ws, h with | [_], _ => rfl
theorem ok_law_least (T : Txt K mg A) : FnOk P w K mg base CX0 2 A.a_law_least A.d_law_least ["line"] spLst := by
  refine T.fun_law_least.ok sc_law_least (fun vs H Q E h => ?_) (fun cdv B outer s H vs Q E hr h => ?_)
  · obtain ⟨a, xs, ts, rfl, _⟩ := h
    rfl
  · obtain ⟨a, xs, ts, rfl, ha, hT, g, hl, q⟩ := h
    refine ⟨_, (pss_cons (ps_par (i := 1) (j := 2) (by rfl) (sc_law_least).nd rfl rfl (by decide) rfl rfl (pa_cons (pe_callTy G.call_listO (by rfl) T.z_list (by decide +kernel) (pa_cons (pv 0) pa_nil)) (pa_cons (pe_lst pa_nil) pa_nil)) (by rfl))
 (pss_cons (ps_while PassesOwn.never (pt_cmpR (op_neD hr.units) (pv 1) (pe_lst pa_nil) (nomark _)) (pss_cons (ps_set (i := 3) (sc_law_least).nd rfl (Or.inl rfl) (pe_lst pa_nil))
 (pss_cons (ps_for PassesOwn.never rfl (pi_enum rfl T.z_enumerate (pa_cons (pv 1) pa_nil)) (pg_tup rfl (pgs_cons (pg_name (i := 4) (sc_law_least).nd rfl (Or.inl rfl)) (pgs_cons (pg_name (i := 5) (sc_law_least).nd rfl (Or.inr rfl)) pgs_nil))) (pss_one (ps_if (pt_cmpR (op_eqD hr.units) (pe_lc (own := [("there", 6)]) (g := gName 6) rfl (sc_law_least).nd (pi_list (pe_slice sl_list (pv 1) po_none (po_some (pv 4)))) (blkOk_by (own := [("there", 6)]) (N := N_law_least) (sc := defScope s_law_least) (by decide +kernel)) (fun _ _ _ _ _ => (pg_name (i := 6) (sc_law_least).nd rfl (Or.inl rfl))) (fun _ _ _ _ _ => (pts_one (pt_not (pt_val (pe_call (ok_law_is_free T) (hr.mono (by decide)) rfl T.mg_law_is_free T.fun_law_is_free.kp T.bd_law_is_free .nil pass0 (pa_cons (pv 6) (pa_cons (pv 5) pa_nil))))))) (fun _ _ _ _ _ => pe_int)) (pe_lst pa_nil) (nomark _)) (pss_one (ps_expr (pe_bm PySem.F.plainAttrs_list PySem.F.slot_list_append PySem.F.type_list_append mt_append (pv 3) (pa_cons (pv 5) pa_nil)))) pss_nil)))
 (pss_cons (ps_expr (pe_bm PySem.F.plainAttrs_list PySem.F.slot_list_append PySem.F.type_list_append mt_append (pv 2) (pa_cons (pe_callB (G.cr_minD rfl hr.units) (by rfl) T.z_min (by decide +kernel) (pa_cons (pv 3) pa_nil)) pa_nil)))
 (pss_one (ps_expr (pe_bm PySem.F.plainAttrs_list PySem.F.slot_list_remove PySem.F.type_list_remove (G.mt_removeD hr.units) (pv 1) (pa_cons (pe_callB (G.cr_minD rfl hr.units) (by rfl) T.z_min (by decide +kernel) (pa_cons (pv 3) pa_nil)) pa_nil))))))))
 (pss_one (ps_ret (pv 2))))), ?_⟩
    walk_at "wp"
    refine w_listOf (SqL.of ha) fun r H1 n1 e1 h1 => ?_
    walk_at "wp"
    intro L H2 n2 e2 h2
    walk_at "wp"
    have e02 := e1.trans e2
    have h12 := e2 _ _ h1
    have nL : H L = none := e1.free n2
    have nr : H r = none := n1
    have Lr : L ≠ r := Ne.symm (ne_of_none h1 n2)
    refine ⟨fun m σ' H' => ∃ (rs vs : List V) (us done : List Tr) (v3 v4 v5 v6 : Option V), σ' = [some (.ref a), some (.ref r), some (.ref L), v3, v4, v5, v6] ∧ m = us.length ∧ Fr2 L r H2 H' ∧ H' L = some (.lst vs) ∧ Ts H' vs done ∧ H' r = some (.lst rs) ∧ Ts H' rs us ∧ least ts = done ++ least us ∧ vs.length + us.length ≤ 24 ∧ (∀ x ∈ us, Gd x), ⟨ts.length, xs, [], ts, [], _, _, _, _, rfl, rfl, Fr2.refl _ _ _, h2, .nil, h12, Ts.same hT e02, rfl, by show 0 + ts.length ≤ 24; omega, g⟩, ?_⟩
    rintro m σ' H' ⟨rs, vs, us, done, v3, v4, v5, v6, rfl, rfl, f, hL, hD, hr', hU, el, lv, gu⟩
    have lr : rs.length = us.length := hU.len
    walk_at "wp"
    intro lz H3 n3 e3 h3
    refine w_neD (d := lnD us) (e := .list []) (b := us.isEmpty) (ln_dp (e3 _ _ hr') (Ts.same hU e3)) (.lst (SqL.of h3) .nil) (lnD_shaped us) rfl (ln_nil us) ?_
    walk_at "wp"
    refine w_ite (fun c => ?_) fun c => ?_
    · have une : us ≠ [] := by
        intro z
        rw [z] at c
        cases c
      refine ⟨_, fun σ' H'' z => z, ?_⟩
      walk_at "wp"
      intro ab H4 n4 e4 h4
      walk_at "wp"
      have e34 := e3.trans e4
      have hr4 := e34 _ _ hr'
      have hU4 := Ts.same hU e34
      have rab : r ≠ ab := ne_of_none (e3 _ _ hr') n4
      have Lab : L ≠ ab := ne_of_none (e3 _ _ hL) n4
      have nab : H' ab = none := e3.free n4
      refine w_walkE (xs := rs) (SqL.of hr4) rfl (fun k σ' H'' => ∃ (v4 v5 v6 : Option V) (vs1 : List V), σ' = [some (.ref a), some (.ref r), some (.ref L), some (.ref ab), v4, v5, v6] ∧ Fr ab H4 H'' ∧ H'' ab = some (.lst vs1) ∧ Ts H'' vs1 (pA us k) ∧ vs1.length ≤ k) ⟨_, _, _, [], rfl, Fr.refl _ _, h4, .nil, Nat.le_refl _⟩ (fun k σ' H'' _ ⟨_, _, _, _, _, f2, _⟩ => SqL.of (f2 _ _ rab hr4)) ?_ ?_
      · rintro k x σ' H'' H5 hx ⟨v4, v5, v6, vs1, rfl, f2, hab, tA, l1⟩ e5
        have kl : k < rs.length := (List.getElem?_eq_some_iff.mp hx).1
        have f5 := f2.trans (.same e5)
        have hr5 := f5 _ _ rab hr4
        have hU5 := Ts.fr hU4 h4 f5
        obtain ⟨y, hy, oy⟩ := hU5.get hx
        have hab5 := e5 _ _ hab
        have tA5 := Ts.same tA e5
        clear hab tA f2 e5
        walk_at "wp"
        refine w_lc ?_
        walk_at "wp"
        refine w_slL (SqL.of hr5) fun s1 H6 n6 e6 h6 => ?_
        rw [cut_nat (by omega)] at h6
        have l6 : (rs.take k).length = k := by rw [List.length_take]; omega
        refine ⟨s1, rfl, ⟨_, SqL.of h6⟩, w_lcFil (O := fun _ v (y : Int) => v = .int y) kept_val (fun j => !fre (us.getD j t0) y) (fun _ => 1) h6 (by omega) ?_ ?_ ?_⟩
        · intro c u H7 R hu e7 r'
          have ck : c < k := by
            have := (List.getElem?_eq_some_iff.mp hu).1
            omega
          rw [List.getElem?_take_of_lt ck] at hu
          obtain ⟨z, hz, oz⟩ := hU5.get hu
          rw [getD_at hz] at r'
          walk_at "wp"
          refine ⟨u, x, z, y, rfl, (oz.same e6).same e7, (oy.same e6).same e7, ?_⟩
          walk_at "wp"
          exact r' _ (Same.refl _)
        · intro c u H7 R hu cc e7 r'
          walk_at "wp"
          exact r' _ _ (Same.refl _) rfl
        · intro L7 acc H7 nL7 e7 hL7 ps
          rw [l6] at ps
          have ea := pl_int ps
          subst ea
          walk_at "wp"
          intro lz8 H8 n8 e8 h8
          have bk : (((List.range k).filter fun j => !fre (us.getD j t0) y).map fun _ => (1 : Int)).isEmpty = firstAt us k := by
            rw [← fil_empty hy fun _ => t0]
            cases (List.range k).filter fun j => !fre (us.getD j t0) y <;> rfl
          refine w_eqD (b := firstAt us k) (dp_ints (SqL.of (e8 _ _ hL7))) (.lst (SqL.of h8) .nil) (shaped_ints _) rfl (ints_nil.trans bk) ?_
          have e58 := e6.trans (e7.trans e8)
          have f8 := f5.trans (.same e58)
          have hab8 := e58 _ _ hab5
          have tA8 := Ts.same tA5 e58
          have oy8 := oy.same e58
          have gy := getD_at hy
          have l24 : us.length ≤ 24 := by omega
          walk_at "wp"
          refine w_ite (fun c => ?_) fun c => ?_
          · walk_at "wp"
            refine w_bmL hab8 ?_
            walk_at "wp"
            refine w_append hab8 (fun H9 f9 h9 => ?_) (decide_eq_true (by omega))
            exact ⟨_, _, _, vs1 ++ [x], rfl, f8.trans f9, h9, by rw [pA_succ, if_pos c, gy]; exact PL.snoc (Ts.fr tA8 hab8 f9) (oy8.fr hab8 f9), by rw [List.length_append]; show vs1.length + 1 ≤ k + 1; omega⟩
          · walk_at "wp"
            exact ⟨_, _, _, vs1, rfl, f8, hab8, by rw [pA_succ, if_neg (by rw [c]; decide)]; exact tA8, by omega⟩
      · rintro σ' H'' ⟨v4, v5, v6, vs1, rfl, f2, hab, tA, l1⟩
        rw [lr, pA_all] at tA
        have sm : Same H' H'' := Fr.unseen nab e34 f2
        have hL5 := sm _ _ hL
        have hr5 := sm _ _ hr'
        have hD5 := Ts.same hD sm
        have hU5 := Ts.same hU sm
        have fne : fsG [] us ≠ [] := by obtain ⟨a, as, e⟩ := fs_ne une; rw [e]; simp
        walk_at "wp"
        refine w_bmL hL5 ?_
        walk_at "wp"
        refine w_minD (SqL.of hab) tA fne fun v hv => ?_
        have hv : T3 H'' v (fst3 us) := by rw [← mnL_fst une]; exact hv
        walk_at "wp"
        refine w_append hL5 (fun H6 f6 h6 => ?_) (decide_eq_true (by omega))
        walk_at "wp"
        have hr6 := f6 _ _ (Ne.symm Lr) hr5
        have hU6 := Ts.fr hU5 hL5 f6
        have hab6 := f6 _ _ (Ne.symm Lab) hab
        have tA6 := Ts.fr tA hL5 f6
        refine w_bmL hr6 ?_
        walk_at "wp"
        refine w_minD (SqL.of hab6) tA6 fne fun w' hw => ?_
        have hw : T3 H6 w' (fst3 us) := by rw [← mnL_fst une]; exact hw
        walk_at "wp"
        refine w_remD hr6 hU6 hw (fst_mem une) fun j H7 ej f7 h7 => ?_
        have le := erase_len (fst_mem une)
        have hU7 : Ts H7 (rs.eraseIdx j) (us.erase (fst3 us)) := by rw [ej]; exact (Ts.fr hU6 hr6 f7).erase j
        walk_at "wp"
        refine ⟨(us.erase (fst3 us)).length, by omega, rs.eraseIdx j, vs ++ [v], us.erase (fst3 us), done ++ [fst3 us], _, _, _, _, rfl, rfl, ((f.same sm).fa f6).fb f7, f7 _ _ Lr h6, ?_, h7, hU7, ?_, ?_, fun x hx => gu x (List.mem_of_mem_erase hx)⟩
        · exact PL.snoc (Ts.fr (Ts.fr hD5 hL5 f6) hr6 f7) ((hv.fr hL5 f6).fr hr6 f7)
        · rw [el, least_cons une, List.append_assoc]
          rfl
        · rw [List.length_append]
          show vs.length + 1 + _ ≤ 24
          omega
    · have une : us = [] := by
        cases us with
        | nil => rfl
        | cons _ _ => cases c
      subst une
      walk_at "wp"
      rw [el, least_nil, List.append_nil] at q
      exact q L vs H3 nL ((f.unseen e02 nL nr).trans e3) (e3 _ _ hL) (Ts.same hD e3)
theorem ok_law_right (T : Txt K mg A) : FnG P w K mg base 8 A.a_law_right A.d_law_right ["line"] spRight := by
  refine G.fun_ok T.fun_law_right sc_law_right (fun vs H Q E h => ?_) (fun cdv B outer s H vs Q E hgd hr h => ?_)
  · obtain ⟨l, xs, ts, rfl, _⟩ := h
    rfl
  · obtain ⟨l, xs, ts, rfl, hl, hT, g, lt, q⟩ := h
    refine ⟨_, (pss_cons (ps_par (i := 1) (j := 2) (by rfl) (sc_law_right).nd rfl rfl (by decide) rfl rfl (pa_cons (pe_callB (G.call_repr hgd hr.units) (by rfl) T.z_repr (by decide +kernel) (pa_cons (pv 0) pa_nil)) (pa_cons (pe_call (ok_law_least T) (hr.mono (by decide)) rfl T.mg_law_least T.fun_law_least.kp T.bd_law_least .nil pass0 (pa_cons (pv 0) pa_nil)) pa_nil)) (by rfl))
 (pss_cons (ps_set (i := 3) (sc_law_right).nd rfl (Or.inl rfl) (pe_call (ok_least_alike T) (hr.mono (by decide)) rfl T.mg_least_alike T.fun_least_alike.kp T.bd_least_alike .nil pass0 (pa_cons (pv 0) pa_nil)))
 (pss_cons (ps_if (pt_cmpR op_ne (pe_callB (G.call_repr hgd hr.units) (by rfl) T.z_repr (by decide +kernel) (pa_cons (pe_lst (pa_cons (pv 3) (pa_cons (G.pe_callN0 (ok_least_alike T) (hr.mono (by decide)) rfl T.mg_least_alike T.fun_least_alike.kp (kb_least_alike_transfers T) pass0 (pk_cons (pv 0) pk_nil)) pa_nil))) pa_nil)) (pe_callB (G.call_repr hgd hr.units) (by rfl) T.z_repr (by decide +kernel) (pa_cons (pe_lst (pa_cons (pv 2) (pa_cons (pv 2) pa_nil))) pa_nil)) (nomark _)) (pss_one (ps_ret pe_bl)) pss_nil)
 (pss_cons (ps_expr (pe_bm PySem.F.plainAttrs_list PySem.F.slot_list_append PySem.F.type_list_append mt_append (pv 3) (pa_cons pe_non pa_nil)))
 (pss_one (ps_ret (pe_and (pe_cmpR op_eq (pe_callB (G.call_repr hgd hr.units) (by rfl) T.z_repr (by decide +kernel) (pa_cons (pe_lst (pa_cons (pe_call (ok_least_alike T) (hr.mono (by decide)) rfl T.mg_least_alike T.fun_least_alike.kp T.bd_least_alike .nil pass0 (pa_cons (pv 0) pa_nil)) (pa_cons (pe_call (ok_least_alike T) (hr.mono (by decide)) rfl T.mg_least_alike T.fun_least_alike.kp T.bd_least_alike .nil pass0 (pa_cons (pv 2) pa_nil)) pa_nil))) pa_nil)) (pe_callB (G.call_repr hgd hr.units) (by rfl) T.z_repr (by decide +kernel) (pa_cons (pe_lst (pa_cons (pv 2) (pa_cons (pv 2) pa_nil))) pa_nil)) (nomark _)) (pe_one (pe_cmpR op_eq (pe_callB (G.call_repr hgd hr.units) (by rfl) T.z_repr (by decide +kernel) (pa_cons (pv 0) pa_nil)) (pv 1) (nomark _)))))))))), ?_⟩
    have lx : xs.length = ts.length := hT.len
    obtain ⟨ll, lm⟩ := least_perm ts
    have gl : ∀ x ∈ least ts, Gd x := fun x hx => g x (lm x hx)
    have l24 : (least ts).length ≤ 24 := by omega
    walk_at "wp"
    refine w_reprLn (ln_dp hl hT) g lt ?_
    walk_at "wp"
    refine ⟨l, xs, ts, rfl, hl, hT, g, lt, fun L1 vs1 H1 n1 e1 h1 p1 => ?_⟩
    walk_at "wp"
    have hl1 := e1 _ _ hl
    have hT1 := Ts.same hT e1
    refine ⟨l, xs, ts, rfl, hl1, hT1, g, lt, fun L2 vs2 H2 n2 e2 h2 p2 => ?_⟩
    walk_at "wp"
    refine w_rfl2 rfl rfl ⟨l, xs, ts, rfl, e2 _ _ hl1, Ts.same hT1 e2, g, lt, fun L3 vs3 H3 n3 e3 h3 p3 => ?_⟩
    walk_at "wp"
    intro l4 H4 n4 e4 h4
    have e34 := e3.trans e4
    walk_at "wp"
    refine w_reprTwo (ly_two h4 (e34 _ _ h2) (Ts.same p2 e34) (e4 _ _ h3) (Ts.same p3 e4)) gl gl l24 l24 ?_
    walk_at "wp"
    intro l5 H5 n5 e5 h5
    have e15 := e2.trans (e34.trans e5)
    walk_at "wp"
    refine w_reprTwo (ly_two h5 (e15 _ _ h1) (Ts.same p1 e15) (e15 _ _ h1) (Ts.same p1 e15)) gl gl l24 l24 ?_
    walk_at "wp"
    have e25 := e34.trans e5
    have h25 := e25 _ _ h2
    have lv : vs2.length ≤ 24 := by
      have := p2.len
      omega
    refine w_bmL h25 ?_
    walk_at "wp"
    refine w_append h25 (fun H6 f6 h6 => ?_) (decide_eq_true (by omega))
    have s6 : Same H1 H6 := Fr.unseen n2 e15 f6
    walk_at "wp"
    refine ⟨l, xs, ts, rfl, s6 _ _ hl1, Ts.same hT1 s6, g, lt, fun L7 vs7 H7 n7 e7 h7 p7 => ?_⟩
    walk_at "wp"
    have s7 := s6.trans e7
    refine ⟨L1, vs1, least ts, rfl, s7 _ _ h1, Ts.same p1 s7, gl, l24, fun L8 vs8 H8 n8 e8 h8 p8 => ?_⟩
    rw [least_least] at p8
    walk_at "wp"
    intro l9 H9 n9 e9 h9
    have e89 := e8.trans e9
    walk_at "wp"
    refine w_reprTwo (ly_two h9 (e89 _ _ h7) (Ts.same p7 e89) (e9 _ _ h8) (Ts.same p8 e9)) gl gl l24 l24 ?_
    walk_at "wp"
    intro la HA na eA hA
    have sA := s7.trans (e89.trans eA)
    walk_at "wp"
    refine w_reprTwo (ly_two hA (sA _ _ h1) (Ts.same p1 sA) (sA _ _ h1) (Ts.same p1 sA)) gl gl l24 l24 ?_
    walk_at "wp"
    refine w_reprLn (ln_dp (sA _ _ hl1) (Ts.same hT1 sA)) g lt ?_
    walk_at "wp"
    exact q _ (e1.trans sA)
end
end K62

namespace K62
open PySem L2 G
local macro_rules | `(tactic| walk_at "pos") => `(tactic| first | assumption | (decide +kernel) | omega)
local macro_rules | `(tactic| walk_at "bt") => `(tactic| first
  | assumption
  | (decide +kernel)
  | exact Bt.mono (by assumption) (by decide)
  | (refine' Bt.add ?b1 ?b2; (case b1 => walk_at "bt"); (case b2 => walk_at "bt"))
  | (refine' Bt.sub ?b1 ?b2; (case b1 => walk_at "bt"); (case b2 => walk_at "bt"))
  | (refine' Bt.mul ?b1 ?b2; (case b1 => walk_at "bt"); (case b2 => walk_at "bt"))
  | (refine' Bt.mod ?b1 ?b2; (case b2 => walk_at "bt"); (case b1 => walk_at "pos"))
  | (refine' Bt.div ?b1 ?b2; (case b2 => walk_at "bt"); (case b1 => walk_at "pos"))
  | (refine' Bt.pow3 ?b1; (case b1 => walk_at "bt"))
  | (refine' Bt.neg ?b1; (case b1 => walk_at "bt"))
  | exact Bt.any)
local macro_rules | `(tactic| walk_at "btm") => `(tactic| ((refine' Bt.mono ?m1 ?m2); (case m1 => walk_at "bt"); (case m2 => (decide +kernel))))
local macro_rules | `(tactic| walk_at "ne") => `(tactic| first
  | assumption
  | (refine' Ne.symm ?q1; (case q1 => assumption))
  | (refine' ne_of_none (by assumption) ?q1; (case q1 => assumption))
  | (refine' Ne.symm (ne_of_none (by assumption) ?q1); (case q1 => assumption)))
local macro_rules | `(tactic| walk_at "hp") => `(tactic| first
  | assumption
  | exact upd_same
  | ((refine' lst_same ?q1 (by assumption : Same _ _)); (case q1 => walk_at "hp"))
  | ((refine' (by assumption : Fr _ _ _) _ _ ?n ?h); (case n => walk_at "ne"); (case h => walk_at "hp"))
  | ((refine (upd_ne (by assumption)).trans ?_); walk_at "hp")
  | ((refine (upd_ne (Ne.symm (by assumption))).trans ?_); walk_at "hp"))
local macro_rules | `(tactic| walk_at "sr") => `(tactic| first
  | assumption
  | ((refine' Src.same ?q1 (by assumption : Same _ _)); (case q1 => walk_at "sr")))
local macro_rules | `(tactic| walk_at "rt") => `(tactic| first
  | assumption
  | ((refine' Rat.same ?q1 (by assumption : Same _ _)); (case q1 => walk_at "rt"))
  | ((refine' Rat.fr ?q1 ?q2 (by assumption : Fr _ _ _)); (case q2 => walk_at "sr"); (case q1 => walk_at "rt")))
local macro_rules | `(tactic| walk_at "tp") => `(tactic| first
  | assumption
  | ((refine' tup_same ?q1 (by assumption : Same _ _)); (case q1 => walk_at "tp"))
  | ((refine' tup_fr ?q1 ?q2 (by assumption : Fr _ _ _)); (case q2 => walk_at "sr"); (case q1 => walk_at "tp")))
local macro_rules | `(tactic| walk_at "ls") => `(tactic| first
  | assumption
  | ((refine' lst_same ?q1 (by assumption : Same _ _)); (case q1 => walk_at "ls"))
  | ((refine' lst_fr ?q1 ?q2 (by assumption : Fr _ _ _)); (case q2 => assumption); (case q1 => walk_at "ls")))
local macro_rules | `(tactic| walk_at "sm") => `(tactic| first
  | exact Same.refl _
  | assumption
  | ((refine Same.trans ?_ (by assumption : Same _ _)); walk_at "sm"))
local macro_rules | `(tactic| walk_at "fr") => `(tactic| first
  | exact Fr.refl _ _
  | assumption
  | ((refine Fr.trans ?_ (Fr.same (by assumption : Same _ _))); walk_at "fr")
  | ((refine Fr.trans ?_ (by assumption : Fr _ _ _)); walk_at "fr"))
local macro_rules | `(tactic| walk_at "wp1") => `(tactic| first
  | (with_reducible refine w_seq ?_) | (with_reducible refine w_next ?_) | (with_reducible refine w_ret ?_) | (with_reducible refine w_asg ?_) | (with_reducible refine w_gn ?_) | (with_reducible refine w_if ?_)
  | (with_reducible refine w_cons ?_) | (with_reducible refine w_nil ?_) | (with_reducible refine w_c ?_) | (with_reducible refine w_op ?_) | (with_reducible refine w_cb ?_)
  | ((with_reducible refine' w_var ?h ?_); (case h => exact rfl))
  | (with_reducible refine w_I0 ?_) | (with_reducible refine w_eqI ?_) | (with_reducible refine w_neI ?_) | (with_reducible refine w_test ?_) | (with_reducible refine w_tB ?_) | (with_reducible refine w_bl ?_) | (with_reducible refine w_par ?_) | (with_reducible refine w_par2 ?_) | (with_reducible refine w_par3 ?_) | (with_reducible refine w_three ?_)
  | (with_reducible refine w_not ?_) | (with_reducible refine w_and ?_) | (with_reducible refine w_or ?_) | (with_reducible refine w_andV ?_) | (with_reducible refine w_orV ?_) | (with_reducible refine w_notV ?_) | (with_reducible refine w_tif ?_)
  | (with_reducible refine w_tup ?_) | (with_reducible refine w_lst ?_) | (with_reducible refine w_un ?_) | (with_reducible refine w_U ?_) | (with_reducible refine w_drop ?_) | (with_reducible refine w_brk ?_) | (with_reducible refine w_cont ?_) | (with_reducible refine w_retN ?_)
  | (with_reducible refine w_call ?_) | (with_reducible refine w_fld ?_) | (with_reducible refine w_sfld ?_) | (with_reducible refine w_prop ?_) | (with_reducible refine w_make ?_) | (with_reducible refine w_meth ?_) | (with_reducible refine w_methN ?_) | (with_reducible refine w_revL ?_) | (with_reducible refine w_gsub ?_)
  | ((with_reducible refine' w_powN ?c1 ?c2 ?_); (case c2 => (decide +kernel)); (case c1 => exact rfl))
  | ((with_reducible refine' w_powV ?c1 ?c2 ?c3 ?c4 ?_); (case c2 => walk_at "bt"); (case c3 => (decide +kernel)); (case c4 => (decide +kernel)); (case c1 => exact rfl))
  | ((with_reducible refine' w_I (C := CMulW) ?c1 ?_); (case c1 => (refine' mulOk ?k1 ?k2 ?k3; (case k1 => walk_at "bt"); (case k2 => walk_at "bt"); (case k3 => decide +kernel))))
  | ((with_reducible refine' w_I (C := CDivW) ?c1 ?_); (case c1 => (refine' divOk ?k1 ?k2 ?k3; (case k1 => walk_at "pos"); (case k2 => walk_at "bt"); (case k3 => decide +kernel))))
  | ((with_reducible refine' w_I (C := fun _ j => 0 < j) ?c1 ?_); (case c1 => walk_at "pos"))
  | (with_reducible refine w_isB ?_) | (with_reducible refine w_notB ?_) | (with_reducible refine w_neS ?_) | (with_reducible refine w_eqS ?_)
  | (with_reducible refine w_iRng1 ?_) | (with_reducible refine w_for ?_) | (with_reducible refine w_iEnum ?_) | (with_reducible refine w_iList ?_) | (with_reducible refine w_iTup ?_) | (with_reducible refine w_noPart ?_) | (with_reducible refine w_part ?_) | (with_reducible refine w_int ?_)
  | (with_reducible refine w_sl ?_)
  | (with_reducible refine w_two ?_) | (with_reducible refine w_one ?_)
  | ((with_reducible refine' w_ixL ?hs ?he ?_); (case hs => first | (refine' SqL.of ?q0; (case q0 => walk_at "hp")) | assumption); (case he => exact rfl))
  | ((with_reducible refine' w_ixT ?hs ?he ?_); (case hs => first | (refine' SqT.of ?q0; (case q0 => walk_at "tp")) | assumption); (case he => exact rfl))
  | ((with_reducible refine' w_setL ?hs ?he ?_); (case hs => walk_at "hp"); (case he => exact rfl))
  | (with_reducible refine w_iteT rfl ?_) | (with_reducible refine w_iteF rfl ?_) | ((with_reducible refine w_alloc ?h ?_); (case h => exact rfl))
  | (with_reducible refine w_augS ?_) | (with_reducible refine w_ipI ?_) | (with_reducible refine w_exo1 ?_) | (with_reducible refine w_exoI ?_) | (with_reducible refine w_exoK ?_) | (with_reducible refine w_fldE ?_) | (with_reducible refine w_ost ?_) | (with_reducible refine w_makeS ?_) | (with_reducible refine w_methS ?_) | (with_reducible refine w_callS ?_) | (with_reducible refine w_bm ?_) | (with_reducible refine w_bm0 ?_) | (with_reducible refine w_din ?_) | (with_reducible refine w_dget ?_) | (with_reducible refine w_dput ?_) | (with_reducible refine w_listVals ?_) | (with_reducible refine w_dget2 ?_) | (with_reducible refine w_dpop2 ?_) | (with_reducible refine w_makeK ?_) | (with_reducible refine w_callN ?_))
local macro_rules | `(tactic| walk_at "wp") => `(tactic| repeat (walk_at "wp1"))

section
variable {P : Program} {w : World} {K : PySem.W.Frag} {mg : Str → Option Value} {base : Heap} {A : Ad}
def spLaw (K : PySem.W.Frag) : Sp := fun vs H Q _ => ∃ (a : Addr) (ns : List Int), vs = [.ref a] ∧ SqL K H a (ns.map V.int) ∧ ns.length ≤ 63 ∧ ∀ H', Q (.bl true) H'
theorem ok_law (T : Txt K mg A) : FnG P w K mg base 9 A.a_law A.d_law ["script"] (spLaw K) := by
  refine G.fun_ok T.fun_law sc_law (fun vs H Q E h => ?_) (fun cdv B outer s H vs Q E hgd hr h => ?_)
  · obtain ⟨a, ns, rfl, _⟩ := h
    rfl
  · obtain ⟨a, ns, rfl, hS, hl, q⟩ := h
    refine ⟨_, (pss_cons (ps_for PassesOwn.never rfl (pi_range1 rfl T.z_range (pa_cons (pe_callB (call_max2 rfl) (by rfl) T.z_max (by decide +kernel) (pa_cons pe_int (pa_cons (pe_callB (call_min2 rfl) (by rfl) T.z_min (by decide +kernel) (pa_cons pe_int (pa_cons (pe_callB call_len (by rfl) T.z_len (by decide +kernel) (pa_cons (pv 0) pa_nil)) pa_nil))) pa_nil))) pa_nil)) (pg_name (i := 1) (sc_law).nd rfl (Or.inl rfl)) (pss_cons (ps_set (i := 2) (sc_law).nd rfl (Or.inl rfl) (pe_call (ok_law_pool T) (hr.mono (by decide)) rfl T.mg_law_pool T.fun_law_pool.kp T.bd_law_pool .nil pass0 (pa_cons (pv 0) (pa_cons (pv 1) pa_nil))))
 (pss_cons (ps_set (i := 3) (sc_law).nd rfl (Or.inl rfl) (pe_call (ok_law_any T) (hr.mono (by decide)) rfl T.mg_law_any T.fun_law_any.kp T.bd_law_any .nil pass0 (pa_cons (pv 2) (pa_cons (pe_ifExp (pt_cmpR (op_eqD hr.units) (pv 0) (pe_lst pa_nil) (nomark _)) pe_int (pe_ix ix_list (pe_lst (pa_cons (pe_call (ok_law_draw T) (hr.mono (by decide)) rfl T.mg_law_draw T.fun_law_draw.kp T.bd_law_draw .nil pass0 (pa_cons (pv 2) (pa_cons pe_int pa_nil))) (pa_cons pe_int pa_nil))) (pe_call (ok_law_draw T) (hr.mono (by decide)) rfl T.mg_law_draw T.fun_law_draw.kp T.bd_law_draw .nil pass0 (pa_cons (pv 2) (pa_cons pe_int pa_nil))) (fun _ _ => rfl))) pa_nil))))
 (pss_cons (ps_if (PW.pt (pw_or (pt_not (pt_val (G.pe_callG (ok_law_right T) hgd (hr.mono (by decide)) rfl T.mg_law_right T.fun_law_right.kp T.bd_law_right .nil (pa_cons (pv 3) pa_nil)))) (pw_or (pt_not (pt_val (G.pe_callG (ok_law_right T) hgd (hr.mono (by decide)) rfl T.mg_law_right T.fun_law_right.kp T.bd_law_right .nil (pa_cons (pe_slice sl_list (pv 3) (po_some pe_int) po_none) pa_nil)))) (pw_or1 (pt_not (pt_val (G.pe_callG (ok_law_right T) hgd (hr.mono (by decide)) rfl T.mg_law_right T.fun_law_right.kp T.bd_law_right .nil (pa_cons (pe_lst pa_nil) pa_nil)))))))) (pss_one (ps_ret pe_bl)) pss_nil)
 (pss_cons (ps_for PassesOwn.never rfl (pi_range1 rfl T.z_range (pa_cons pe_int pa_nil)) (pg_name (i := 4) (sc_law).nd rfl (Or.inl rfl)) (pss_cons (ps_set (i := 5) (sc_law).nd rfl (Or.inl rfl) (pe_call (ok_law_shuffled T) (hr.mono (by decide)) rfl T.mg_law_shuffled T.fun_law_shuffled.kp T.bd_law_shuffled .nil pass0 (pa_cons (pv 2) (pa_cons (pv 3) pa_nil))))
 (pss_one (ps_if (PW.pt (pw_or (pt_cmpR (op_neD hr.units) (pe_call (ok_least_alike T) (hr.mono (by decide)) rfl T.mg_least_alike T.fun_least_alike.kp T.bd_least_alike .nil pass0 (pa_cons (pv 5) pa_nil)) (pe_call (ok_least_alike T) (hr.mono (by decide)) rfl T.mg_least_alike T.fun_least_alike.kp T.bd_least_alike .nil pass0 (pa_cons (pv 3) pa_nil)) (nomark _)) (pw_or1 (pt_cmpR (G.op_gtD hr.units) (pe_call (ok_least_alike T) (hr.mono (by decide)) rfl T.mg_least_alike T.fun_least_alike.kp T.bd_least_alike .nil pass0 (pa_cons (pv 3) pa_nil)) (pv 5) (nomark _))))) (pss_one (ps_ret pe_bl)) pss_nil))))
 (pss_cons (ps_expr (pe_bm0 PySem.F.plainAttrs_list PySem.F.slot_list_reverse PySem.F.type_list_reverse mt_reverse (pv 3)))
 (pss_one (ps_if (pt_not (pt_val (G.pe_callG (ok_law_right T) hgd (hr.mono (by decide)) rfl T.mg_law_right T.fun_law_right.kp T.bd_law_right .nil (pa_cons (pv 3) pa_nil)))) (pss_one (ps_ret pe_bl)) pss_nil))))))))
 (pss_one (ps_ret pe_bl))), ?_⟩
    walk_at "wp"
    refine w_lenL hS ?_
    walk_at "wp"
    rw [List.length_map]
    refine w_walkR ⟨by omega, by omega⟩ (fun _ σ' H' => ∃ v1 v2 v3 v4 v5, σ' = [some (.ref a), v1, v2, v3, v4, v5] ∧ Same H H') ⟨_, _, _, _, _, rfl, Same.refl _⟩ ?_ ?_
    · rintro i σ' H' hi ⟨v1, v2, v3, v4, v5, rfl, e0⟩
      walk_at "wp"
      refine ⟨a, ns, (i : Int), rfl, e0.seq hS, hl, by omega, Bt.mono (a := 5) (by unfold Bt; omega) (by decide), fun p H1 n1 e1 S1 => ?_⟩
      refine w_seq (w_asg (w_call (w_cons (w_var rfl (w_cons ?_)))))
      refine w_gen (fun m H' => 0 ≤ m ∧ m ≤ 24 ∧ Src 2 H' p ∧ Fr p H1 H') (fun Q' h => ?_) ?_
      · walk_at "wp"
        intro l0 H2 _ e2 hl0
        refine ⟨_, .list [], dp_ints (((e0.trans e1).trans e2).seq hS), .lst (SqL.of hl0) .nil, shaped_ints ns, rfl, ?_⟩
        have S2 := S1.same e2
        walk_at "wp"
        refine w_ite (fun _ => ?_) fun _ => ?_
        · walk_at "wp"
          exact h 6 _ ⟨by decide, by decide, S2.mono (by decide), .same e2⟩
        · walk_at "wp"
          refine ⟨p, _, _, rfl, S2, by decide, by decide, by decide +kernel, fun d3 H3 g0 g9 S3 f3 => ?_⟩
          walk_at "wp"
          intro l4 H4 n4 e4 h4
          have S4 := S3.same e4
          walk_at "wp"
          refine ⟨p, _, _, rfl, S4, by decide, by decide, by decide +kernel, fun d5 H5 k0 k9 S5 f5 => ?_⟩
          walk_at "wp"
          have h5 := f5 _ _ (S3.ne n4) h4
          have F5 : Fr p H1 H5 := (((Fr.same e2).trans f3).trans (.same e4)).trans f5
          have c : d5 = 0 ∨ d5 = 1 := by omega
          rcases c with rfl | rfl
          · refine w_ixL (SqL.of h5) rfl ?_
            exact h _ _ ⟨g0, by omega, S5, F5⟩
          · refine w_ixL (SqL.of h5) rfl ?_
            exact h _ _ ⟨by decide, by decide, S5, F5⟩
      · rintro m H2 ⟨m0, m9, S2, F2⟩
        walk_at "wp"
        refine ⟨p, m, 2, rfl, S2, by decide +kernel, m0, m9, fun l xs ts H3 n3 h3 hT lt g S3 F3 => ?_⟩
        walk_at "wp"
        have t24 : ts.length ≤ 24 := by omega
        refine ⟨l, xs, ts, rfl, h3, hT, g, t24, fun H4 e4 => ?_⟩
        walk_at "wp"
        have h4 := e4 _ _ h3
        have hT4 := Ts.same hT e4
        refine w_slL (SqL.of h4) fun s5 H5 n5 e5 h5 => ?_
        walk_at "wp"
        obtain ⟨c, m, ec⟩ : ∃ c m, cutV xs (some 3) none = (xs.drop c).take m := ⟨_, _, rfl⟩
        rw [ec] at h5
        refine ⟨s5, _, (ts.drop c).take m, rfl, h5, PL.take (PL.drop' (Ts.same hT4 e5) c) m, fun x hx => g x (List.mem_of_mem_drop (List.mem_of_mem_take hx)), by rw [List.length_take, List.length_drop]; omega, fun H6 e6 => ?_⟩
        walk_at "wp"
        intro l7 H7 n7 e7 h7
        walk_at "wp"
        refine ⟨l7, [], [], rfl, h7, .nil, nofun, by decide, fun H8 e8 => ?_⟩
        have e38 : Same H3 H8 := e4.trans (e5.trans (e6.trans (e7.trans e8)))
        have h8 := e38 _ _ h3
        have hT8 := Ts.same hT e38
        have lp : l ≠ p := S2.ne n3
        have S8 := S3.same e38
        have F8 : Fr p H1 H8 := (F2.trans F3).trans (.same e38)
        have nl : H' l = none := (Fr.unseen n1 e1 F2).free n3
        clear h4 hT4 h5 ec h7 e4 e5 e6 e7 e8 e38 n5 n7 S2 F2 F3 S3 h3 hT n3
        walk_at "wp"
        refine w_walkR ⟨by decide, by decide⟩ (fun j σ2 H9 => ∃ v4 v5, σ2 = [some (.ref a), some (.int (i : Int)), some (.ref p), some (.ref l), v4, v5] ∧ H9 l = some (.lst xs) ∧ Ts H9 xs ts ∧ Src (2 + 80 + 60 * j) H9 p ∧ Fr p H1 H9) ⟨_, _, rfl, h8, hT8, S8, F8⟩ ?_ ?_
        · rintro j σ2 H9 hj ⟨v4, v5, rfl, h9, hT9, S9, F9⟩
          walk_at "wp"
          refine ⟨p, l, _, xs, ts, rfl, S9, by omega, h9, hT9, t24, lp, fun f ys us Ha nf hf hU sw Sa Fa => ?_⟩
          have ha := Fa _ _ lp h9
          have hTa : Ts Ha xs ts := hT9.imp fun v x o => let ⟨r, ev, h⟩ := o; ⟨r, ev, tup_fr h S9 Fa⟩
          have gus : ∀ x ∈ us, Gd x := fun x hx => g x (sw.mem x hx)
          have lus : us.length ≤ 24 := by rw [sw.len]; exact t24
          walk_at "wp"
          refine ⟨f, ys, us, rfl, hf, hU, gus, lus, fun L1 vs1 Hb nb eb hb pb => ?_⟩
          walk_at "wp"
          refine ⟨l, xs, ts, rfl, eb _ _ ha, Ts.same hTa eb, g, t24, fun L2 vs2 Hc nc ec hc pc => ?_⟩
          walk_at "wp"
          refine w_neD (d := lnD (least us)) (e := lnD (least ts)) (b := true) (ln_dp (ec _ _ hb) (Ts.same pb ec)) (ln_dp hc pc) (lnD_shaped _) (lnD_shaped _) (by rw [sw.least]; exact eqv_ln _) ?_
          walk_at "wp"
          have ebc := eb.trans ec
          refine ⟨l, xs, ts, rfl, ebc _ _ ha, Ts.same hTa ebc, g, t24, fun L3 vs3 Hd nd ed hd pd => ?_⟩
          walk_at "wp"
          have ebd := ebc.trans ed
          refine ⟨lnD (least ts), lnD us, ln_dp hd pd, ln_dp (ebd _ _ hf) (Ts.same hU ebd), alike_ln _ _, (fun z => by cases z), Nat.le_trans (lnD_depth _) (by decide), ?_⟩
          rw [dataLt_ln, ← sw.least, ltL_least _ us rfl]
          walk_at "wp"
          exact ⟨_, _, rfl, ebd _ _ ha, Ts.same hTa ebd, (Sa.same ebd).mono (by omega), F9.trans (Fa.trans (.same ebd))⟩
        · rintro σ2 H9 ⟨v4, v5, rfl, h9, hT9, S9, F9⟩
          walk_at "wp"
          have s9 : Same H' H9 := Fr.unseen n1 e1 F9
          refine ⟨.inl ⟨rfl, _, SqL.of h9⟩, l, xs, rfl, rfl, h9, ?_⟩
          walk_at "wp"
          refine ⟨l, xs.reverse, ts.reverse, rfl, upd_same, PL.rev (Ts.fr hT9 h9 Fr.at_), fun x hx => g x (List.mem_reverse.mp hx), by rw [List.length_reverse]; exact t24, fun H13 e13 => ?_⟩
          walk_at "wp"
          exact ⟨_, _, _, _, _, rfl, e0.trans ((Fr.unseen nl s9 Fr.at_).trans e13)⟩
    · rintro σ' H' ⟨v1, v2, v3, v4, v5, rfl, e0⟩
      walk_at "wp"
      exact q _
end
end K62
namespace K62
open PySem L2 G
theorem fin {P : Program} {w : World} {K : PySem.W.Frag} {mg : Str → Option Value} {A : Ad} {fa : Addr} (hfa : mg "law" = some (.ref fa)) (T : Txt K mg A) :
    ∃ fd : FuncData, (∀ (s : Shared) (u : Value), BindsTo s fd ⟨[u], []⟩ [("script", u)]) ∧ ∀ base : Heap, K.In base → base.Ns mainGlobals mg → FnG P w K mg base 9 fa fd ["script"] (spLaw K) := by
  have e := hfa.symm.trans T.mg_law
  cases e
  refine ⟨A.d_law, ?_, fun base _ _ => ok_law T⟩
  obtain ⟨oc, od, kV, doc, pm, an, cdv, ct, osl, e, _⟩ := T.fun_law.ex
  rw [e]
  exact fun s u => .of_eq rfl
theorem walk {l : PySem.W.OpenLaw} {q : Program} {loose : List Str} {XP : (Str → Option Value) → Heap → Prop} {YP : World → Heap → Prop} {d : DefRec} {K : Params → PySem.W.Frag}
    (hn : l.most = some 63) (hdf : d.params.defaults = []) (hY : ∀ (w : World) (h : Heap), YP w h → (K w.params).In h)
    (F : ∀ (w : World) (mg : Str → Option Value) (fa : Addr) (h : Heap), (K w.params).In h → h.Ns mainGlobals mg → mg d.name = some (.ref fa) → ∃ fd : FuncData,
      (∀ (s : Shared) (u : Value), BindsTo s fd ⟨[u], []⟩ [("script", u)]) ∧ ∀ base : Heap, (K w.params).In base → base.Ns mainGlobals mg → FnG l.prog w (K w.params) mg base 9 fa fd ["script"] (spLaw (K w.params))) :
    PySem.W.WalkO q loose XP YP l.row.toRowW d [] (fun f vs => PySem.call f vs) :=
  G.walk_ofG (n := 63) (k := 9) (x := "script") (sp := fun w => spLaw (K w.params)) hn (by decide) hdf ⟨rfl, by decide, by decide⟩ hY F fun _ _ a ns hl _ hS => ⟨a, ns, rfl, hS, hl, fun _ => rfl⟩
end K62
open PySem PySem.W PyProof.Rows
set_option maxRecDepth 100000 in
set_option maxHeartbeats 0 in
theorem PySem.Challenge.cw_stirred_k62_least_alike_lists_holds : PySem.Challenge.rw_stirred_k62_least_alike_lists.Holds := by
  w_on; o_law; k_head; (case hw => w_witness2)
  k_fill
  refine K62.walk (l := PySem.Challenge.rw_stirred_k62_least_alike_lists) rfl rfl (fun w h Y => PySem.W.kIn_of Y) ?F
  case F =>
    intro w mg fa h KX G hmg
    refine' K62.fin hmg ?T
    case T =>
      refine' K62.txt_mk KX G ?m_is_whole ?l_is_whole ?k_is_whole ?e_is_whole ?m_is_whole_within ?l_is_whole_within ?k_is_whole_within ?e_is_whole_within ?m_is_list_within ?l_is_list_within ?k_is_list_within ?e_is_list_within ?m_is_transfer ?l_is_transfer ?k_is_transfer ?e_is_transfer ?m_is_transfers ?l_is_transfers ?k_is_transfers ?e_is_transfers ?m_check_transfers ?l_check_transfers ?k_check_transfers ?e_check_transfers ?m_least_alike ?l_least_alike ?k_least_alike ?e_least_alike ?m_are_free ?l_are_free ?k_are_free ?e_are_free ?m_indices_of_first ?l_indices_of_first ?k_indices_of_first ?e_indices_of_first ?m_law_pool ?l_law_pool ?k_law_pool ?e_law_pool ?m_law_draw ?l_law_draw ?k_law_draw ?e_law_draw ?m_law_any ?l_law_any ?k_law_any ?e_law_any ?m_law_is_free ?l_law_is_free ?k_law_is_free ?e_law_is_free ?m_law_shuffled ?l_law_shuffled ?k_law_shuffled ?e_law_shuffled ?m_law_least ?l_law_least ?k_law_least ?e_law_least ?m_law_right ?l_law_right ?k_law_right ?e_law_right ?m_law ?l_law ?k_law ?e_law ?gi_MOST_VESSELS ?gi_MOST_TRANSFERS ?gi_MOST_DROPS ?z_isinstance ?z_int ?z_bool ?z_len ?z_range ?z_enumerate ?z_list ?z_tuple ?z_type ?z_all ?z_max ?z_min ?z_repr
      (case m_is_whole => k_is)
      (case l_is_whole => k_is)
      (case k_is_whole => k_is)
      (case e_is_whole => k_is)
      (case m_is_whole_within => k_is)
      (case l_is_whole_within => k_is)
      (case k_is_whole_within => k_is)
      (case e_is_whole_within => k_is)
      (case m_is_list_within => k_is)
      (case l_is_list_within => k_is)
      (case k_is_list_within => k_is)
      (case e_is_list_within => k_is)
      (case m_is_transfer => k_is)
      (case l_is_transfer => k_is)
      (case k_is_transfer => k_is)
      (case e_is_transfer => k_is)
      (case m_is_transfers => k_is)
      (case l_is_transfers => k_is)
      (case k_is_transfers => k_is)
      (case e_is_transfers => k_is)
      (case m_check_transfers => k_is)
      (case l_check_transfers => k_is)
      (case k_check_transfers => k_is)
      (case e_check_transfers => k_is)
      (case m_least_alike => k_is)
      (case l_least_alike => k_is)
      (case k_least_alike => k_is)
      (case e_least_alike => k_is)
      (case m_are_free => k_is)
      (case l_are_free => k_is)
      (case k_are_free => k_is)
      (case e_are_free => k_is)
      (case m_indices_of_first => k_is)
      (case l_indices_of_first => k_is)
      (case k_indices_of_first => k_is)
      (case e_indices_of_first => k_is)
      (case m_law_pool => k_is)
      (case l_law_pool => k_is)
      (case k_law_pool => k_is)
      (case e_law_pool => k_is)
      (case m_law_draw => k_is)
      (case l_law_draw => k_is)
      (case k_law_draw => k_is)
      (case e_law_draw => k_is)
      (case m_law_any => k_is)
      (case l_law_any => k_is)
      (case k_law_any => k_is)
      (case e_law_any => k_is)
      (case m_law_is_free => k_is)
      (case l_law_is_free => k_is)
      (case k_law_is_free => k_is)
      (case e_law_is_free => k_is)
      (case m_law_shuffled => k_is)
      (case l_law_shuffled => k_is)
      (case k_law_shuffled => k_is)
      (case e_law_shuffled => k_is)
      (case m_law_least => k_is)
      (case l_law_least => k_is)
      (case k_law_least => k_is)
      (case e_law_least => k_is)
      (case m_law_right => k_is)
      (case l_law_right => k_is)
      (case k_law_right => k_is)
      (case e_law_right => k_is)
      (case m_law => k_is)
      (case l_law => k_is)
      (case k_law => k_is)
      (case e_law => k_is)
      (case gi_MOST_VESSELS => k_is)
      (case gi_MOST_TRANSFERS => k_is)
      (case gi_MOST_DROPS => k_is)
      (case z_isinstance => k_is)
      (case z_int => k_is)
      (case z_bool => k_is)
      (case z_len => k_is)
      (case z_range => k_is)
      (case z_enumerate => k_is)
      (case z_list => k_is)
      (case z_tuple => k_is)
      (case z_type => k_is)
      (case z_all => k_is)
      (case z_max => k_is)
      (case z_min => k_is)
      (case z_repr => k_is)
