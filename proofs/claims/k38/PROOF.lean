import PyProof.Rows.All
import Wide.All
import OpenK.AllK
import Wide.FinOn
import PyProof.EqAt
import PyProof.EqKinds
import PyProof.TupleCall
import HandS.ForMost
import HandS.Exc
import HandS.TryOnly
import HandS.ExcOwn
import HandS.WordsExc
import HandS.Wide
import HandS.Gcd
import HandS.Property
import HandS.Defaults
import HandS.MakeKw
import HandS.IsInst
import HandS.Style
import HandS.MakeKwOnly
import HandS.Walk
import HandS.Codes
import HandS.More
import KE.KRevSl
import HandS.DictEq
import HandS.Iter
import HandS.OwnEq
import HandS.DictComp
import OpenK.KMeth
import HandS.Conv
import HandS.WordsDict
import HandS.SetFor
import HandS.Finally
import HandS.TupSets
import HandS.DeepEq
import HandS.Sort
import KE.GoesMore
import KE.RegKIsAll
import PySem.Challenge.RW_stirred_k38_factors_from_volumes
set_option Elab.async false
set_option linter.all false
set_option maxRecDepth 100000
set_option maxHeartbeats 4000000
/-! Defs that are run where no display is under way: their promise may use repr. -/
namespace G
open PySem PySem.Spec PyProof.Rows L2
section
variable {P : Program} {w : World} {K : PySem.W.Frag} {mg : Str → Option Value} {base : Heap}
/-- as FnOk, for callers where no display is under way -/
structure FnG (P : Program) (w : World) (K : PySem.W.Frag) (mg : Str → Option Value) (base : Heap)
    (k : Nat) (f : Addr) (fd : FuncData) (ps : List Str) (sp : Sp) : Prop where
  len : ∀ vs H Q E, sp vs H Q E →
    vs.length = ps.length
  run : ∀ (A : Around) (outer : List Env) (s : Shared) (H : Hp) (args : Args) (us : List Value) (vs : List V) (Q : VK) (E : XK),
    A.guards = some [] → Room k A → Env0 P w K mg base A outer s H → BindsTo s fd args (ps.zip us) → Vals vs us → sp vs H Q E →
    codeAny (model P w) A (.call (.ref f) args) (CR CX0 outer P w H s Q E) s

theorem of_ok {k : Nat} {f : Addr} {fd : FuncData} {ps : List Str} {sp : Sp} (F : FnOk P w K mg base CX0 k f fd ps sp) :
    FnG P w K mg base k f fd ps sp :=
  ⟨F.len, fun A outer s H args us vs Q E _ r e b v h => F.run A outer s H args us vs Q E r e b v h⟩

/-- a def by its body, no display under way -/
theorem fun_ok {x qual : Str} {st : Stmt} {f : Addr} {fd : FuncData} {N ps : List Str} {k : Nat} {sp : Sp} (F : Fun K x qual st f fd)
    (S : FnScope N ps (defScope st)) (len : ∀ vs H Q E, sp vs H Q E → vs.length = ps.length)
    (body : ∀ (cdv : Value) (A : Around) (outer : List Env) (s : Shared) (H : Hp) (vs : List V) (Q : VK) (E : XK), A.guards = some [] →
      Room k (A.deeper (envOfC qual (defScope st) s.heap.objs.size f cdv)) → sp vs H Q E →
      ∃ t, PSs (cxOf CX0 P w K mg base N qual (defScope st) f cdv A outer s H E).nox (defBody st) t ∧
        t { nx := fun _ H' => Q .non H', rt := Q } (start N vs) H) :
    FnG P w K mg base (k + 1) f fd ps sp := by
  obtain ⟨oc, od, kV, doc, pm, an, cdv, ct, osl, rfl, lk, hcd⟩ := F.ex
  refine ⟨len, fun A outer s H args us vs Q E hgd hr e0 hb r hsp => ?_⟩
  have hlen := len _ _ _ _ hsp
  have kin : K.In s.heap := e0.mod.kin.keeps fun b o e =>
    (e0.bs b o e).1
  have nolim : s.heap.NoLimit := e0.mod.nolimit.keeps fun b o e =>
    (e0.bs b o e).1
  have kinds : ∀ y ∈ ps.zip us, (defScope st).names.lookup y.1 = some .local ∨ ((defScope st).names.lookup y.1 = some .cell ∧
      ((cellsFrom (s.heap.objs.size + 1) (defScope st).names []).lookup y.1).isSome = true) := by
    rintro ⟨n, v⟩ hy
    exact (S.par n (List.of_mem_zip hy).1).elim (fun q => .inl q) fun q => .inr ⟨q, PySem.W.cellsFrom_some _ _ _ (.inl q)⟩
  refine codeAny_call_function hr.depth (kin _ _ lk) rfl S.co S.gen rfl
    (PySem.W.codeRec_of kin hcd) (hb _ _ _ _ ?_)
  refine wpAny_newFunctionEnv_cells S.kind kinds fun env he s1 x => ?_
  subst he
  refine ⟨nolim.keeps x.toInCall.keep, codeAny_func ?_⟩
  obtain ⟨t, ht0, hq⟩ := body cdv A outer s H vs Q E hgd (hr.deeper _) hsp
  have ht := ht0.nox
  have I0 : Inv (cxOf CX0 P w K mg base N qual (defScope st) f cdv A outer s H E) [] (start N vs) H s1 :=
    inv_start S hr.hd e0 hlen r x
  refine wpAny_mono (ht.run [] s1 (start N vs) H _ I0 hq) (fun fl s' hs => ?_) fun e s' hs => hs
  cases fl with
  | ret u =>
    obtain ⟨v, σ', H', J, rv, q⟩ := hs
    exact ⟨v, H', J.os, J.bare, J.base, J.hok, rv, q⟩
  | next =>
    obtain ⟨σ', H', J, q⟩ := hs
    exact ⟨V.non, H', J.os, J.bare, J.base, J.hok, rfl, q⟩
  | brk => exact hs.elim fun _ h => h.elim fun _ h => False.elim h.2
  | cont => exact hs.elim fun _ h => h.elim fun _ h => False.elim h.2
end

section
variable {X : Cx} {k : Nat} {f : Addr} {fd : FuncData} {ps : List Str} {sp : Sp} {dvs : List V} {ds : List Value} {E : XK} {x : Str} {p pos : Pos} {e : Expr} {es : List Expr} {t : TA}
theorem run_g {pins : List (Addr × Obj)} {σ : L2.St} {H : Hp} {s : Shared} {Q : VK} {us : List Value} {vs : List V} (F : FnG X.prog X.w X.K X.mg X.base k f fd ps sp)
    (hg : X.A.guards = some []) (hr : Room k X.A) (hb : Binds X.K fd ps ds) (hd : Vals dvs ds)
    (I : Inv X pins σ H s) (r : Vals vs us) (h : sp (vs ++ dvs) H Q E) : wpAny (model X.prog X.w) X.A (call (.ref f) us) (EP X pins σ Q) X.xe s := by
  have rr : Vals (vs ++ dvs) (us ++ ds) := r.append hd
  refine wpAny_call (codeAny_mono (F.run X.A X.stack s H ⟨us, []⟩ (us ++ ds) (vs ++ dvs) Q E hg hr I.env0
    (hb s us I.kIn (by rw [← rr.length]; exact F.len _ _ _ _ h)) rr h) fun r s' hq => ?_)
  match r, hq with
  | .ok (.ret u), hq => exact I.after hq
/-- f(e, ..), f such a def -/
theorem pe_callG (F : FnG X.prog X.w X.K X.mg X.base k f fd ps sp) (hgd : X.A.guards = some []) (hr : Room k X.A) (hg : Gl X x) (hm : X.mg x = some (.ref f)) (hk : PySem.W.keepIn X.K (.ref f) = true)
    (hb : Binds X.K fd ps ds) (hd : Vals dvs ds) (ha : PA X (e :: es) t) (hdb : (x == ("__debug__" : Str)) = false := by decide)
    (he : starEach (e :: es) X.env = (false, eval e X.env) :: starEach es X.env := by rfl) (hpl : (backTo pos (starEach es X.env)).any (·.1) = false := by rfl) :
    PE X (.Call (.Name x p) (e :: es) [] pos) (tCall sp dvs E0 t) := by
  refine ⟨fun pins s σ H Q I h => wpAny_Call_Name_kw (ld_glob I hg hm ?_ hdb)⟩
  exact PySem.W.callWith_K (h₀ := X.base) I.ok.mod.kin hk (thn (ha.run pos pins s σ H _ I h) fun us s1 ⟨vs, H1, I1, r, q⟩ =>
    ⟨I1.kIn, run_g F hgd hr hb hd I1 r q⟩) he hpl
end

/-! ### the end: a law's def of this kind -/
/-- base, the heap behind the top without what is tracked, is where the callee starts -/
theorem start_at {P : Program} {w : World} {K : PySem.W.Frag} {mg mb : Str → Option Value} {a : Addr} {s : Shared} {us : List Value} {ns : List Int}
    (kin : K.In s.heap) (hn : s.heap.Ns mainGlobals mg) (hb : s.heap.Ns builtinsNs mb) (hbb : ∀ x : Str, x ≠ "__name__" → mb x = bootBuiltins x)
    (hlim : s.heap.NoLimit) (hg : s.gens = #[]) (ha : s.heap.get? a = some { cls := .type "list", data := .seq us.toArray })
    (hi : IntsAre us ns) (hl : ns.length ≤ sizeLine) :
    ∃ H : Hp, Only H ∧ SqL K H a (ns.map V.int) ∧ K.In (hidT s.heap H) ∧ (hidT s.heap H).Ns mainGlobals mg ∧
      Env0 P w K mg (hidT s.heap H) callerA [] s H ∧ HOk P w H s.heap := by
  have rv := vals_ints hi
  have lenU := hi.length
  have main : ∀ H : Hp, HOk P w H s.heap → (∀ b, H b ≠ none → b = a ∧ K.lookup a = none) →
      K.In (hidT s.heap H) ∧ (hidT s.heap H).Ns mainGlobals mg ∧ Env0 P w K mg (hidT s.heap H) callerA [] s H ∧ HOk P w H s.heap := by
    intro H hok only
    have free : ∀ {b : Addr}, b ≠ a → H b = none := fun {b} hne => by
      cases q : H b with
      | none => rfl
      | some u => exact absurd (only b (by rw [q]; exact fun z => nomatch z)).1 hne
    have notDict : ∀ {b : Addr} {o : Obj} {es : Array DictEntry} {n : Nat}, s.heap.get? b = some o → o.data = .dict es n → b ≠ a := by
      rintro b o es n e d rfl
      rw [ha] at e
      cases e
      exact nomatch (show Data.seq us.toArray _ = Data.dict es n from d)
    have spaces : ∀ {b : Addr} {m : Str → Option Value}, s.heap.Ns b m → (hidT s.heap H).Ns b m := by
      rintro b m ⟨o, es, n, e, d, r⟩
      exact ⟨o, es, n, hidT_get e (free (notDict e d)), d, r⟩
    have kin2 : K.In (hidT s.heap H) := by
      intro b o e
      refine hidT_get (kin b o e) ?_
      cases q : H b with
      | none => rfl
      | some u =>
        obtain ⟨e1, e2⟩ := only b (by rw [q]; exact fun z => nomatch z)
        rw [e1, e2] at e
        cases e
    obtain ⟨mc, l1, l2⟩ := hlim
    refine ⟨kin2, spaces hn, ⟨rfl, ⟨kin2, spaces hn, ⟨mb, spaces hb, hbb⟩, ⟨mc, spaces l1, l2⟩⟩, fun b o e => of_hidT e, Nat.le_of_eq (hidT_size _ _), trivial, ?_, hok, .of_eq hg⟩, hok⟩
    exact fun b hb => absurd (show b ∈ ([] : List Addr) from hb) (by simp)
  cases lk : K.lookup a with
  | some o =>
    have e := kin a o lk
    rw [ha] at e
    cases e
    refine ⟨fun _ => none, fun _ => .inl rfl, .inr ⟨_, us.toArray, _, lk, rfl, rfl, rfl, ?_, ?_⟩, main _ ?_ ?_⟩
    · rw [List.size_toArray, lenU]; exact hl
    · simpa using rv
    · exact fun b u z => nomatch (show (none : Option HO) = some u from z)
    · exact fun b z => absurd rfl z
  | none =>
    have at_ : ∀ b, (if b = a then some (HO.frz { cls := .type "list", data := .seq us.toArray } (.lst (ns.map V.int))) else none) ≠ none → b = a := fun b z => by
      by_cases hb : b = a
      · exact hb
      · exact absurd (if_neg hb) z
    refine ⟨fun b => if b = a then some (.frz { cls := .type "list", data := .seq us.toArray } (.lst (ns.map V.int))) else none, fun b => ?_, .inl (.inr ⟨{ cls := .type "list", data := .seq us.toArray }, if_pos rfl⟩), main _ ?_ ?_⟩
    · by_cases hb : b = a
      · exact .inr ⟨_, _, if_pos hb⟩
      · exact .inl (if_neg hb)
    · intro b u z
      by_cases hb : b = a
      · have zz := (if_pos hb).symm.trans z
        cases zz
        subst hb
        exact ⟨ha, by rw [List.length_map]; exact hl, us, _, rv, ha⟩
      · have zz := (if_neg hb).symm.trans z
        cases zz
    · exact fun b z => ⟨at_ b z, lk⟩

/-- the goal that the head leaves, from the promise of the law's def (as walk_of) -/
theorem walk_ofG {l : PySem.W.OpenLaw} {n k : Nat} {q : Program} {loose : List Str} {XP : (Str → Option Value) → Heap → Prop} {YP : World → Heap → Prop} {d : DefRec} {K : Params → PySem.W.Frag} {sp : World → Sp} {x : Str}
    (hn : l.most = some n) (hn2 : n ≤ sizeLine) (hdf : d.params.defaults = []) (hr : Room k callerA)
    (hY : ∀ (w : World) (h : Heap), YP w h → (K w.params).In h)
    (F : ∀ (w : World) (mg : Str → Option Value) (fa : Addr) (h : Heap), (K w.params).In h → h.Ns mainGlobals mg → mg d.name = some (.ref fa) → ∃ fd : FuncData,
      (∀ (s : Shared) (u : Value), BindsTo s fd ⟨[u], []⟩ [(x, u)]) ∧
      ∀ base : Heap, (K w.params).In base → base.Ns mainGlobals mg → FnG l.prog w (K w.params) mg base k fa fd [x] (sp w))
    (hsp : ∀ (w : World) (H : Hp) (a : Addr) (ns : List Int), ns.length ≤ n → Only H → SqL (K w.params) H a (ns.map V.int) →
      sp w [.ref a] H (fun v _ => v = .bl true) fun _ _ _ => False) :
    PySem.W.WalkO q loose XP YP l.row.toRowW d [] (fun f vs => PySem.call f vs) := by
  refine Att.attach_call hn hdf fun w s₀ s mg mb fa o pm cd doc a us ns G Y _ _ _ hmg hobj hints hlen hg => ?_
  have kin := hY w _ Y
  obtain ⟨fd, hb, hF⟩ := F w mg fa _ kin G.T.g hmg
  obtain ⟨H, hO, hS, k1, k2, e0, hok⟩ := start_at (P := l.prog) (w := w) kin G.T.g G.T.b G.T.builtins G.T.nolimit hg hobj hints (Nat.le_trans hlen hn2)
  refine codeAny_mono ((hF _ k1 k2).run callerA [] s H ⟨[.ref a], []⟩ [.ref a] [.ref a] _ _ rfl hr e0 (hb s (.ref a)) (.cons rfl .nil) (hsp w H a ns hlen hO hS)) fun r s' h => ?_
  match r, h with
  | .ok (.ret u), h =>
    obtain ⟨v, H', os, bare, un, hok', r', q⟩ := h
    obtain rfl : v = .bl true := q
    obtain rfl : u = Value.bool true := r'
    refine ⟨rfl, OldK.of_keep fun b o e => ?_, os, bare⟩
    cases q : H b with
    | none => exact un.keep b o e q (fun z => absurd (show b ∈ ([] : List Addr) from z) (by simp)) (by simp)
    | some u =>
      rcases hO b with z | ⟨ob, xs, z⟩
      · rw [q] at z; cases z
      · obtain ⟨e1, _⟩ := hok b _ z
        obtain ⟨e2, _⟩ := hok' b _ (un.frzs b ob _ z)
        rw [e] at e1
        cases e1
        exact e2

/-! ### repr -/
mutual
/-- ints below 2 ^ 1900, no texts, no dicts -/
def lim : PyData → Prop
  | .none | .bool _ => True
  | .int i => i.natAbs < 2 ^ 1900
  | .str _ | .dict _ => False
  | .list xs | .tuple xs => limAll xs
def limAll : List PyData → Prop
  | [] => True
  | x :: xs => lim x ∧ limAll xs
end
mutual
def cnt : PyData → Nat
  | .none | .bool _ | .int _ | .str _ | .dict _ => 1
  | .list xs | .tuple xs => cntAll xs + 1
def cntAll : List PyData → Nat
  | [] => 0
  | x :: xs => cnt x + cntAll xs
end
mutual
theorem lim_show : ∀ d : PyData, lim d → d.showable = true ∧ d.hasDict = false
  | .none, _ => ⟨by simp only [PyData.showable], by simp only [PyData.hasDict]⟩
  | .bool _, _ => ⟨by simp only [PyData.showable], by simp only [PyData.hasDict]⟩
  | .int i, h => ⟨by
      simp only [PyData.showable, decide_eq_true_eq]
      have h : i.natAbs < 2 ^ 1900 := by simpa only [lim] using h
      exact Nat.lt_of_lt_of_le (PySem.Flt.log2_lt_of (by decide) h) (by decide), by simp only [PyData.hasDict]⟩
  | .str _, h => by simp only [lim] at h
  | .dict _, h => by simp only [lim] at h
  | .list xs, h => by
    obtain ⟨a, b⟩ := limAll_show xs (by simpa only [lim] using h)
    exact ⟨by simpa only [PyData.showable] using a, by simpa only [PyData.hasDict] using b⟩
  | .tuple xs, h => by
    obtain ⟨a, b⟩ := limAll_show xs (by simpa only [lim] using h)
    exact ⟨by simpa only [PyData.showable] using a, by simpa only [PyData.hasDict] using b⟩
theorem limAll_show : ∀ xs : List PyData, limAll xs → PyData.showableAll xs = true ∧ PyData.hasDictAll xs = false
  | [], _ => ⟨by simp only [PyData.showableAll], by simp only [PyData.hasDictAll]⟩
  | x :: xs, h => by
    obtain ⟨h1, h2⟩ : lim x ∧ limAll xs := by simpa only [limAll] using h
    obtain ⟨a, b⟩ := lim_show x h1
    obtain ⟨c, d⟩ := limAll_show xs h2
    exact ⟨by simp only [PyData.showableAll, a, c, Bool.and_self], by simp only [PyData.hasDictAll, b, d, Bool.or_self]⟩
end
theorem int_len {i : Int} (h : i.natAbs < 2 ^ 1900) : (PyData.shown (.int i)).length ≤ 1901 := by
  have e := int_text_length_le (k := 1900) (a := i) (by decide) (PySem.Flt.log2_lt_of (by decide) h)
  rw [← PySem.ofString_length] at e
  simp only [PyData.shown]
  exact e
mutual
theorem lim_len : ∀ d : PyData, lim d → d.shown.length + 10 ≤ 2000 * cnt d
  | .none, _ => by
    have e : (PyData.shown .none).length = 4 := rfl
    simp only [cnt]; omega
  | .bool b, _ => by
    have e : (PyData.shown (.bool b)).length ≤ 5 := by cases b <;> decide
    simp only [cnt]; omega
  | .int i, h => by
    have e := int_len (by simpa only [lim] using h)
    simp only [cnt]
    omega
  | .str _, h => by simp only [lim] at h
  | .dict _, h => by simp only [lim] at h
  | .list xs, h => by
    have a := limAll_len xs (by simpa only [lim] using h)
    have b := listText_len_le (PyData.shownAll xs)
    have c := PyData.shownAll_length xs
    simp only [PyData.shown, cnt]
    omega
  | .tuple xs, h => by
    have a := limAll_len xs (by simpa only [lim] using h)
    have b := tupleText_len_le (PyData.shownAll xs)
    have c := PyData.shownAll_length xs
    simp only [PyData.shown, cnt]
    omega
theorem limAll_len : ∀ xs : List PyData, limAll xs → ((PyData.shownAll xs).map (·.length)).sum + 2 * xs.length ≤ 2000 * cntAll xs
  | [], _ => by simp [PyData.shownAll]
  | x :: xs, h => by
    obtain ⟨h1, h2⟩ : lim x ∧ limAll xs := by simpa only [limAll] using h
    have a := lim_len x h1
    have b := limAll_len xs h2
    simp only [PyData.shownAll, cntAll, List.map_cons, List.sum_cons, List.length_cons] at *
    omega
end
section
variable {X : Cx}
/-- repr of data: its text -/
def rRepr (K : PySem.W.Frag) : List V → Hp → VK → Prop := fun vs H Q => ∃ a d, vs = [.ref a] ∧ Dp K H (.ref a) d ∧ lim d ∧ cnt d ≤ 8000 ∧ d.depth ≤ 40 ∧ Q (.str d.shown) H
theorem call_repr (hg : X.A.guards = some []) (hu : X.A.units + 64 < cLine) : CallR X (.builtin "repr") (rRepr X.K) := by
  intro pins s σ H vs us Q I r h
  obtain ⟨a, d, rfl, hd, hl, hc, hdp, q⟩ := h
  obtain ⟨hs, hn⟩ := lim_show d hl
  have hsz : d.shown.length ≤ sizeLine := by
    have := lim_len d hl
    rw [show sizeLine = 16777216 from sizeLine_eq]
    omega
  cases r with
  | cons rv rn =>
    cases rn
    obtain ⟨as, rd⟩ := Dp.reads I d _ _ hd rv
    obtain rfl := (show _ = Value.ref a from rv)
    refine repr_of_reads' rd hs (fun z => by rw [hn] at z; cases z) hg (by omega) (fun _ _ e => e) (fun h' u tk hk => ?_) hsz
    exact ⟨.str _, H, I.kept hk, ⟨_, rfl⟩, q⟩
end
end G

/-! Readings taken step by step: one lemma a head, the continuation last. -/
namespace G
open PySem PySem.Spec L2
section
variable {σ : L2.St} {H : Hp} {i j : Nat} {v x y : V} {Q : VK} {ta tb te : TE} {K : PySem.W.Frag} {D : Ends} {t u : TS} {tt tu : TT} {tr : TA} {QT : Bool → Hp → Prop} {QA : List V → Hp → Prop}
theorem w_var (h : σ[i]? = some (some v)) (q : Q v H) : tVar i σ H Q := ⟨v, h, q⟩
theorem w_c (q : Q v H) : tC v σ H Q := q
theorem w_op {r : R2} (q : ta σ H fun x H1 => tb σ H1 fun y H2 => r x y H2 Q) : tOp r ta tb σ H Q := q
theorem w_un {r : V → Hp → VK → Prop} (q : ta σ H fun x H1 => r x H1 Q) : tUn r ta σ H Q := q
theorem w_cb {r : List V → Hp → VK → Prop} (q : tr σ H fun vs H1 => r vs H1 Q) : tCB r tr σ H Q := q
theorem w_nil (q : QA [] H) : tNil σ H QA := q
theorem w_cons (q : te σ H fun x H1 => tr σ H1 fun xs H2 => QA (x :: xs) H2) : tCons te tr σ H QA := q
theorem w_I0 {g : Int → Int → V} {a b : Int} (q : Q (g a b) H) : rI0 g (.int a) (.int b) H Q := ⟨a, b, rfl, rfl, q⟩
theorem w_I {C : Int → Int → Prop} {g : Int → Int → V} {a b : Int} (c : C a b) (q : Q (g a b) H) : rI C g (.int a) (.int b) H Q := ⟨a, b, rfl, rfl, c, q⟩
theorem w_U {g : Int → V} {a : Int} (q : Q (g a) H) : rU g (.int a) H Q := ⟨a, rfl, q⟩
theorem w_eq (h : scal x y = true) (q : Q (.bl (decide (x = y))) H) : rEq x y H Q := ⟨h, q⟩
theorem w_ne (h : scal x y = true) (q : Q (.bl (!decide (x = y))) H) : rNe x y H Q := ⟨h, q⟩
theorem w_eqI {a b : Int} (q : Q (.bl (decide (a = b))) H) : rEq (.int a) (.int b) H Q := ⟨rfl, by
  have e : decide (V.int a = V.int b) = decide (a = b) := by
    by_cases h : a = b
    · rw [h]; simp
    · rw [decide_eq_false h, decide_eq_false fun z => h (by injection z)]
  rw [e]; exact q⟩
theorem w_neI {a b : Int} (q : Q (.bl (!decide (a = b))) H) : rNe (.int a) (.int b) H Q := ⟨rfl, by
  have e : decide (V.int a = V.int b) = decide (a = b) := by
    by_cases h : a = b
    · rw [h]; simp
    · rw [decide_eq_false h, decide_eq_false fun z => h (by injection z)]
  rw [e]; exact q⟩
theorem w_test (q : te σ H fun x H1 => ∃ k, x = .bl k ∧ QT k H1) : tTest te σ H QT := q
theorem w_tB (q : te σ H fun x H1 => ∃ k, x = .bl k ∧ QT k H1) : tB te σ H QT := q
theorem w_bl {b : Bool} {P : Bool → Prop} (q : P b) : ∃ k, V.bl b = .bl k ∧ P k := ⟨b, rfl, q⟩
theorem w_not (q : tt σ H fun c H1 => QT (!c) H1) : tNot tt σ H QT := q
theorem w_and (q : tt σ H fun c H1 => if c = true then tu σ H1 QT else QT false H1) : tAnd tt tu σ H QT := q
theorem w_or (q : tt σ H fun c H1 => if c = true then QT true H1 else tu σ H1 QT) : tOr tt tu σ H QT := q
theorem w_andV (q : ta σ H fun x H1 => ∃ c, x = .bl c ∧ if c = true then tb σ H1 Q else Q (.bl false) H1) : tAndV ta tb σ H Q := q
theorem w_orV (q : ta σ H fun x H1 => ∃ c, x = .bl c ∧ if c = true then Q (.bl true) H1 else tb σ H1 Q) : tOrV ta tb σ H Q := q
theorem w_notV (q : ta σ H fun x H1 => ∃ c, x = .bl c ∧ Q (.bl (!c)) H1) : tNotV ta σ H Q := q
theorem w_tif (q : tt σ H fun c H1 => if c = true then ta σ H1 Q else tb σ H1 Q) : tIf tt ta tb σ H Q := q
theorem w_ite {b : Bool} {A B : Prop} (h1 : b = true → A) (h2 : b = false → B) : if b = true then A else B := by
  cases b with
  | true => exact h1 rfl
  | false => exact h2 rfl
theorem w_iteT {b : Bool} {A B : Prop} (e : b = true) (h1 : A) : if b = true then A else B := by rw [if_pos e]; exact h1
theorem w_iteF {b : Bool} {A B : Prop} (e : b = false) (h1 : B) : if b = true then A else B := by rw [e]; exact h1
/-! statements -/
theorem w_seq (q : t { nx := u D, rt := D.rt, bk := D.bk, ct := D.ct } σ H) : tSeq t u D σ H := q
theorem w_next (q : D.nx σ H) : tNext D σ H := q
theorem w_brk (q : D.bk σ H) : tBreak D σ H := q
theorem w_cont (q : D.ct σ H) : tCont D σ H := q
theorem w_ret (q : te σ H D.rt) : tRet te D σ H := q
theorem w_retN (q : D.rt .non H) : tRetN D σ H := q
theorem w_drop (q : te σ H fun _ H1 => D.nx σ H1) : tDrop te D σ H := q
theorem w_asg {g : TG} (q : te σ H fun x H1 => g x σ H1 D.nx) : tAsg te g D σ H := q
theorem w_gn {R : L2.St → Hp → Prop} (q : R (σ.set i (some v)) H) : gName i v σ H R := q
theorem w_if (q : tt σ H fun b H1 => if b = true then t D σ H1 else u D σ H1) : tIfS tt t u D σ H := q
theorem w_par (q : tr σ H fun vs H1 => ∃ v w, vs = [v, w] ∧ D.nx ((σ.set i (some v)).set j (some w)) H1) : tPar i j tr D σ H := q
theorem w_par2 {a b : V} {P : V → V → Prop} (q : P a b) : ∃ v w, [a, b] = [v, w] ∧ P v w := ⟨a, b, rfl, q⟩
/-! displays, items -/
theorem same_new {p : Addr} {o : HO} (h : H p = none) : Same H (upd H p o) := fun c u e => by rw [upd_ne (ne_of_none e h)]; exact e
/-- a new object: the heap is a letter again behind it -/
def Alloc (mk : List V → HO) (Q : VK) : List V → Hp → Prop := fun xs H1 => xs.length ≤ sizeLine ∧ ∀ p, H1 p = none → Q (.ref p) (upd H1 p (mk xs))
theorem w_tup (q : tr σ H (Alloc HO.tup Q)) : tTup tr σ H Q := q
theorem w_lst (q : tr σ H (Alloc HO.lst Q)) : tLst tr σ H Q := q
theorem w_alloc {mk : List V → HO} {xs : List V} (h : decide (xs.length ≤ 16777216) = true) (q : ∀ p H', H p = none → Same H H' → H' p = some (mk xs) → Q (.ref p) H') : Alloc mk Q xs H :=
  ⟨by rw [show sizeLine = 16777216 from sizeLine_eq]; exact of_decide_eq_true h, fun p hp => q p _ hp (same_new hp) upd_same⟩
theorem w_size {n : Nat} {A : Prop} (h : decide (n ≤ 16777216) = true) (q : A) : n ≤ sizeLine ∧ A := ⟨by rw [show sizeLine = 16777216 from sizeLine_eq]; exact of_decide_eq_true h, q⟩
end
end G
namespace G
open PySem PySem.Spec L2
section
variable {σ : L2.St} {H : Hp} {v x y : V} {Q : VK} {ta tb te : TE} {K : PySem.W.Frag} {D : Ends} {tr tk : TA} {sp : Sp} {dvs : List V} {E : XK} {f : Str} {C a dx : Addr} {fs : List (Str × V)}
theorem w_call (q : tr σ H fun vs H1 => sp (vs ++ dvs) H1 Q E) : tCall sp dvs E tr σ H Q := q
theorem w_fld (q : ta σ H fun x H1 => ∃ a C dx fs v, x = .ref a ∧ H1 a = some (.ins C dx fs) ∧ Cls K C ∧ NoAttr K C f ∧ fs.lookup f = some v ∧ Q v H1) : tFld K ta f σ H Q := q
theorem w_fld1 {R : V → Prop} (ho : H a = some (.ins C dx fs)) (hc : Cls K C) (hn : NoAttr K C f) (hl : fs.lookup f = some v) (q : R v) :
    ∃ b C dx fs w, V.ref a = .ref b ∧ H b = some (.ins C dx fs) ∧ Cls K C ∧ NoAttr K C f ∧ fs.lookup f = some w ∧ R w := ⟨a, C, dx, fs, v, rfl, ho, hc, hn, hl, q⟩
theorem w_sfld (q : te σ H fun y H1 => ta σ H1 fun x H2 => ∃ a C dx fs, x = .ref a ∧ H2 a = some (.ins C dx fs) ∧ Cls K C ∧ NoAttr K C f ∧ fs.length < 1000 ∧ D.nx σ (upd H2 a (.ins C dx (putF f y fs)))) : sFld K ta te f D σ H := q
theorem w_sfld1 (ho : H a = some (.ins C dx fs)) (hc : Cls K C) (hn : NoAttr K C f) (hl : fs.length < 1000) {y : V} {S : L2.St → Hp → Prop} (q : S σ (upd H a (.ins C dx (putF f y fs)))) :
    ∃ b C dx fs, V.ref a = .ref b ∧ H b = some (.ins C dx fs) ∧ Cls K C ∧ NoAttr K C f ∧ fs.length < 1000 ∧ S σ (upd H b (.ins C dx (putF f y fs))) := ⟨a, C, dx, fs, rfl, ho, hc, hn, hl, q⟩
theorem w_prop (q : ta σ H fun x H1 => ∃ a dx fs, x = .ref a ∧ H1 a = some (.ins C dx fs) ∧ sp (.ref a :: dvs) H1 Q E) : tProp C sp dvs E ta σ H Q := q
theorem w_make (q : tr σ H fun vs H1 => ∀ x dx, H1 x = none → H1 dx = none → dx ≠ x → sp (.ref x :: (vs ++ dvs)) (upd (upd H1 dx (.own x)) x (.ins C dx [])) (fun v H2 => v = .non ∧ Q (.ref x) H2) E) : tMake C sp dvs E tr σ H Q := q
theorem w_meth {m : Str} (q : ta σ H fun x H1 => ∃ a dx fs, x = .ref a ∧ H1 a = some (.ins C dx fs) ∧ fs.lookup m = none ∧ tr σ H1 fun vs H2 => sp (x :: (vs ++ dvs)) H2 Q E) : tMeth C m sp dvs E ta tr σ H Q := q
theorem w_ixL {p : Addr} {xs : List V} {i : Int} (h : SqL K H p xs) (e : atI xs i = some v) (q : Q v H) : rIxL K (.ref p) (.int i) H Q := ⟨p, xs, i, v, rfl, rfl, h, e, q⟩
theorem w_ixT {p : Addr} {xs : List V} {i : Int} (h : SqT K H p xs) (e : atI xs i = some v) (q : Q v H) : rIxT K (.ref p) (.int i) H Q := ⟨p, xs, i, v, rfl, rfl, h, e, q⟩
theorem w_setL {p : Addr} {xs : List V} {i : Int} {j : Nat} {R : Hp → Prop} (h : H p = some (.lst xs)) (e : ixN xs.length i = some j) (q : R (upd H p (.lst (xs.set j v)))) : rSetL (.ref p) (.int i) v H R := ⟨p, xs, i, j, rfl, rfl, h, e, q⟩
theorem w_gsub {to ti : TE} {t : TSet} {R : L2.St → Hp → Prop} (q : to σ H fun o H1 => ti σ H1 fun i H2 => t o i v H2 fun H3 => R σ H3) : gSub to ti t v σ H R := q
end
end G
namespace G
open PySem PySem.Spec L2
section
variable {σ : L2.St} {H : Hp} {v x y : V} {Q : VK} {ta tb te : TE} {K : PySem.W.Frag} {D : Ends} {tr tk : TA} {sp : Sp} {dvs : List V} {E : XK} {C a dx : Addr} {tb : TS} {g : TG} {wi : TI}
/-- a walk J from the heap H on: the invariant that is asked -/
def ForW (J : It) (g : TG) (tb : TS) (D : Ends) (σ : L2.St) (H : Hp) : Prop := ∃ W : Nat → Nat → L2.St → Hp → Prop, (∃ m, W 0 m σ H) ∧ ∀ i m σ H, W i m σ H →
  (J.stop i H ∧ D.nx σ H) ∨ (J.go i H ∧ ∃ N : L2.St → Hp → Prop, (∀ σ' H', N σ' H' → ∃ m', m' < m ∧ W (i + 1) m' σ' H') ∧ ∀ x H', J.yld i H x H' → g x σ H' fun σ2 H2 => tb { D with nx := N, ct := N, bk := D.nx } σ2 H2)
theorem w_for (q : wi σ H fun J H1 => ForW J g tb D σ H1) : tFor wi g tb D σ H := q
theorem w_iList {te : TE} {R : It → Hp → Prop} (q : te σ H fun x H1 => ∃ a, x = .ref a ∧ (∃ xs, SqL K H1 a xs) ∧ R (Itl K a) H1) : iList K te σ H R := q
theorem w_iTup {te : TE} {R : It → Hp → Prop} (q : te σ H fun x H1 => ∃ a, x = .ref a ∧ (∃ xs, SqT K H1 a xs) ∧ R (Itt K a) H1) : iTup K te σ H R := q
/-- a list, one name -/
theorem w_walkL {j : Nat} {xs : List V} (hl : SqL K H a xs) (Pv : Nat → L2.St → Hp → Prop) (h0 : Pv 0 σ H) (hk : ∀ i σ' H', i ≤ xs.length → Pv i σ' H' → SqL K H' a xs)
    (hs : ∀ (i : Nat) x σ' H', xs[i]? = some x → Pv i σ' H' → tb { nx := Pv (i + 1), rt := D.rt, ct := Pv (i + 1), bk := D.nx } (σ'.set j (some x)) H') (hd : ∀ σ' H', Pv xs.length σ' H' → D.nx σ' H') :
    ∃ b, V.ref a = .ref b ∧ (∃ xs, SqL K H b xs) ∧ ForW (Itl K b) (gName j) tb D σ H := ⟨a, rfl, ⟨_, hl⟩, for_list Pv h0 hk hs hd⟩
/-- for .. in range(n) -/
theorem w_forR1 {j : Nat} {n : Int} (hv : ∀ R : List V → Hp → Prop, R [.int n] H → tr σ H R) (hn : 0 ≤ n ∧ n ≤ 1000000) (Pv : Nat → L2.St → Hp → Prop) (h0 : Pv 0 σ H)
    (hs : ∀ (i : Nat) σ' H', (i : Int) < n → Pv i σ' H' → tb { nx := Pv (i + 1), rt := D.rt, ct := Pv (i + 1), bk := D.nx } (σ'.set j (some (.int (i : Int)))) H') (hd : ∀ σ' H', Pv n.toNat σ' H' → D.nx σ' H') : tFor (iRng1 tr) (gName j) tb D σ H := by
  refine hv _ ⟨n, rfl, by omega, by omega, for_range (lo := 0) (n := n.toNat) Pv h0 (fun i σ' H' hi p => ?_) hd⟩
  have e0 : (0 : Int) + (i : Int) = (i : Int) := Int.zero_add _
  show tb { nx := Pv (i + 1), rt := D.rt, ct := Pv (i + 1), bk := D.nx } (σ'.set j (some (.int ((0 : Int) + (i : Int))))) H'
  rw [e0]
  exact hs i σ' H' (by omega) p
/-- for .. in a list -/
theorem w_forL {j : Nat} {xs : List V} (hv : ∀ R : V → Hp → Prop, R (.ref a) H → te σ H R) (hl : SqL K H a xs) (Pv : Nat → L2.St → Hp → Prop) (h0 : Pv 0 σ H) (hk : ∀ i σ' H', i ≤ xs.length → Pv i σ' H' → SqL K H' a xs)
    (hs : ∀ (i : Nat) x σ' H', xs[i]? = some x → Pv i σ' H' → tb { nx := Pv (i + 1), rt := D.rt, ct := Pv (i + 1), bk := D.nx } (σ'.set j (some x)) H') (hd : ∀ σ' H', Pv xs.length σ' H' → D.nx σ' H') : tFor (iList K te) (gName j) tb D σ H :=
  hv _ ⟨a, rfl, ⟨_, hl⟩, for_list Pv h0 hk hs hd⟩
/-- all but what stands at a is as it was -/
def Fr (a : Addr) (H H' : Hp) : Prop := ∀ c o, c ≠ a → H c = some o → H' c = some o
theorem Fr.refl (a : Addr) (H : Hp) : Fr a H H := fun _ _ _ h => h
theorem Fr.trans {a : Addr} {H H1 H2 : Hp} (x : Fr a H H1) (y : Fr a H1 H2) : Fr a H H2 := fun c o n h => y c o n (x c o n h)
theorem Fr.at_ {a : Addr} {H : Hp} {o : HO} : Fr a H (upd H a o) := fun c u n h => by rw [upd_ne n]; exact h
theorem Fr.new {a p : Addr} {H : Hp} {o : HO} (h : H p = none) : Fr a H (upd H p o) := fun c u n e => by rw [upd_ne (ne_of_none e h)]; exact e
theorem Fr.same {a : Addr} {H H' : Hp} (h : Same H H') : Fr a H H' := fun c o _ e => h c o e
/-- a change at an address that H does not know is none for H -/
theorem Fr.unseen {a : Addr} {H H1 H2 : Hp} (n : H a = none) (s : Same H H1) (f : Fr a H1 H2) : Same H H2 := fun c o h => f c o (ne_of_none h n) (s c o h)
/-- what is kept while a comprehension fills its list at L -/
def Fills (Pv : Addr → Nat → List V → Hp → Prop) (L : Addr) (i : Nat) : Hp → Prop := fun H => ∃ acc, H L = some (.lst acc) ∧ Pv L i acc H
theorem fills_more {Pv : Addr → Nat → List V → Hp → Prop} {L : Addr} {i : Nat} {acc : List V} (h : H L = some (.lst acc)) (hz : acc.length < 10000000) (q : ∀ H', Fr L H H' → H' L = some (.lst (acc ++ [y])) → Pv L (i + 1) (acc ++ [y]) H') :
    ∃ acc, H L = some (.lst acc) ∧ acc.length < sizeLine ∧ Fills Pv L (i + 1) (upd H L (.lst (acc ++ [y]))) :=
  ⟨acc, h, by rw [show sizeLine = 16777216 from sizeLine_eq]; omega, acc ++ [y], upd_same, q _ Fr.at_ upd_same⟩
/-- [e for x in a list if t] -/
theorem w_lcL {tt : TT} {vs : List Nat} {xs : List V} (hv : ∀ R : V → Hp → Prop, R (.ref a) H → ta σ H R) (hl : SqL K H a xs) (Pv : Addr → Nat → List V → Hp → Prop)
    (h0 : ∀ L H', H L = none → Same H H' → H' L = some (.lst []) → Pv L 0 [] H')
    (hk : ∀ L i acc H', i ≤ xs.length → Pv L i acc H' → SqL K H' a xs)
    (hs : ∀ L (i : Nat) x acc H', H L = none → xs[i]? = some x → H' L = some (.lst acc) → Pv L i acc H' → g x (wipe σ vs) H' fun σ2 H2 => wipe σ2 vs = wipe σ vs ∧ tt σ2 H2 fun b H3 =>
      if b = true then te σ2 H3 fun y H4 => ∃ acc, H4 L = some (.lst acc) ∧ acc.length < sizeLine ∧ Fills Pv L (i + 1) (upd H4 L (.lst (acc ++ [y]))) else Fills Pv L (i + 1) H3)
    (hd : ∀ L acc H', H L = none → H' L = some (.lst acc) → Pv L xs.length acc H' → Q (.ref L) H') : tLc (iList K ta) g tt te vs σ H Q :=
  hv _ ⟨a, rfl, ⟨_, hl⟩, fun L hL => lc_list (xs := xs) (fun i H' => Fills Pv L i H') ⟨[], upd_same, h0 L _ hL (same_new hL) upd_same⟩ (fun i H' hi ⟨acc, _, p⟩ => hk L i acc H' hi p)
    (fun i x H' hi ⟨acc, hA, hp⟩ => hs L i x acc H' hL hi hA hp) fun H' ⟨acc, h1, h2⟩ => hd L acc H' hL h1 h2⟩
/-! more heads -/
theorem w_bm {T : String} {r : V → List V → Hp → VK → Prop} (q : ta σ H fun x H1 => tyV K T x H1 ∧ tr σ H1 fun xs H2 => r x xs H2 Q) : tBM K T r ta tr σ H Q := q
theorem w_bmL {p : Addr} {xs : List V} {B : Prop} (h : H p = some (.lst xs)) (q : B) : tyV K "list" (.ref p) H ∧ B := ⟨.inl ⟨rfl, xs, SqL.of h⟩, q⟩
theorem w_append {l : Addr} {xs : List V} (h : H l = some (.lst xs)) (q : ∀ H', Fr l H H' → H' l = some (.lst (xs ++ [y])) → Q .non H') (hz : decide (xs.length < 10000000) = true := by rfl) : rAppend (.ref l) [y] H Q :=
  ⟨l, xs, y, rfl, rfl, h, by have := of_decide_eq_true hz; rw [show sizeLine = 16777216 from sizeLine_eq]; omega, q _ Fr.at_ upd_same⟩
theorem w_makeK {n m : Nat} {gV : List V → List V → List V} (q : tr σ H fun vs H1 => tk σ H1 fun zs H2 => vs.length = n ∧ zs.length = m ∧ ∀ x dx, H2 x = none → H2 dx = none → dx ≠ x → sp (gV (.ref x :: vs) zs) (upd (upd H2 dx (.own x)) x (.ins C dx [])) (fun v H3 => v = .non ∧ Q (.ref x) H3) E) :
    tMakeK C n m sp gV E tr tk σ H Q := q
theorem w_callN {n m : Nat} {gV : List V → List V → List V} (q : tr σ H fun vs H1 => tk σ H1 fun zs H2 => vs.length = n ∧ zs.length = m ∧ sp (gV vs zs) H2 Q E) : tCallN n m sp gV E tr tk σ H Q := q
theorem w_rfl2 {n m : Nat} {A : Prop} {a b : Nat} (h1 : a = n) (h2 : b = m) (q : A) : a = n ∧ b = m ∧ A := ⟨h1, h2, q⟩

end
end G

/-! Wide ints; operators by methods of one's own. -/
namespace G
open PySem PySem.Spec PyProof.Rows L2
section
variable {X : Cx}
def CPowW (i j : Int) : Prop := 0 ≤ j ∧ j ≤ 64 ∧ i.natAbs.log2 < 1000000
theorem op_powW : OpR X (binaryOp .Pow) (rI CPowW fun i j => .int (i ^ j.toNat)) := opI fun i j _ _ _ _ _ hc q => by
  refine pow_int hc.1 ?_ q
  have b : Builtin.Int.intBits i ≤ i.natAbs.log2 + 1 := by
    unfold Builtin.Int.intBits
    split <;> omega
  have h1 : ((Builtin.Int.intBits i : Nat) : Int) ≤ 1000000 := by have := hc.2.2; omega
  have h2 : ((Builtin.Int.intBits i : Nat) : Int) * j ≤ 1000000 * 64 := Int.mul_le_mul h1 hc.2.1 hc.1 (by decide)
  exact Int.le_trans h2 (by decide)
/-- % by a positive number of any size -/
theorem op_modW : OpR X (binaryOp .Mod) (rI (fun _ j => 0 < j) fun i j => .int (i % j)) := by
  intro pins s σ H x y v u Q I rx ry h
  obtain ⟨i, j, hx, hy, hc, q⟩ := h
  exact op_modN pins s σ H x y v u Q I rx ry ⟨i, j, hx, hy, by omega, by
    show Q (.int (i.fmod j)) H
    rw [Int.fmod_eq_emod_of_nonneg i (by omega)]
    exact q⟩
/-! ### operators by a method of the left operand's class -/
theorem mono_rel {v : V} {u : Value} {s : Shared} {R : Value → Shared → Prop} (r : RelV v u) (q : R u s) : PySem.W.CmpBack R u s := by
  cases v with
  | non => cases (show u = Value.none from r); exact q
  | bl b => cases (show u = Value.bool b from r); exact q
  | int i => obtain ⟨t, e⟩ := (show ∃ t, u = Value.int i t from r); cases e; exact q
  | str z => obtain ⟨t, e⟩ := (show ∃ t, u = Value.str z t from r); cases e; exact q
  | byt z => obtain ⟨t, e⟩ := (show ∃ t, u = Value.bytes z t from r); cases e; exact q
  | flt z => obtain ⟨t, e⟩ := (show ∃ t, u = Value.float z t from r); cases e; exact q
  | ref a => cases (show u = Value.ref a from r); exact q
  | ty n => cases (show u = Value.type n from r); exact q

variable {k : Nat} {f C D : Addr} {fd : FuncData} {ps : List Str} {sp : Sp} {E : XK} {op : Operator}
/-- a method for an operator: found in the class, a def -/
structure OpM (K : PySem.W.Frag) (C : Addr) (m : Str) (f : Addr) : Prop where
  at_ : PySem.W.findIn K (.ref C) m = some (some (.ref f))
  fn : PySem.W.isFn K (.ref f) = true
/-- both of one class -/
def rOwn (C : Addr) (sp : Sp) (E : XK) : R2 := fun x y H Q => ∃ a dx fs b dy gs, x = .ref a ∧ y = .ref b ∧ H a = some (.ins C dx fs) ∧ H b = some (.ins C dy gs) ∧ sp [x, y] H Q E
theorem op_own {CX : CXT} (F : FnOk X.prog X.w X.K X.mg X.base CX k f fd ps sp) (hr : Room k X.A) (hb : Binds X.K fd ps []) (hx : Passes CX X E) (m : OpM X.K C (PySem.dunder op.info.2) f) (hc : PySem.W.selfFirst X.K C = true) :
    OpR X (binaryOp op) (rOwn C sp E) := by
  intro pins s σ H x y v u Q I rx ry h
  obtain ⟨a, dx, fs, b, dy, gs, rfl, rfl, ea, eb, q⟩ := h
  obtain rfl : v = Value.ref a := rx
  obtain rfl : u = Value.ref b := ry
  obtain ⟨mA, O, _⟩ := ins_get I.hok ea
  obtain ⟨od, J, _⟩ := O.look
  obtain ⟨mB, O2, _⟩ := ins_get I.hok eb
  obtain ⟨od2, J2, _⟩ := O2.look
  obtain ⟨mm, fr⟩ := I.fr
  refine PySem.W.binop_K fr I.ok.mod.kin J J2.type hc m.at_ m.fn ?_
  refine wpAny_mono (run_fn (us := [.ref a, .ref b]) (vs := [.ref a, .ref b]) F hr hb .nil hx I (.cons rfl (.cons rfl .nil)) q) (fun w s' hw => ?_) fun _ _ e => e
  obtain ⟨z, H', I', rz, qz⟩ := hw
  exact mono_rel rz ⟨z, H', I', rz, qz⟩
/-- unary minus -/
def rNeg (C : Addr) (sp : Sp) (E : XK) : V → Hp → VK → Prop := fun x H Q => ∃ a dx fs, x = .ref a ∧ H a = some (.ins C dx fs) ∧ sp [x] H Q E
theorem un_own {CX : CXT} (F : FnOk X.prog X.w X.K X.mg X.base CX k f fd ps sp) (hr : Room k X.A) (hb : Binds X.K fd ps []) (hx : Passes CX X E) (m : OpM X.K C "__neg__" f) :
    UnR X (unaryOp .USub) (rNeg C sp E) := by
  intro pins s σ H x v Q I rx h
  obtain ⟨a, dx, fs, rfl, ea, q⟩ := h
  obtain rfl : v = Value.ref a := rx
  obtain ⟨mA, O, _⟩ := ins_get I.hok ea
  obtain ⟨od, J, _⟩ := O.look
  unfold unaryOp
  refine wpAny_holding ?_
  show wpAny _ _ (callSpecial? (.ref a) "__neg__" >>= _) _ _ _
  refine wpAny_bind (PySem.W.special_fn I.kIn J m.at_ (beq_iff_eq.mp m.fn) ?_)
  refine wpAny_mono (run_fn (us := [.ref a]) (vs := [.ref a]) F hr hb .nil hx I (.cons rfl .nil) q) (fun w s' hw => ?_) fun _ _ e => e
  exact wpAny_pure hw
/-- == by the left operand's __eq__, the right operand anything whose type is known -/
def rEqO (K : PySem.W.Frag) (C : Addr) (sp : Sp) (E : XK) : R2 := fun x y H Q => ∃ a dx fs t, x = .ref a ∧ H a = some (.ins C dx fs) ∧ TyX K H y t ∧ PySem.W.notFirst K C t = true ∧ sp [x, y] H Q E
theorem op_eqO {CX : CXT} (F : FnOk X.prog X.w X.K X.mg X.base CX k f fd ps sp) (hr : Room k X.A) (hb : Binds X.K fd ps []) (hx : Passes CX X E) (m : OpM X.K C "__eq__" f) :
    OpR X (compareOp .Eq) (rEqO X.K C sp E) := by
  intro pins s σ H x y v u Q I rx ry h
  obtain ⟨a, dx, fs, t, rfl, ea, ty, hn, q⟩ := h
  obtain rfl : v = Value.ref a := rx
  obtain ⟨mA, O, _⟩ := ins_get I.hok ea
  obtain ⟨od, J, _⟩ := O.look
  obtain ⟨mm, fr⟩ := I.fr
  obtain ⟨P, Z, hp, hne⟩ := kit_of I ry ty
  show wpAny _ _ (richCompare .Eq (.ref a) u) _ _ _
  have lk : PySem.W.Looks (model X.prog X.w) s.heap (typeOf u) t := Z.ty _ _ I.kIn hp
  refine PySem.W.cmp_K hr.units0 fr I.ok.mod.kin J lk hn m.at_ m.fn ?_
  refine wpAny_mono (run_fn (us := [.ref a, u]) (vs := [.ref a, y]) F hr hb .nil hx I (.cons rfl (.cons ry .nil)) q) (fun w s' hw => ?_) fun _ _ e => e
  obtain ⟨z, H', I', rz, qz⟩ := hw
  exact mono_rel rz ⟨z, H', I', rz, qz⟩
end
end G

/-! Sizes of numbers, told by a number of bits. -/
namespace G
open PySem PySem.Spec L2
/-- below 2 ^ n in size; a word, so that no number of that size is reckoned with -/
def Bt (n : Nat) (i : Int) : Prop := i.natAbs < 2 ^ n
instance {n : Nat} {i : Int} : Decidable (Bt n i) := inferInstanceAs (Decidable (i.natAbs < 2 ^ n))
section
variable {a b n : Nat} {i j : Int}
theorem Bt.mono (x : Bt a i) (h : a ≤ b) : Bt b i := Nat.lt_of_lt_of_le x (Nat.pow_le_pow_right (by decide) h)
theorem Bt.of_le (x : Bt a j) (h : i.natAbs ≤ j.natAbs) : Bt a i := Nat.lt_of_le_of_lt h x
theorem Bt.any : Bt (i.natAbs.log2 + 1) i := Nat.lt_log2_self
theorem Bt.neg (x : Bt a i) : Bt a (-i) := by unfold Bt; rw [Int.natAbs_neg]; exact x
theorem two_max (x : i.natAbs < 2 ^ a) (y : j.natAbs < 2 ^ b) : i.natAbs + j.natAbs < 2 ^ (max a b + 1) := by
  have h1 : 2 ^ a ≤ 2 ^ max a b := Nat.pow_le_pow_right (by decide) (Nat.le_max_left a b)
  have h2 : 2 ^ b ≤ 2 ^ max a b := Nat.pow_le_pow_right (by decide) (Nat.le_max_right a b)
  rw [Nat.pow_succ]
  omega
theorem Bt.add (x : Bt a i) (y : Bt b j) : Bt (max a b + 1) (i + j) := Nat.lt_of_le_of_lt (Int.natAbs_add_le i j) (two_max x y)
theorem Bt.sub (x : Bt a i) (y : Bt b j) : Bt (max a b + 1) (i - j) := by
  have h := Bt.add x y.neg
  rw [← Int.sub_eq_add_neg] at h
  exact h
theorem Bt.mul (x : Bt a i) (y : Bt b j) : Bt (a + b) (i * j) := by
  unfold Bt
  rw [Int.natAbs_mul, Nat.pow_add]
  exact Nat.mul_lt_mul'' x y
theorem Bt.pow3 (x : Bt a i) : Bt (a + a + a) (i ^ 3) := by
  have h := Bt.mul (Bt.mul x x) x
  rw [show i ^ 3 = i * i * i from by rw [show (3 : Nat) = 2 + 1 from rfl, Int.pow_succ, Int.pow_succ, Int.pow_succ, Int.pow_zero, Int.one_mul]]
  exact h
theorem Bt.mod (h : 0 < j) (y : Bt b j) : Bt b (i % j) := by
  have h1 := Int.emod_nonneg i (show j ≠ 0 by omega)
  have h2 := Int.emod_lt_of_pos i h
  exact y.of_le (by omega)
theorem Bt.div (h : 0 < j) (x : Bt a i) : Bt a (i / j) := by
  refine x.of_le ?_
  have e := Int.natAbs_ediv_le_natAbs i j
  exact e
theorem Bt.abs (x : Bt a i) : Bt a (if i < 0 then -i else i) := by
  split
  · exact x.neg
  · exact x
theorem Bt.log2 (x : Bt a i) (h : 0 < a) : i.natAbs.log2 < a := PySem.Flt.log2_lt_of h x
theorem Bt.log2' (x : Bt a i) : i.natAbs.log2 ≤ a := by
  by_cases h : 0 < a
  · exact Nat.le_of_lt (x.log2 h)
  · have e : a = 0 := by omega
    subst e
    have z : i.natAbs = 0 := by have := x; unfold Bt at this; omega
    rw [z]
    decide
theorem Bt.ltI (x : Bt a i) : i < 2 ^ a := by
  have h : (i.natAbs : Int) < ((2 ^ a : Nat) : Int) := Int.ofNat_lt.mpr x
  have e : ((2 ^ a : Nat) : Int) = (2 : Int) ^ a := by simp
  omega
theorem mulOk (x : Bt a i) (y : Bt b j) (h : decide (a + b < 1000000) = true) : CMulW i j := by
  have := x.log2'
  have := y.log2'
  have := of_decide_eq_true h
  unfold CMulW
  omega
theorem divOk (h : 0 < j) (y : Bt b j) (h9 : decide (b < 9000) = true) : CDivW i j := ⟨h, Nat.lt_of_le_of_lt y.log2' (of_decide_eq_true h9)⟩
theorem powOk (x : Bt a i) (h0 : decide (0 ≤ j ∧ j ≤ 64) = true) (h : decide (a < 1000000) = true) : CPowW i j :=
  ⟨(of_decide_eq_true h0).1, (of_decide_eq_true h0).2, Nat.lt_of_le_of_lt x.log2' (of_decide_eq_true h)⟩
theorem powLit (h : decide (0 ≤ j ∧ j ≤ 64 ∧ i.natAbs.log2 < 1000000) = true) : CPowW i j := by
  have z : 0 ≤ j ∧ j ≤ 64 ∧ i.natAbs.log2 < 1000000 := of_decide_eq_true h
  exact z
end
end G
namespace G
open PySem PySem.Spec L2
section
theorem w_two {a b : Int} {P : Int → Int → Prop} (q : P a b) : ∃ i j, [V.int a, V.int b] = [V.int i, V.int j] ∧ P i j := ⟨a, b, rfl, q⟩
theorem w_one {a : Int} {P : Int → Prop} (q : P a) : ∃ i, [V.int a] = [V.int i] ∧ P i := ⟨a, rfl, q⟩
end
end G
namespace G
open PySem PySem.Spec L2
/-- a written power -/
theorem w_powN {i j : Int} {n : Nat} {H : Hp} {Q : VK} (e : j = (n : Int)) (h : decide (0 ≤ j ∧ j ≤ 64 ∧ i.natAbs.log2 < 1000000) = true) (q : Q (.int (i ^ n)) H) :
    rI CPowW (fun i j => .int (i ^ j.toNat)) (.int i) (.int j) H Q := ⟨i, j, rfl, rfl, powLit h, by
  have z : j.toNat = n := by omega
  show Q (.int (i ^ j.toNat)) H
  rw [z]
  exact q⟩
theorem w_powV {i j : Int} {n a : Nat} {H : Hp} {Q : VK} (e : j = (n : Int)) (x : Bt a i) (h0 : decide (0 ≤ j ∧ j ≤ 64) = true) (h : decide (a < 1000000) = true) (q : Q (.int (i ^ n)) H) :
    rI CPowW (fun i j => .int (i ^ j.toNat)) (.int i) (.int j) H Q := ⟨i, j, rfl, rfl, powOk x h0 h, by
  have z : j.toNat = n := by omega
  show Q (.int (i ^ j.toNat)) H
  rw [z]
  exact q⟩
end G
namespace G
open PySem PySem.Spec PyProof.Rows L2
/-- a ** b, both written: the number c -/
theorem pe_powc {X : Cx} {a b c : Int} {p1 p2 pos : Pos} {k1 k2} (h : decide (0 ≤ b ∧ b ≤ 64 ∧ a.natAbs.log2 < 1000000) = true) (e : a ^ b.toNat = c) :
    PE X (.BinOp (.Constant (.int a) k1 p1) .Pow (.Constant (.int b) k2 p2) pos) (tC (.int c)) := by
  have t := pe_op (X := X) (pos := pos) op_powW (pe_int (i := a) (j := k1) (pos := p1)) (pe_int (i := b) (j := k2) (pos := p2))
  refine ⟨fun pins s σ H Q I q => t.run pins s σ H Q I ?_⟩
  refine ⟨a, b, rfl, rfl, powLit h, ?_⟩
  show Q (.int (a ^ b.toNat)) H
  rw [e]
  exact q
end G
namespace G
open PySem PySem.Spec PyProof.Rows L2
section
variable {X : Cx} {CX : CXT} {k : Nat} {f : Addr} {fd : FuncData} {ps ks : List Str} {sp : Sp} {E : XK} {x : Str} {p pos : Pos} {kws : List Keyword} {tk : TA} {g : List Value → List Value → List Value} {gV : List V → List V → List V}
/-- f(k = v, ..) -/
theorem pe_callN0 (F : FnOk X.prog X.w X.K X.mg X.base CX k f fd ps sp) (hr : Room k X.A) (hg : Gl X x) (hm : X.mg x = some (.ref f)) (hk : PySem.W.keepIn X.K (.ref f) = true) (hb : KBn X.K fd ps 0 ks g gV) (hx : Passes CX X E)
    (hkw : PK X kws tk) (hall : (backToKw pos (keywordEach kws X.env)).all (·.1.isSome) = true := by rfl) (hks : (backToKw pos (keywordEach kws X.env)).filterMap (·.1) = ks := by rfl) (hdb : (x == ("__debug__" : Str)) = false := by decide)
    (hpl : ((backTo pos (starEach [] X.env)).any (·.1) || (backToKw pos (keywordEach kws X.env)).any (·.1.isNone)) = false := by rfl) :
    PE X (.Call (.Name x p) [] kws pos) (tCallN 0 ks.length sp gV E tNil tk) := by
  refine ⟨fun pins s σ H Q I h => wpAny_Call_Name_kw (ld_glob I hg hm ?_ hdb)⟩
  refine PySem.W.callWith_KW0 (h₀ := X.base) I.ok.mod.kin hk hall ?_ hpl
  refine thn (hkw.run pos pins s σ H _ I h) fun ws s2 ⟨zs, H2, I2, rz, l1, l2, q2⟩ => ⟨I2.kIn, ?_⟩
  rw [hks]
  exact run_fnN (us := []) (vs := []) F hr hb hx I2 .nil rz rfl l2 q2
/-- every parameter by its name, in their order -/
theorem kbn_all {K : PySem.W.Frag} (h : ∀ ws : List Value, ws.length = ks.length → bindArgs fd ⟨[], ks.zip ws⟩ = pure (ps.zip ws)) : KBn K fd ps 0 ks (fun _ ws => ws) (fun _ zs => zs) :=
  ⟨fun s us ws _ l1 l2 => by
    have e : us = [] := List.length_eq_zero_iff.mp l1
    subst e
    exact .of_eq (h ws l2), fun _ r => r⟩
end
end G
namespace G
open PySem PySem.Spec L2
section
variable {H : Hp} {Q : VK} {K : PySem.W.Frag}
theorem w_isB {a b : Bool} (q : Q (.bl (decide (a = b))) H) : rIsB (.bl a) (.bl b) H Q := ⟨a, b, rfl, rfl, q⟩
theorem w_notB {a b : Bool} (q : Q (.bl (!decide (a = b))) H) : rNotB (.bl a) (.bl b) H Q := ⟨a, b, rfl, rfl, q⟩
/-- a text against itself -/
theorem w_neS {s : Str} (q : Q (.bl false) H) : rNe (.str s) (.str s) H Q := ⟨rfl, by
  show Q (.bl (!decide (V.str s = V.str s))) H
  rw [decide_eq_true (rfl : V.str s = V.str s)]
  exact q⟩
theorem w_eqS {s : Str} (q : Q (.bl true) H) : rEq (.str s) (.str s) H Q := ⟨rfl, by
  show Q (.bl (decide (V.str s = V.str s))) H
  rw [decide_eq_true (rfl : V.str s = V.str s)]
  exact q⟩
theorem w_repr {a : Addr} {d : PyData} (hd : Dp K H (.ref a) d) (hl : lim d) (q : Q (.str d.shown) H) (hc : decide (cnt d ≤ 8000) = true := by rfl) (hp : decide (d.depth ≤ 40) = true := by rfl) : rRepr K [.ref a] H Q := ⟨a, d, rfl, hd, hl, of_decide_eq_true hc, of_decide_eq_true hp, q⟩
theorem w_eqD {x y : V} {d e : PyData} {b : Bool} (hd : Dp K H x d) (he : Dp K H y e) (sd : SeqAt.shaped d = true) (se : SeqAt.shaped e = true) (h : PyData.eqv d e = b) (q : Q (.bl b) H) : rEqD K x y H Q := ⟨d, e, hd, he, sd, se, by rw [h]; exact q⟩
theorem w_neD {x y : V} {d e : PyData} {b : Bool} (hd : Dp K H x d) (he : Dp K H y e) (sd : SeqAt.shaped d = true) (se : SeqAt.shaped e = true) (h : PyData.eqv d e = b) (q : Q (.bl (!b)) H) : rNeD K x y H Q := ⟨d, e, hd, he, sd, se, by rw [h]; exact q⟩
theorem Bt.lim {n : Nat} {i : Int} (x : Bt n i) (h : n ≤ 1900) : lim (.int i) := by
  simp only [G.lim]
  exact Bt.mono x h
/-- a pair of ints -/
def prd (p : Int × Int) : PyData := .tuple [.int p.1, .int p.2]
theorem prd_lim {p : Int × Int} (h1 : Bt 1900 p.1) (h2 : Bt 1900 p.2) : G.lim (prd p) := by
  simp only [prd, G.lim, G.limAll]
  exact ⟨h1, h2, trivial⟩
theorem prd_dp {a : Addr} {i j : Int} (h : H a = some (.tup [.int i, .int j])) : Dp K H (.ref a) (prd (i, j)) := .tup (SqT.of h) (.cons (.int i) (.cons (.int j) .nil))
theorem prd_shaped (p : Int × Int) : SeqAt.shaped (prd p) = true := by rfl
end
end G
namespace G
open PySem PySem.Spec L2
section
variable {H : Hp} {Q : VK} {K : PySem.W.Frag}
/-- xs * k -/
theorem w_rep {l : Addr} {k : Int} {xs ys : List V} (h : H l = some (.lst xs)) (hk : decide (0 ≤ k ∧ k ≤ 1000) = true) (hz : decide (xs.length ≤ 1000) = true) (e : (List.replicate k.toNat xs).flatten = ys)
    (q : ∀ p H', H p = none → Same H H' → H' p = some (.lst ys) → Q (.ref p) H') : rRep (.ref l) (.int k) H Q := by
  have hk := of_decide_eq_true hk
  have hz := of_decide_eq_true hz
  refine ⟨l, k, xs, rfl, rfl, h, by omega, by omega, ?_, fun p hp => ?_⟩
  · rw [show sizeLine = 16777216 from sizeLine_eq]
    have h1 : xs.length * k.toNat ≤ 1000 * 1000 := Nat.mul_le_mul hz (by omega)
    omega
  · rw [e]
    exact q p _ hp (same_new hp) upd_same
/-- xs + ys -/
theorem w_cat {l b : Addr} {xs ys : List V} (h : H l = some (.lst xs)) (h' : H b = some (.lst ys)) (hz : xs.length + ys.length ≤ 1000000)
    (q : ∀ p H', H p = none → Same H H' → H' p = some (.lst (xs ++ ys)) → Q (.ref p) H') : rCat (.ref l) (.ref b) H Q :=
  ⟨l, b, xs, ys, rfl, rfl, h, h', by rw [show sizeLine = 16777216 from sizeLine_eq]; omega, fun p hp => q p _ hp (same_new hp) upd_same⟩
/-- {} -/
theorem w_dnew {σ : L2.St} (q : ∀ p H', H p = none → Same H H' → H' p = some (.dK []) → Q (.ref p) H') : tDNewK σ H Q := fun p hp => q p _ hp (same_new hp) upd_same
/-- str(n) -/
theorem w_strI {i : Int} {P : Int → Prop} (h : Bt 1900 i) (q : P i) : ∃ j : Int, [V.int i] = [V.int j] ∧ j.natAbs.log2 < 1920 ∧ P j :=
  ⟨i, rfl, Nat.lt_of_le_of_lt h.log2' (by decide), q⟩
theorem w_strI2 {i : Int} {P : Prop} (h : Bt 1900 i) (q : P) : i.natAbs.log2 < 1920 ∧ P := ⟨Nat.lt_of_le_of_lt h.log2' (by decide), q⟩
theorem Same.src {H H' : Hp} {b : Addr} {o : HO} (e : Same H H') (h : H b = some o) : H' b = some o := e b o h
end
end G
namespace G
open PySem PySem.Spec PyProof.Rows L2
section
variable {X : Cx}
/-- xs + ys, lists that are read only -/
def rCatL (K : PySem.W.Frag) : R2 := fun x y H Q => ∃ l b xs zs, x = .ref l ∧ y = .ref b ∧ SqL K H l xs ∧ SqL K H b zs ∧ xs.length + zs.length ≤ 1000000 ∧ ∀ p H', H p = none → Same H H' → H' p = some (.lst (xs ++ zs)) → Q (.ref p) H'
theorem op_catL : OpR X (binaryOp .Add) (rCatL X.K) := by
  intro pins s σ H x y v u Q I rx ry h
  obtain ⟨l, b, xs, zs, rfl, rfl, hH, hB, hz, q⟩ := h
  obtain rfl : v = Value.ref l := rx
  obtain rfl : u = Value.ref b := ry
  obtain ⟨its, r, ⟨⟨cls, dd, data, sl⟩, n, ho, hc, _, hd⟩, _⟩ := I.list hH
  obtain ⟨its2, r2, ⟨⟨cls2, dd2, data2, sl2⟩, n2, ho2, hc2, _, hd2⟩, _⟩ := I.list hB
  simp only at hc hd hc2 hd2
  subst hc hd hc2 hd2
  have e : its.toArray ++ its2.toArray = (its ++ its2).toArray := by simp
  have l1 := r.length
  have l2 := r2.length
  have z : xs.length + zs.length ≤ sizeLine := by rw [show sizeLine = 16777216 from sizeLine_eq]; omega
  refine concat_meets ⟨_, ho, rfl⟩ ⟨_, ho2, rfl⟩ noFill_list_add seq_list_add PySem.F.slot_list_add PySem.F.entry_list_add (PySem.F.args_list_add_2 _ _)
    (list_addW l b its.toArray its2.toArray n n2 dd dd2 sl sl2 (by rw [List.size_toArray, List.size_toArray]; omega)) ⟨ho, ho2, ?_⟩
  rw [e]
  exact ⟨.ref _, _, I.lnew (t' := s.toks) (r.append r2) (by rw [List.length_append]; omega), rfl, q _ _ I.fresh (same_new I.fresh) upd_same⟩
end
section
variable {σ : L2.St} {H : Hp} {Q : VK} {K : PySem.W.Frag} {a : Addr} {D : Ends} {tr : TA} {tb : TS}
theorem w_iEnum {R : It → Hp → Prop} (q : tr σ H fun vs H1 => ∃ a xs, vs = [.ref a] ∧ SqL K H1 a xs ∧ R (Ite K a) H1) : iEnum K tr σ H R := q
/-- for i, x in enumerate(xs) -/
theorem w_walkE {n i1 i2 : Nat} {xs : List V} (hl : SqL K H a xs) (hn : n = 2) (Pv : Nat → L2.St → Hp → Prop) (h0 : Pv 0 σ H) (hk : ∀ i σ' H', i ≤ xs.length → Pv i σ' H' → SqL K H' a xs)
    (hs : ∀ (i : Nat) x σ' H' H2, xs[i]? = some x → Pv i σ' H' → Same H' H2 → tb { nx := Pv (i + 1), rt := D.rt, ct := Pv (i + 1), bk := D.nx } ((σ'.set i1 (some (.int (i : Int)))).set i2 (some x)) H2) (hd : ∀ σ' H', Pv xs.length σ' H' → D.nx σ' H') :
    ∃ b ys, [V.ref a] = [.ref b] ∧ SqL K H b ys ∧ ForW (Ite K b) (gTup K n (gCons (gName i1) (gCons (gName i2) gNil))) tb D σ H := by
  subst hn
  refine ⟨a, xs, rfl, hl, for_it walk_enum Pv h0 hk ?_ hd⟩
  rintro i x σ' H' H2 hi hp ⟨T, y, z, rfl, hT, rfl, hy, hz⟩
  cases hy
  refine ⟨T, _, rfl, SqT.of upd_same, rfl, _, _, rfl, _, _, rfl, rfl, hs i z σ' H' _ hz hp (same_new hT)⟩
/-- slices -/
theorem w_sl {r : V → Option Int → Option Int → Hp → VK → Prop} {te : TE} {tl th : TO} (q : te σ H fun x H1 => tl σ H1 fun l H2 => th σ H2 fun u H3 => r x l u H3 Q) : tSl r te tl th σ H Q := q
theorem w_slL {p : Addr} {xs : List V} {l u : Option Int} (h : SqL K H p xs) (k : ∀ q H', H q = none → Same H H' → H' q = some (.lst (cutV xs l u)) → Q (.ref q) H') : rSlL K (.ref p) l u H Q :=
  ⟨p, xs, rfl, h, fun q hq => k q _ hq (same_new hq) upd_same⟩
/-- len of a list -/
theorem w_lenL {p : Addr} {xs : List V} {R : Nat → Prop} (h : SqL K H p xs) (q : R xs.length) : ∃ x n, [V.ref p] = [x] ∧ LenV K x H n ∧ R n := ⟨.ref p, xs.length, rfl, .inl ⟨xs, h, rfl⟩, q⟩
theorem w_noPart {R : Option Int → Hp → Prop} (q : R none H) : tNoPart σ H R := q
theorem w_part {te : TE} {R : Option Int → Hp → Prop} (q : te σ H fun x H1 => ∃ i, x = .int i ∧ R (some i) H1) : tPart te σ H R := q
theorem w_int {i : Int} {P : Int → Prop} (q : P i) : ∃ j, V.int i = .int j ∧ P j := ⟨i, rfl, q⟩
theorem dp_ints {ns : List Int} (h : SqL K H a (ns.map V.int)) : Dp K H (.ref a) (.list (ns.map PyData.int)) := by
  refine .lst h ?_
  clear h
  induction ns with
  | nil => exact .nil
  | cons n r ih => exact .cons (.int n) ih
theorem shaped_ints (ns : List Int) : SeqAt.shaped (.list (ns.map PyData.int)) = true := by
  have h1 : PyData.canLayAll0 (ns.map PyData.int) = true := by
    induction ns with
    | nil => simp only [List.map_nil, PyData.canLayAll0]
    | cons n r ih => simp only [List.map_cons, PyData.canLayAll0, PyData.canLay0, ih, Bool.and_self]
  have h2 : PyData.depthAll (ns.map PyData.int) = 0 := by
    clear h1
    induction ns with
    | nil => simp only [List.map_nil, PyData.depthAll]
    | cons n r ih => simp only [List.map_cons, PyData.depthAll, PyData.depth, ih, Nat.max_self]
  unfold SeqAt.shaped
  simp only [PyData.canLay0, PyData.depth, h1, h2]
  rfl
theorem cut_mem {xs : List V} {lo hi : Option Int} {x : V} (h : x ∈ cutV xs lo hi) : x ∈ xs := List.mem_of_mem_drop (List.mem_of_mem_take h)
theorem cut_len {xs : List V} {lo hi : Option Int} : (cutV xs lo hi).length ≤ xs.length := by
  unfold cutV
  rw [List.length_take, List.length_drop]
  omega
end
end G

/-! The laws' draws; ratios; what is promised of the small defs. -/
namespace G
open PySem PySem.Spec L2
/-- the numbers that are drawn from stand at a; so many at most were drawn -/
def Src (b : Nat) (H : Hp) (a : Addr) : Prop := ∃ x y z : Int, H a = some (.lst [.int x, .int y, .int z]) ∧ 0 ≤ x ∧ 0 ≤ y ∧ Bt 260 y ∧ 0 ≤ z ∧ z ≤ b
theorem Src.mono {b c : Nat} {H : Hp} {a : Addr} (h : Src b H a) (l : b ≤ c) : Src c H a := let ⟨x, y, z, h1, h2, h3, h4, h5, h6⟩ := h; ⟨x, y, z, h1, h2, h3, h4, h5, by omega⟩
theorem Src.new {b : Nat} {H : Hp} {a p : Addr} {o : HO} (h : Src b H a) (n : H p = none) : Src b (upd H p o) a :=
  let ⟨x, y, z, h1, h2⟩ := h; ⟨x, y, z, by rw [upd_ne (ne_of_none h1 n)]; exact h1, h2⟩
theorem Src.same {b : Nat} {H H' : Hp} {a : Addr} (h : Src b H a) (e : Same H H') : Src b H' a :=
  let ⟨x, y, z, h1, h2⟩ := h; ⟨x, y, z, e _ _ h1, h2⟩
theorem Src.ne {b : Nat} {H : Hp} {a p : Addr} (h : Src b H a) (n : H p = none) : p ≠ a := let ⟨_, _, _, h1, _⟩ := h; (ne_of_none h1 n).symm
theorem upd_twice {H : Hp} {a : Addr} {o u : HO} : upd (upd H a o) a u = upd H a u := by
  funext b
  unfold upd
  by_cases h : b = a
  · rw [if_pos h, if_pos h]
  · rw [if_neg h, if_neg h, if_neg h]
/-- the attributes of a ratio -/
def rf (i j : Int) : List (Str × V) := putF "_bottom" (.int j) (putF "_top" (.int i) [])
theorem rf_top (i j : Int) : (rf i j).lookup ("_top" : Str) = some (.int i) := by
  unfold rf
  rw [lookup_putF, if_neg (by decide +kernel), lookup_putF, if_pos rfl]
theorem rf_bottom (i j : Int) : (rf i j).lookup ("_bottom" : Str) = some (.int j) := by
  unfold rf
  rw [lookup_putF, if_pos rfl]
/-- a ratio stands at p -/
def Rat (C : Addr) (H : Hp) (p : Addr) (i j : Int) : Prop := ∃ dx, H p = some (.ins C dx (rf i j))
/-! ### the promises -/
/-- is_whole of an int -/
def spWhole : Sp := fun vs H Q _ => ∃ i, vs = [.int i] ∧ Q (.bl true) H
def spInit (C : Addr) : Sp := fun vs H Q _ => ∃ (p dx : Addr) (i j : Int), vs = [.ref p, .int i, .int j] ∧ 0 < j ∧ Bt 8000 j ∧ H p = some (.ins C dx []) ∧
  Q .non (upd H p (.ins C dx (rf (i / (Int.gcd i j : Int)) (j / (Int.gcd i j : Int)))))
def spIsR (K : PySem.W.Frag) (C : Addr) : Sp := fun vs H Q _ => ∃ x t b, vs = [x] ∧ TyX K H x t ∧ PySem.W.kitOne K t (.ref C) = some b ∧ Q (.bl b) H
def spSource : Sp := fun vs H Q _ => ∃ c k : Int, vs = [.int c, .int k] ∧ 0 ≤ k ∧ Bt 60 k ∧ ∀ p H', H p = none → Same H H' → Src 0 H' p → Q (.ref p) H'
def spDraw : Sp := fun vs H Q _ => ∃ a n b, vs = [.ref a, .int n] ∧ Src b H a ∧ b < 2 ^ 60 ∧ 0 < n ∧ Bt 2000 n ∧
  ∀ d H', 0 ≤ d → d < n → Src (b + 1) H' a → Fr a H H' → Q (.int d) H'
def spSize : Sp := fun vs H Q _ => ∃ a b, vs = [.ref a] ∧ Src b H a ∧ b < 2 ^ 60 ∧ ∀ n H', 3 ≤ n → n ≤ 10 ^ 31 → Src (b + 1) H' a → Fr a H H' → Q (.int n) H'
def spPair : Sp := fun vs H Q _ => ∃ a b, vs = [.ref a] ∧ Src b H a ∧ b + 10 < 2 ^ 60 ∧
  ∀ i j p H', i.natAbs < 10 ^ 31 → 0 < j → j < 10 ^ 31 → H' p = some (.tup [.int i, .int j]) → p ≠ a → Src (b + 10) H' a → Fr a H H' → Q (.ref p) H'
def spLowest (K : PySem.W.Frag) : Sp := fun vs H Q _ => ∃ p i j, vs = [.ref p] ∧ SqT K H p [.int i, .int j] ∧ 0 < j ∧ Bt 8000 i ∧ Bt 8000 j ∧
  ∀ q H', H q = none → Same H H' → H' q = some (.tup [.int (i / (Int.gcd i j : Int)), .int (j / (Int.gcd i j : Int))]) → Q (.ref q) H'
def spSeen (C : Addr) : Sp := fun vs H Q _ => ∃ p i j, vs = [.ref p] ∧ Rat C H p i j ∧ ∀ q H', H q = none → Same H H' → H' q = some (.tup [.int i, .int j]) → Q (.ref q) H'
/-- one of the five sizes -/
theorem size_at {d : Int} (h0 : 0 ≤ d) (h1 : d < 5) : ∃ n : Int, 3 ≤ n ∧ n ≤ 10 ^ 31 ∧ atI [V.int 3, V.int 12, V.int 1000000, V.int 1000000000000000, V.int 10000000000000000000000000000000] d = some (.int n) := by
  have c : d = 0 ∨ d = 1 ∨ d = 2 ∨ d = 3 ∨ d = 4 := by omega
  rcases c with rfl | rfl | rfl | rfl | rfl
  · exact ⟨3, by decide, by decide, rfl⟩
  · exact ⟨12, by decide, by decide, rfl⟩
  · exact ⟨1000000, by decide, by decide, rfl⟩
  · exact ⟨1000000000000000, by decide, by decide, rfl⟩
  · exact ⟨10000000000000000000000000000000, by decide, by decide, rfl⟩
theorem sign_at {d : Int} (h0 : 0 ≤ d) (h1 : d < 3) : ∃ n : Int, (n = 1 ∨ n = -1) ∧ atI [V.int 1, V.int 1, V.int (-1)] d = some (.int n) := by
  have c : d = 0 ∨ d = 1 ∨ d = 2 := by omega
  rcases c with rfl | rfl | rfl
  · exact ⟨1, .inl rfl, rfl⟩
  · exact ⟨1, .inl rfl, rfl⟩
  · exact ⟨-1, .inr rfl, rfl⟩
theorem bt_31 {n : Int} (h0 : 0 ≤ n) (h : n ≤ 10 ^ 31) : Bt 104 n := by
  unfold Bt
  omega
theorem ratio_of {C : Addr} {H : Hp} {i j : Int} {Q : Addr → Hp → Prop} {E : XK} (hj : 0 < j) (bj : Bt 8000 j) (q : ∀ x H2, H x = none → Same H H2 → Rat C H2 x (i / (Int.gcd i j : Int)) (j / (Int.gcd i j : Int)) → Q x H2) :
    ∀ x dx, H x = none → H dx = none → dx ≠ x → spInit C [.ref x, .int i, .int j] (upd (upd H dx (.own x)) x (.ins C dx [])) (fun v H2 => v = .non ∧ Q x H2) E := by
  intro x dx hx hd hne
  refine ⟨x, dx, i, j, rfl, hj, bj, upd_same, rfl, ?_⟩
  refine q x _ hx (fun c o h => ?_) ⟨dx, upd_same⟩
  rw [upd_ne (ne_of_none h hx), upd_ne (ne_of_none h hx), upd_ne (ne_of_none h hd)]
  exact h
/-- lowest terms: what is in them already -/
theorem low_pos {i j : Int} (h : 0 < j) : 0 < j / (Int.gcd i j : Int) := by
  have g := Int.gcd_pos_of_ne_zero_right i (show j ≠ 0 by omega)
  have d : (Int.gcd i j : Int) ∣ j := Int.gcd_dvd_right i j
  exact Int.ediv_pos_of_pos_of_dvd h (by omega) d
theorem low_gcd {i j : Int} (h : 0 < j) : Int.gcd (i / (Int.gcd i j : Int)) (j / (Int.gcd i j : Int)) = 1 :=
  Int.gcd_ediv_gcd_ediv_gcd (Int.gcd_pos_of_ne_zero_right i (show j ≠ 0 by omega))
theorem low_bt {n : Nat} {i j : Int} (h : 0 < j) (x : Bt n i) : Bt n (i / (Int.gcd i j : Int)) := by
  have g := Int.gcd_pos_of_ne_zero_right i (show j ≠ 0 by omega)
  exact Bt.div (by omega) x
theorem low_bt_b {n : Nat} {i j : Int} (h : 0 < j) (x : Bt n j) : Bt n (j / (Int.gcd i j : Int)) := by
  have g := Int.gcd_pos_of_ne_zero_right i (show j ≠ 0 by omega)
  exact Bt.div (by omega) x
theorem low_again {i j : Int} (h : Int.gcd i j = 1) : i / (Int.gcd i j : Int) = i ∧ j / (Int.gcd i j : Int) = j := by
  rw [h]
  exact ⟨Int.ediv_one i, Int.ediv_one j⟩
theorem Rat.same {C : Addr} {H H' : Hp} {p : Addr} {i j : Int} (h : Rat C H p i j) (e : Same H H') : Rat C H' p i j := let ⟨dx, h⟩ := h; ⟨dx, e _ _ h⟩
/-- no ratio, now and in all heaps that grow out of this one -/
def NotR (K : PySem.W.Frag) (C : Addr) (H : Hp) (x : V) : Prop := ∃ t, (∀ H', Same H H' → TyX K H' x t) ∧ PySem.W.kitOne K t (.ref C) = some false

/-! ### what stands where, from heap to heap -/
theorem tup_same {H H' : Hp} {p : Addr} {xs : List V} (h : H p = some (.tup xs)) (e : Same H H') : H' p = some (.tup xs) := e _ _ h
theorem tup_fr {b : Nat} {H H' : Hp} {a p : Addr} {xs : List V} (h : H p = some (.tup xs)) (s : Src b H a) (f : Fr a H H') : H' p = some (.tup xs) :=
  let ⟨_, _, _, k, _⟩ := s; f _ _ (ne_of h k (by intro z; cases z)) h
theorem lst_same {H H' : Hp} {p : Addr} {xs : List V} (h : H p = some (.lst xs)) (e : Same H H') : H' p = some (.lst xs) := e _ _ h
theorem lst_fr {H H' : Hp} {a p : Addr} {xs : List V} (h : H p = some (.lst xs)) (n : p ≠ a) (f : Fr a H H') : H' p = some (.lst xs) := f _ _ n h
theorem Rat.fr {b : Nat} {C : Addr} {H H' : Hp} {a p : Addr} {i j : Int} (h : Rat C H p i j) (s : Src b H a) (f : Fr a H H') : Rat C H' p i j :=
  let ⟨dx, h⟩ := h; let ⟨_, _, _, k, _⟩ := s; ⟨dx, f _ _ (ne_of h k (by intro z; cases z)) h⟩
/-! ### pairs in lowest terms -/
def low (i j : Int) : Int × Int := (i / (Int.gcd i j : Int), j / (Int.gcd i j : Int))
/-- in lowest terms, so many bits at most -/
def Lp (n : Nat) (x : Int × Int) : Prop := 0 < x.2 ∧ Int.gcd x.1 x.2 = 1 ∧ Bt n x.1 ∧ Bt n x.2
theorem Lp.low {n : Nat} {i j : Int} (h : 0 < j) (a : Bt n i) (b : Bt n j) : Lp n (G.low i j) := ⟨low_pos h, low_gcd h, low_bt h a, low_bt_b h b⟩
theorem Lp.mono {n m : Nat} {x : Int × Int} (h : Lp n x) (l : n ≤ m) : Lp m x := ⟨h.1, h.2.1, h.2.2.1.mono l, h.2.2.2.mono l⟩
theorem Lp.again {n : Nat} {x : Int × Int} (h : Lp n x) : G.low x.1 x.2 = x := by
  obtain ⟨h1, h2⟩ := low_again h.2.1
  unfold G.low
  rw [h1, h2]
end G
namespace G
open PySem PySem.Spec L2
/-! ### sums, differences, products of pairs: 0, 1, 2 -/
def jn (w : Int) (x y : Int × Int) : Int × Int := if w = 2 then low (x.1 * y.1) (x.2 * y.2) else low (x.1 * y.2 + (1 - 2 * w) * y.1 * x.2) (x.2 * y.2)
theorem jn_add (x y : Int × Int) : jn 0 x y = low (x.1 * y.2 + y.1 * x.2) (x.2 * y.2) := by
  unfold jn
  rw [if_neg (by decide), show (1 - 2 * 0 : Int) = 1 by decide, Int.one_mul]
theorem jn_sub (x y : Int × Int) : jn 1 x y = low (x.1 * y.2 - y.1 * x.2) (x.2 * y.2) := by
  unfold jn
  rw [if_neg (by decide), show (1 - 2 * 1 : Int) = -1 by decide, Int.neg_mul, Int.one_mul, Int.neg_mul, ← Int.sub_eq_add_neg]
theorem jn_mul (x y : Int × Int) : jn 2 x y = low (x.1 * y.1) (x.2 * y.2) := by
  unfold jn
  rw [if_pos rfl]
theorem jn_lp {a b : Nat} {w : Int} {x y : Int × Int} (h : w = 0 ∨ w = 1 ∨ w = 2) (hx : Lp a x) (hy : Lp b y) : Lp (a + b + 1) (jn w x y) := by
  obtain ⟨x1, x2, x3, x4⟩ := hx
  obtain ⟨y1, y2, y3, y4⟩ := hy
  have p := Int.mul_pos x1 y1
  have c : max (a + b) (b + a) + 1 ≤ a + b + 1 := by omega
  rcases h with rfl | rfl | rfl
  · rw [jn_add]
    exact Lp.low p ((Bt.add (Bt.mul x3 y4) (Bt.mul y3 x4)).mono c) ((Bt.mul x4 y4).mono (by omega))
  · rw [jn_sub]
    exact Lp.low p ((Bt.sub (Bt.mul x3 y4) (Bt.mul y3 x4)).mono c) ((Bt.mul x4 y4).mono (by omega))
  · rw [jn_mul]
    exact Lp.low p ((Bt.mul x3 y3).mono (by omega)) ((Bt.mul x4 y4).mono (by omega))
/-- an operator of two ratios -/
def spBin (C : Addr) (w : Int) : Sp := fun vs H Q _ => ∃ p q x y n, vs = [.ref p, .ref q] ∧ Rat C H p x.1 x.2 ∧ Rat C H q y.1 y.2 ∧ Lp n x ∧ Lp n y ∧ n ≤ 3500 ∧
  ∀ r H', H r = none → Same H H' → Rat C H' r (jn w x y).1 (jn w x y).2 → Q (.ref r) H'
def spNeg (C : Addr) : Sp := fun vs H Q _ => ∃ p x n, vs = [.ref p] ∧ Rat C H p x.1 x.2 ∧ Lp n x ∧ n ≤ 3500 ∧
  ∀ r H', H r = none → Same H H' → Rat C H' r (-x.1) x.2 → Q (.ref r) H'
/-- == of a ratio with a ratio, with any other value -/
def spEq (K : PySem.W.Frag) (C : Addr) : Sp := fun vs H Q _ =>
  (∃ (p q : Addr) (x y : Int × Int), vs = [.ref p, .ref q] ∧ Rat C H p x.1 x.2 ∧ Rat C H q y.1 y.2 ∧ Q (.bl (decide (x = y))) H) ∨
  (∃ (p : Addr) (x : Int × Int) (v : V) (t : Value), vs = [.ref p, v] ∧ Rat C H p x.1 x.2 ∧ TyX K H v t ∧ PySem.W.kitOne K t (.ref C) = some false ∧ Q (.bl false) H)
end G
namespace G
open PySem PySem.Spec L2
theorem ratio_lp {C : Addr} {H : Hp} {n : Nat} {x : Int × Int} {Q : Addr → Hp → Prop} {E : XK} (hx : Lp n x) (hn : decide (n ≤ 8000) = true) (q : ∀ r H2, H r = none → Same H H2 → Rat C H2 r x.1 x.2 → Q r H2) :
    ∀ r dx, H r = none → H dx = none → dx ≠ r → spInit C [.ref r, .int x.1, .int x.2] (upd (upd H dx (.own r)) r (.ins C dx [])) (fun v H2 => v = .non ∧ Q r H2) E :=
  ratio_of hx.1 (hx.2.2.2.mono (of_decide_eq_true hn)) fun r H2 n e R => q r H2 n e (by
    have z := hx.again
    unfold G.low at z
    have z1 : x.1 / (Int.gcd x.1 x.2 : Int) = x.1 := congrArg Prod.fst z
    have z2 : x.2 / (Int.gcd x.1 x.2 : Int) = x.2 := congrArg Prod.snd z
    rw [z1, z2] at R
    exact R)
theorem bt_of_31 {i : Int} {n : Nat} (h : i.natAbs < 10 ^ 31) (hn : decide (104 ≤ n) = true) : Bt n i := by
  refine Bt.mono (a := 104) ?_ (of_decide_eq_true hn)
  unfold Bt
  omega
theorem bt_of_p31 {i : Int} {n : Nat} (h0 : 0 < i) (h : i < 10 ^ 31) (hn : decide (104 ≤ n) = true) : Bt n i := bt_of_31 (by omega) hn
/-- a pair that was drawn, in lowest terms -/
theorem lp_drawn {i j : Int} (hi : i.natAbs < 10 ^ 31) (h0 : 0 < j) (hj : j < 10 ^ 31) : Lp 104 (low i j) := Lp.low h0 (bt_of_31 hi rfl) (bt_of_p31 h0 hj rfl)
/-- tuples of pairs stand at the places of a list -/
inductive Tups (H : Hp) : List V → List (Int × Int) → Prop
  | nil : Tups H [] []
  | cons {s : Addr} {x : Int × Int} {vs : List V} {xs : List (Int × Int)} : H s = some (.tup [.int x.1, .int x.2]) → Tups H vs xs → Tups H (.ref s :: vs) (x :: xs)
theorem Tups.same {H H' : Hp} {vs : List V} {xs : List (Int × Int)} (h : Tups H vs xs) (e : Same H H') : Tups H' vs xs := by
  induction h with
  | nil => exact .nil
  | cons a _ ih => exact .cons (e _ _ a) ih
theorem Tups.fr {H H' : Hp} {L : Addr} {ys : List V} {vs : List V} {xs : List (Int × Int)} (h : Tups H vs xs) (hL : H L = some (.lst ys)) (e : Fr L H H') : Tups H' vs xs := by
  induction h with
  | nil => exact .nil
  | cons a _ ih => exact .cons (e _ _ (ne_of a hL (by intro z; cases z)) a) ih
theorem Tups.snoc {H : Hp} {s : Addr} {x : Int × Int} {vs : List V} {xs : List (Int × Int)} (h : Tups H vs xs) (a : H s = some (.tup [.int x.1, .int x.2])) : Tups H (vs ++ [.ref s]) (xs ++ [x]) := by
  induction h with
  | nil => exact .cons a .nil
  | cons b _ ih => exact .cons b ih
theorem Tups.dp {K : PySem.W.Frag} {H : Hp} {vs : List V} {xs : List (Int × Int)} (h : Tups H vs xs) : DpAll K H vs (xs.map prd) := by
  induction h with
  | nil => exact .nil
  | cons a _ ih => exact .cons (prd_dp a) ih
theorem prds_lim {xs : List (Int × Int)} (h : ∀ x ∈ xs, Bt 1900 x.1 ∧ Bt 1900 x.2) : lim (.list (xs.map prd)) := by
  simp only [lim]
  induction xs with
  | nil => simp only [List.map_nil, limAll]
  | cons x r ih =>
    have a := h x List.mem_cons_self
    exact ⟨prd_lim a.1 a.2, ih fun y hy => h y (List.mem_cons_of_mem _ hy)⟩
theorem Lp.lim {n : Nat} {x : Int × Int} (h : Lp n x) (hn : decide (n ≤ 1900) = true) : G.lim (prd x) := prd_lim (h.2.2.1.mono (of_decide_eq_true hn)) (h.2.2.2.mono (of_decide_eq_true hn))
theorem lim_two {x y : PyData} (a : lim x) (b : lim y) : lim (.list [x, y]) := ⟨a, b, trivial⟩
theorem take_snoc {α : Type} {l : List α} {i : Nat} {x : α} (h : l[i]? = some x) : l.take (i + 1) = l.take i ++ [x] := by
  rw [List.take_add_one, h]
  rfl
end G
namespace G
open PySem PySem.Spec L2
/-- ratios stand at the places of a list -/
inductive Rats (C : Addr) (H : Hp) : List V → List (Int × Int) → Prop
  | nil : Rats C H [] []
  | cons {s : Addr} {x : Int × Int} {vs : List V} {xs : List (Int × Int)} : Rat C H s x.1 x.2 → Rats C H vs xs → Rats C H (.ref s :: vs) (x :: xs)
theorem Rats.same {C : Addr} {H H' : Hp} {vs : List V} {xs : List (Int × Int)} (h : Rats C H vs xs) (e : Same H H') : Rats C H' vs xs := by
  induction h with
  | nil => exact .nil
  | cons a _ ih => exact .cons (a.same e) ih
theorem Rats.fr {C : Addr} {H H' : Hp} {L : Addr} {ys vs : List V} {xs : List (Int × Int)} (h : Rats C H vs xs) (hL : H L = some (.lst ys)) (e : Fr L H H') : Rats C H' vs xs := by
  induction h with
  | nil => exact .nil
  | cons a _ ih =>
    obtain ⟨dx, a⟩ := a
    exact .cons ⟨dx, e _ _ (ne_of a hL (by intro z; cases z)) a⟩ ih
theorem Rats.snoc {C : Addr} {H : Hp} {s : Addr} {x : Int × Int} {vs : List V} {xs : List (Int × Int)} (h : Rats C H vs xs) (a : Rat C H s x.1 x.2) : Rats C H (vs ++ [.ref s]) (xs ++ [x]) := by
  induction h with
  | nil => exact .cons a .nil
  | cons b _ ih => exact .cons b ih
theorem Rats.get {C : Addr} {H : Hp} {vs : List V} {xs : List (Int × Int)} (h : Rats C H vs xs) : ∀ {k : Nat} {v : V}, vs[k]? = some v → ∃ r x, v = .ref r ∧ xs[k]? = some x ∧ Rat C H r x.1 x.2 := by
  induction h with
  | nil => intro k v e; simp at e
  | @cons s x vs xs a _ ih =>
    intro k v e
    cases k with
    | zero =>
      simp at e
      exact ⟨s, x, e.symm, rfl, a⟩
    | succ k =>
      simp at e
      obtain ⟨r, y, h1, h2, h3⟩ := ih e
      exact ⟨r, y, h1, by simpa using h2, h3⟩
theorem Rats.len {C : Addr} {H : Hp} {vs : List V} {xs : List (Int × Int)} (h : Rats C H vs xs) : vs.length = xs.length := by
  induction h with
  | nil => rfl
  | cons _ _ ih => simp [ih]
theorem w_yes {σ : L2.St} {H : Hp} {R : Bool → Hp → Prop} (q : R true H) : tYes σ H R := q
/-- [_law_seen(thing) for thing in told] -/
theorem seen_all {K : PySem.W.Frag} {C : Addr} {σ : L2.St} {H : Hp} {Q : VK} {E : XK} {t : Addr} {i j : Nat} {rs : List V} {xs : List (Int × Int)} (hv : σ[i]? = some (some (.ref t))) (hj : j < σ.length) (ht : H t = some (.lst rs)) (hr : Rats C H rs xs)
    (hlen : rs.length ≤ 1000) (q : ∀ L acc H', H L = none → Same H H' → H' L = some (.lst acc) → Tups H' acc xs → Q (.ref L) H') :
    tLc (iList K (tVar i)) (gName j) tYes (tCall (spSeen C) [] E (tCons (tVar j) tNil)) [j] σ H Q := by
  refine w_lcL (fun R h => w_var hv h) (SqL.of ht) (fun L k acc H' => Same H H' ∧ Tups H' acc (xs.take k) ∧ acc.length = k) (fun L H' _ e _ => ⟨e, by rw [List.take_zero]; exact .nil, rfl⟩) (fun L k acc H' _ p => p.1.seq (SqL.of ht)) ?_ ?_
  · rintro L k x acc H' nL hx hL ⟨e, ts, hk⟩
    obtain ⟨r, y, rfl, hy, R⟩ := hr.get hx
    refine ⟨?_, ?_⟩
    · show ((σ.set j none).set j (some (.ref r))).set j none = σ.set j none
      rw [List.set_set, List.set_set]
    · refine w_yes ?_
      refine w_iteT rfl ?_
      refine w_call (w_cons (w_var (v := .ref r) ?_ (w_nil ?_)))
      · show ((σ.set j none).set j (some (.ref r)))[j]? = _
        rw [List.getElem?_set_self (by rw [List.length_set]; exact hj)]
      · refine ⟨r, y.1, y.2, rfl, R.same e, fun s H2 ns e2 h2 => ?_⟩
        have kl : k < rs.length := (List.getElem?_eq_some_iff.mp hx).1
        refine fills_more (e2 _ _ hL) (by omega) fun H5 f5 h5 => ⟨Fr.unseen nL (e.trans e2) f5, ?_, by rw [List.length_append, hk]; rfl⟩
        rw [take_snoc hy]
        exact ((ts.same e2).fr (e2 _ _ hL) f5).snoc (f5 _ _ (ne_of h2 (e2 _ _ hL) (by intro z; cases z)) h2)
  · rintro L acc H' nL hL ⟨e, ts, _⟩
    rw [hr.len, List.take_length] at ts
    exact q L acc H' nL e hL ts
end G
namespace G
open PySem PySem.Spec L2
section
variable {σ : L2.St} {H : Hp} {D : Ends} {tr : TA} {tb : TS}
theorem w_iRng1 {R : It → Hp → Prop} (q : tr σ H fun vs H1 => ∃ j : Int, vs = [.int j] ∧ -(2 ^ 62) ≤ j ∧ j < 2 ^ 62 ∧ R (Itr 0 j.toNat) H1) : iRng1 tr σ H R := q
/-- for .. in range(n), the number known -/
theorem w_walkR {j : Nat} {n : Int} (hn : 0 ≤ n ∧ n ≤ 1000000) (Pv : Nat → L2.St → Hp → Prop) (h0 : Pv 0 σ H)
    (hs : ∀ (i : Nat) σ' H', (i : Int) < n → Pv i σ' H' → tb { nx := Pv (i + 1), rt := D.rt, ct := Pv (i + 1), bk := D.nx } (σ'.set j (some (.int (i : Int)))) H') (hd : ∀ σ' H', Pv n.toNat σ' H' → D.nx σ' H') :
    -(2 ^ 62) ≤ n ∧ n < 2 ^ 62 ∧ ForW (Itr 0 n.toNat) (gName j) tb D σ H := by
  refine ⟨by omega, by omega, for_range (lo := 0) (n := n.toNat) Pv h0 (fun i σ' H' hi p => ?_) hd⟩
  have e0 : (0 : Int) + (i : Int) = (i : Int) := Int.zero_add _
  show tb { nx := Pv (i + 1), rt := D.rt, ct := Pv (i + 1), bk := D.nx } (σ'.set j (some (.int ((0 : Int) + (i : Int))))) H'
  rw [e0]
  exact hs i σ' H' (by omega) p
end
end G
namespace G
open PySem PySem.Spec L2
/-- an instance of the class at C has that class as its type -/
def InsTy (K : PySem.W.Frag) (C : Addr) : Prop := ∀ (H : Hp) (p dx : Addr) (fs : List (Str × V)), H p = some (.ins C dx fs) → TyX K H (.ref p) (.ref C)
section
variable {K : PySem.W.Frag} {C : Addr} {H : Hp} {Q : VK} {E : XK} {p q : Addr} {x y : Int × Int} {n : Nat}
theorem w_negR (R : Rat C H p x.1 x.2) (hx : Lp n x) (hn : decide (n ≤ 3500) = true) (k : ∀ r H', H r = none → Same H H' → Rat C H' r (-x.1) x.2 → Q (.ref r) H') : rNeg C (spNeg C) E (.ref p) H Q :=
  let ⟨dx, h⟩ := R; ⟨p, dx, _, rfl, h, p, x, n, rfl, ⟨dx, h⟩, hx, of_decide_eq_true hn, k⟩
theorem w_binR {w : Int} (R : Rat C H p x.1 x.2) (S : Rat C H q y.1 y.2) (hx : Lp n x) (hy : Lp n y) (hn : decide (n ≤ 3500) = true) (k : ∀ r H', H r = none → Same H H' → Rat C H' r (jn w x y).1 (jn w x y).2 → Q (.ref r) H') :
    rOwn C (spBin C w) E (.ref p) (.ref q) H Q :=
  let ⟨dx, h⟩ := R; let ⟨dy, h'⟩ := S; ⟨p, dx, _, q, dy, _, rfl, rfl, h, h', p, q, x, y, n, rfl, ⟨dx, h⟩, ⟨dy, h'⟩, hx, hy, of_decide_eq_true hn, k⟩
theorem notFirst_self : PySem.W.notFirst K C (.ref C) = true := by
  unfold PySem.W.notFirst
  simp
theorem w_eqR (I : InsTy K C) (R : Rat C H p x.1 x.2) (S : Rat C H q y.1 y.2) (k : Q (.bl (decide (x = y))) H) : rEqO K C (spEq K C) E (.ref p) (.ref q) H Q :=
  let ⟨dx, h⟩ := R; let ⟨dy, h'⟩ := S; ⟨p, dx, _, .ref C, rfl, h, I _ _ _ _ h', notFirst_self, .inl ⟨p, q, x, y, rfl, ⟨dx, h⟩, ⟨dy, h'⟩, k⟩⟩
theorem w_isR (I : InsTy K C) (ki : PySem.W.kitOne K (.ref C) (.ref C) = some true) {i j : Int} (R : Rat C H p i j) (k : Q (.bl true) H) : spIsR K C [.ref p] H Q E :=
  let ⟨_, h⟩ := R; ⟨_, _, true, rfl, I _ _ _ _ h, ki, k⟩
end
theorem Lp.neg {n : Nat} {x : Int × Int} (h : Lp n x) : Lp n (-x.1, x.2) := ⟨h.1, by show Int.gcd (-x.1) x.2 = 1; rw [Int.neg_gcd]; exact h.2.1, h.2.2.1.neg, h.2.2.2⟩
theorem jn_neg (x y : Int × Int) : jn 1 x y = jn 0 x (-y.1, y.2) := by
  rw [jn_sub, jn_add]
  show low (x.1 * y.2 - y.1 * x.2) (x.2 * y.2) = low (x.1 * y.2 + -y.1 * x.2) (x.2 * y.2)
  rw [Int.neg_mul, Int.sub_eq_add_neg]
theorem low_zero {b : Int} (h : 0 < b) : low 0 b = (0, 1) := by
  unfold low
  have e : (Int.gcd 0 b : Int) = b := by
    rw [Int.gcd_zero_left]
    omega
  rw [e, Int.zero_ediv, Int.ediv_self (by omega)]
theorem jn_self {n : Nat} {x : Int × Int} (h : Lp n x) : jn 1 x x = (0, 1) := by
  rw [jn_sub, Int.sub_self]
  exact low_zero (Int.mul_pos h.1 h.1)
end G

/-! Pairs as numbers. -/
namespace G
open PySem
/-- the number that a pair stands for -/
def val (x : Int × Int) : _root_.Rat := (x.1 : _root_.Rat) / (x.2 : _root_.Rat)
theorem cast_ne {j : Int} (h : j ≠ 0) : (j : _root_.Rat) ≠ 0 := by
  intro z
  exact h (by exact_mod_cast z)
theorem val_low {i j : Int} (h : 0 < j) : val (low i j) = (i : _root_.Rat) / (j : _root_.Rat) := by
  have g := Int.gcd_pos_of_ne_zero_right i (show j ≠ 0 by omega)
  obtain ⟨a, ha⟩ : (Int.gcd i j : Int) ∣ i := Int.gcd_dvd_left i j
  obtain ⟨b, hb⟩ : (Int.gcd i j : Int) ∣ j := Int.gcd_dvd_right i j
  have g0 : (Int.gcd i j : Int) ≠ 0 := by omega
  unfold val low
  show ((i / (Int.gcd i j : Int) : Int) : _root_.Rat) / ((j / (Int.gcd i j : Int) : Int) : _root_.Rat) = _
  generalize hg : (Int.gcd i j : Int) = d at *
  have e1 : i / d = a := by rw [ha]; exact Int.mul_ediv_cancel_left a g0
  have e2 : j / d = b := by rw [hb]; exact Int.mul_ediv_cancel_left b g0
  rw [e1, e2]
  have b0 : b ≠ 0 := by
    intro z
    rw [z] at hb
    omega
  have q1 := cast_ne b0
  have q2 := cast_ne g0
  have c1 : (i : _root_.Rat) = d * a := by exact_mod_cast ha
  have c2 : (j : _root_.Rat) = d * b := by exact_mod_cast hb
  rw [c1, c2]
  grind
theorem dvd_of {a b c : Int} (h : a ∣ b * c) (g : Int.gcd a b = 1) : a ∣ c := by
  have e := Int.gcd_mul_right_right_of_gcd_eq_one (k := c) g
  have d : a ∣ (Int.gcd a (b * c) : Int) := Int.dvd_coe_gcd (Int.dvd_refl a) h
  rw [e] at d
  exact Int.dvd_trans d (Int.gcd_dvd_right a c)
theorem val_inj {n m : Nat} {x y : Int × Int} (hx : Lp n x) (hy : Lp m y) (h : val x = val y) : x = y := by
  obtain ⟨x1, x2, _⟩ := hx
  obtain ⟨y1, y2, _⟩ := hy
  have q1 := cast_ne (show x.2 ≠ 0 by omega)
  have q2 := cast_ne (show y.2 ≠ 0 by omega)
  unfold val at h
  have c : (x.1 : _root_.Rat) * y.2 = y.1 * x.2 := by grind
  have c : x.1 * y.2 = y.1 * x.2 := by exact_mod_cast c
  have d1 : x.2 ∣ y.2 := dvd_of (b := x.1) ⟨y.1, by rw [c, Int.mul_comm]⟩ (by rw [Int.gcd_comm]; exact x2)
  have d2 : y.2 ∣ x.2 := dvd_of (b := y.1) ⟨x.1, by rw [← c, Int.mul_comm]⟩ (by rw [Int.gcd_comm]; exact y2)
  have e : x.2 = y.2 := Int.dvd_antisymm (by omega) (by omega) d1 d2
  refine Prod.ext ?_ e
  rw [← e] at c
  exact Int.eq_of_mul_eq_mul_right (by omega) c
theorem val_jn0 {n m : Nat} {x y : Int × Int} (hx : Lp n x) (hy : Lp m y) : val (jn 0 x y) = val x + val y := by
  have q1 := cast_ne (show x.2 ≠ 0 by have := hx.1; omega)
  have q2 := cast_ne (show y.2 ≠ 0 by have := hy.1; omega)
  rw [jn_add, val_low (Int.mul_pos hx.1 hy.1)]
  unfold val
  push_cast
  grind
theorem val_jn1 {n m : Nat} {x y : Int × Int} (hx : Lp n x) (hy : Lp m y) : val (jn 1 x y) = val x - val y := by
  have q1 := cast_ne (show x.2 ≠ 0 by have := hx.1; omega)
  have q2 := cast_ne (show y.2 ≠ 0 by have := hy.1; omega)
  rw [jn_sub, val_low (Int.mul_pos hx.1 hy.1)]
  unfold val
  push_cast
  grind
theorem val_jn2 {n m : Nat} {x y : Int × Int} (hx : Lp n x) (hy : Lp m y) : val (jn 2 x y) = val x * val y := by
  have q1 := cast_ne (show x.2 ≠ 0 by have := hx.1; omega)
  have q2 := cast_ne (show y.2 ≠ 0 by have := hy.1; omega)
  rw [jn_mul, val_low (Int.mul_pos hx.1 hy.1)]
  unfold val
  push_cast
  grind
theorem val_neg {n : Nat} {x : Int × Int} (hx : Lp n x) : val (-x.1, x.2) = -val x := by
  have q1 := cast_ne (show x.2 ≠ 0 by have := hx.1; omega)
  unfold val
  push_cast
  grind
theorem val_ne {n : Nat} {x : Int × Int} (hx : Lp n x) (h : x.1 ≠ 0) : val x ≠ 0 := by
  have q1 := cast_ne (show x.2 ≠ 0 by have := hx.1; omega)
  have q2 := cast_ne h
  unfold val
  grind
/-! ### quotients -/
def qt (x y : Int × Int) : Int × Int := if 0 < x.2 * y.1 then low (x.1 * y.2) (x.2 * y.1) else low (-(x.1 * y.2)) (-(x.2 * y.1))
theorem mul_ne {n : Nat} {x y : Int × Int} (hx : Lp n x) (h : y.1 ≠ 0) : x.2 * y.1 ≠ 0 := Int.mul_ne_zero (by have := hx.1; omega) h
theorem qt_lp {n m : Nat} {x y : Int × Int} (hx : Lp n x) (hy : Lp m y) (h : y.1 ≠ 0) : Lp (n + m) (qt x y) := by
  have hne := mul_ne hx h
  obtain ⟨x1, x2, x3, x4⟩ := hx
  obtain ⟨y1, y2, y3, y4⟩ := hy
  unfold qt
  split
  · exact Lp.low (by omega) (Bt.mul x3 y4) (Bt.mul x4 y3)
  · exact Lp.low (by omega) (Bt.mul x3 y4).neg (Bt.mul x4 y3).neg
theorem val_qt {n m : Nat} {x y : Int × Int} (hx : Lp n x) (hy : Lp m y) (h : y.1 ≠ 0) : val (qt x y) = val x / val y := by
  have q1 := cast_ne (show x.2 ≠ 0 by have := hx.1; omega)
  have q2 := cast_ne (show y.2 ≠ 0 by have := hy.1; omega)
  have q3 := cast_ne h
  have hne := mul_ne hx h
  unfold qt
  split
  · rw [val_low (by omega)]
    unfold val
    push_cast
    grind
  · rw [val_low (by omega)]
    unfold val
    push_cast
    grind
end G
namespace G
/-! what the quotients keep -/
theorem qt_mul {n m : Nat} {x y : Int × Int} (hx : Lp n x) (hy : Lp m y) (h : y.1 ≠ 0) : jn 2 (qt x y) y = x := by
  have q := val_ne hy h
  refine val_inj (jn_lp (.inr (.inr rfl)) (qt_lp hx hy h) hy) hx ?_
  rw [val_jn2 (qt_lp hx hy h) hy, val_qt hx hy h]
  grind
theorem lp_one : Lp 2 (1, 1) := ⟨by decide, by decide, by decide, by decide⟩
theorem qt_one {n : Nat} {x : Int × Int} (hx : Lp n x) : qt x (1, 1) = x := by
  refine val_inj (qt_lp hx lp_one (by decide)) hx ?_
  rw [val_qt hx lp_one (by decide)]
  have e : val (1, 1) = 1 := by unfold val; decide +kernel
  rw [e]
  grind
theorem qt_self {n : Nat} {y : Int × Int} (hy : Lp n y) (h : y.1 ≠ 0) : qt y y = (1, 1) := by
  have q := val_ne hy h
  refine val_inj (qt_lp hy hy h) lp_one ?_
  rw [val_qt hy hy h]
  have e : val (1, 1) = 1 := by unfold val; decide +kernel
  rw [e]
  grind
theorem qt_neg {n m : Nat} {x y : Int × Int} (hx : Lp n x) (hy : Lp m y) (h : y.1 ≠ 0) : qt x (-y.1, y.2) = (-(qt x y).1, (qt x y).2) := by
  have q := val_ne hy h
  have h' : (-y.1, y.2).1 ≠ 0 := by show -y.1 ≠ 0; omega
  refine val_inj (qt_lp hx hy.neg h') (qt_lp hx hy h).neg ?_
  rw [val_qt hx hy.neg h', val_neg (qt_lp hx hy h), val_qt hx hy h, val_neg hy]
  grind
theorem jn2_ne {n m : Nat} {x y : Int × Int} (hx : Lp n x) (hy : Lp m y) (h1 : x.1 ≠ 0) (h2 : y.1 ≠ 0) : (jn 2 x y).1 ≠ 0 := by
  intro z
  have e := val_jn2 hx hy
  have q1 := val_ne hx h1
  have q2 := val_ne hy h2
  have e0 : val (jn 2 x y) = 0 := by
    unfold val
    rw [z]
    grind
  rw [e0] at e
  grind
theorem qt_twice {n m : Nat} {x y : Int × Int} (hx : Lp n x) (hy : Lp m y) (h : y.1 ≠ 0) : qt (qt x y) y = qt x (jn 2 y y) := by
  have q := val_ne hy h
  have h' := jn2_ne hy hy h h
  have l := jn_lp (.inr (.inr rfl)) hy hy
  refine val_inj (qt_lp (qt_lp hx hy h) hy h) (qt_lp hx l h') ?_
  rw [val_qt (qt_lp hx hy h) hy h, val_qt hx hy h, val_qt hx l h', val_jn2 hy hy]
  grind
end G
namespace G
open PySem PySem.Spec PyProof.Rows L2
section
variable {X : Cx} {CX : CXT} {k : Nat} {f C : Addr} {fd : FuncData} {ps ks : List Str} {sp : Sp} {E : XK} {m : Str} {pos apos : Pos} {o : Expr} {kws : List Keyword} {ta : TE} {tk : TA} {g : List Value → List Value → List Value} {gV : List V → List V → List V}
/-- o.m(k = v, ..) -/
def tMethN (C : Addr) (m : Str) (n : Nat) (sp : Sp) (gV : List V → List V → List V) (E : XK) (ta : TE) (tk : TA) : TE := fun σ H Q => ta σ H fun x H1 => ∃ a dx fs, x = .ref a ∧ H1 a = some (.ins C dx fs) ∧ fs.lookup m = none ∧
  tk σ H1 fun zs H2 => zs.length = n ∧ sp (gV [x] zs) H2 Q E
theorem pe_methN0 {pl : Sem Bool} (he : PE X o ta) (c : Cls X.K C) (hm : Meth X.K C m f) (F : FnOk X.prog X.w X.K X.mg X.base CX k f fd ps sp) (hr : Room k X.A) (hb : KBn X.K fd ps 1 ks g gV) (hx : Passes CX X E) (hkw : PK X kws tk)
    (hall : (backToKw pos (keywordEach kws X.env)).all (·.1.isSome) = true := by rfl) (hks : (backToKw pos (keywordEach kws X.env)).filterMap (·.1) = ks := by rfl)
    (hpl : ((backTo pos (starEach [] X.env)).any (·.1) || (backToKw pos (keywordEach kws X.env)).any (·.1.isNone)) = false := by rfl)
    (ht : eval (.Call (.Attribute o m apos) [] kws pos) X.env = (do
      let ov ← eval o X.env
      standAt apos.atName
      let (f, first) ← holding [ov] (getMethod ov m pl)
      callWith pos f first (backTo pos (starEach [] X.env)) (backToKw pos (keywordEach kws X.env))) := by rfl) :
    PE X (.Call (.Attribute o m apos) [] kws pos) (tMethN C m ks.length sp gV E ta tk) := by
  refine ⟨fun pins s σ H Q I h => ?_⟩
  refine PySem.W.methodCall_KW (pl := pl) (thn (he.run pins s σ H _ I h) fun u s1 ⟨x, H1, I1, rx, a, dx, fs, ex, ea, l, q⟩ => ?_) ht
  subst ex
  obtain rfl : u = Value.ref a := rx
  refine getmeth_ok I1 ea c hm l ?_
  refine PySem.W.callWith_KW0 (first := [.ref a]) (h₀ := X.base) I.ok.mod.kin hm.kp hall ?_ hpl
  refine thn (hkw.run pos pins s1 σ H1 _ I1 q) fun ws s2 ⟨zs, H2, I2, rz, l2, q2⟩ => ⟨I2.kIn, ?_⟩
  rw [hks]
  exact run_fnN (us := [.ref a]) (vs := [.ref a]) F hr hb hx I2 (.cons rfl .nil) rz rfl l2 q2
/-- self and every other parameter by its name, in their order -/
theorem kbn_self {K : PySem.W.Frag} (h : ∀ us ws : List Value, us.length = 1 → ws.length = ks.length → bindArgs fd ⟨us, ks.zip ws⟩ = pure (ps.zip (us ++ ws))) : KBn K fd ps 1 ks (fun us ws => us ++ ws) (fun vs zs => vs ++ zs) :=
  ⟨fun s us ws _ l1 l2 => .of_eq (h us ws l1 l2), fun r1 r2 => r1.append r2⟩
end
section
variable {σ : L2.St} {H : Hp} {Q : VK} {ta : TE} {tk : TA} {sp : Sp} {E : XK} {C a dx : Addr} {fs : List (Str × V)} {m : Str} {n : Nat} {gV : List V → List V → List V}
theorem w_methN (q : ta σ H fun x H1 => ∃ a dx fs, x = .ref a ∧ H1 a = some (.ins C dx fs) ∧ fs.lookup m = none ∧ tk σ H1 fun zs H2 => zs.length = n ∧ sp (gV [x] zs) H2 Q E) : tMethN C m n sp gV E ta tk σ H Q := q
/-- the method is read off a ratio -/
theorem w_ofR {p : Addr} {i j : Int} {R : Prop} (h : Rat C H p i j) (hm : (m == ("_bottom" : Str)) = false) (hm2 : (m == ("_top" : Str)) = false) (q : R) : ∃ a dx fs, V.ref p = .ref a ∧ H a = some (.ins C dx fs) ∧ fs.lookup m = none ∧ R := by
  obtain ⟨dx, h⟩ := h
  refine ⟨p, dx, _, rfl, h, ?_, q⟩
  unfold rf
  rw [lookup_putF, if_neg (by intro z; rw [z] at hm; simp at hm), lookup_putF, if_neg (by intro z; rw [z] at hm2; simp at hm2)]
  rfl
/-- a quotient's promise: the divisor is not 0 -/
def spOver (C : Addr) : Sp := fun vs H Q _ => ∃ p q x y n, vs = [.ref p, .ref q] ∧ Rat C H p x.1 x.2 ∧ Rat C H q y.1 y.2 ∧ Lp n x ∧ Lp n y ∧ n ≤ 3500 ∧ y.1 ≠ 0 ∧
  ∀ r H', H r = none → Same H H' → Rat C H' r (qt x y).1 (qt x y).2 → Q (.ref r) H'
end
end G
namespace G
open PySem PySem.Spec L2
theorem w_cut {t u : TS} {D : Ends} {σ : L2.St} {H : Hp} (Mid : L2.St → Hp → Prop) (h : t { nx := Mid, rt := D.rt, bk := D.bk, ct := D.ct } σ H) (k : ∀ σ' H', Mid σ' H' → u D σ' H') : C8.tCut t u D σ H := ⟨Mid, h, k⟩
theorem low_pos1 {i j : Int} (hi : 0 < i) (h : 0 < j) : (low i j).1 ≠ 0 := by
  have g := Int.gcd_pos_of_ne_zero_right i (show j ≠ 0 by omega)
  have d : (Int.gcd i j : Int) ∣ i := Int.gcd_dvd_left i j
  have : 0 < i / (Int.gcd i j : Int) := Int.ediv_pos_of_pos_of_dvd hi (by omega) d
  show i / (Int.gcd i j : Int) ≠ 0
  omega
end G

/-! Sums of lists of pairs. -/
namespace G
open PySem L2
/-- the pairs of a list, joined from 0 on -/
def tot (xs : List (Int × Int)) : Int × Int := xs.foldl (jn 0) (0, 1)
/-- their numbers, added -/
def vsum : List (Int × Int) → _root_.Rat
  | [] => 0
  | x :: xs => val x + vsum xs
theorem vsum_app : ∀ xs ys : List (Int × Int), vsum (xs ++ ys) = vsum xs + vsum ys
  | [], ys => by
    show vsum ys = 0 + vsum ys
    grind
  | x :: xs, ys => by
    show val x + vsum (xs ++ ys) = val x + vsum xs + vsum ys
    rw [vsum_app xs ys]
    grind
theorem vsum_rev : ∀ xs : List (Int × Int), vsum xs.reverse = vsum xs
  | [] => rfl
  | x :: xs => by
    rw [List.reverse_cons, vsum_app, vsum_rev xs]
    show vsum xs + (val x + 0) = val x + vsum xs
    grind
theorem fold_lp : ∀ (xs : List (Int × Int)) (n m : Nat) (a : Int × Int), Lp m a → (∀ x ∈ xs, Lp n x) → Lp (m + xs.length * (n + 1)) (xs.foldl (jn 0) a) ∧ val (xs.foldl (jn 0) a) = val a + vsum xs
  | [], n, m, a, ha, _ => ⟨ha.mono (by omega), by show val a = val a + 0; grind⟩
  | x :: xs, n, m, a, ha, h => by
    have hx := h x List.mem_cons_self
    have q := fold_lp xs n (m + n + 1) (jn 0 a x) (jn_lp (.inl rfl) ha hx) fun y hy => h y (List.mem_cons_of_mem _ hy)
    refine ⟨q.1.mono ?_, ?_⟩
    · rw [List.length_cons, Nat.succ_mul]
      omega
    · show val (xs.foldl (jn 0) (jn 0 a x)) = val a + (val x + vsum xs)
      rw [q.2, val_jn0 ha hx]
      grind
theorem val_zero : val (0, 1) = 0 := by unfold val; decide +kernel
theorem lp_zero : Lp 1 (0, 1) := ⟨by decide, by decide, by decide, by decide⟩
theorem tot_lp {n : Nat} {xs : List (Int × Int)} (h : ∀ x ∈ xs, Lp n x) : Lp (1 + xs.length * (n + 1)) (tot xs) := (fold_lp xs n 1 _ lp_zero h).1
theorem tot_val {n : Nat} {xs : List (Int × Int)} (h : ∀ x ∈ xs, Lp n x) : val (tot xs) = vsum xs := by
  refine (fold_lp xs n 1 _ lp_zero h).2.trans ?_
  rw [val_zero]
  grind
theorem tot_snoc (xs : List (Int × Int)) (x : Int × Int) : tot (xs ++ [x]) = jn 0 (tot xs) x := by
  unfold tot
  rw [List.foldl_append]
  rfl
theorem tot_same {n m : Nat} {xs ys : List (Int × Int)} (h : ∀ x ∈ xs, Lp n x) (k : ∀ x ∈ ys, Lp m x) (e : vsum xs = vsum ys) : tot xs = tot ys :=
  val_inj (tot_lp h) (tot_lp k) (by rw [tot_val h, tot_val k, e])
theorem tot_rev {n : Nat} {xs : List (Int × Int)} (h : ∀ x ∈ xs, Lp n x) : tot xs.reverse = tot xs :=
  tot_same (n := n) (m := n) (fun x hx => h x (List.mem_reverse.mp hx)) h (vsum_rev xs)
theorem tot_cut {n : Nat} {xs : List (Int × Int)} (h : ∀ x ∈ xs, Lp n x) (c : Nat) : jn 0 (tot (xs.take c)) (tot (xs.drop c)) = tot xs := by
  have h1 : ∀ x ∈ xs.take c, Lp n x := fun x hx => h x (List.mem_of_mem_take hx)
  have h2 : ∀ x ∈ xs.drop c, Lp n x := fun x hx => h x (List.mem_of_mem_drop hx)
  refine val_inj (jn_lp (.inl rfl) (tot_lp h1) (tot_lp h2)) (tot_lp h) ?_
  rw [val_jn0 (tot_lp h1) (tot_lp h2), tot_val h1, tot_val h2, tot_val h, ← vsum_app, List.take_append_drop]
theorem tot_take {n m : Nat} {xs : List (Int × Int)} (h : ∀ x ∈ xs, Lp n x) (hm : 1 + xs.length * (n + 1) ≤ m) : ∀ k, k ≤ xs.length → Lp m (tot (xs.take k)) := fun k hk => by
  have h1 : ∀ x ∈ xs.take k, Lp n x := fun x hx => h x (List.mem_of_mem_take hx)
  refine (tot_lp h1).mono (Nat.le_trans ?_ hm)
  have : (xs.take k).length ≤ xs.length := by rw [List.length_take]; omega
  have := Nat.mul_le_mul_right (n + 1) this
  omega
/-- k times 1 / b -/
theorem tot_same_parts {b n : Nat} (hb : 0 < b) (h1 : Lp n (1, (b : Int))) : ∀ k : Nat, tot (List.replicate k (1, (b : Int))) = low k b
  | 0 => by
    refine val_inj (n := 1) (m := 1) lp_zero ?_ ?_
    · have : Lp 1 (low 0 (b : Int)) := by rw [low_zero (by omega)]; exact lp_zero
      exact this
    · show val (0, 1) = val (low 0 (b : Int))
      rw [low_zero (by omega)]
  | k + 1 => by
    have hb' : (0 : Int) < b := by omega
    have e := tot_same_parts hb h1 k
    rw [List.replicate_succ', tot_snoc, e]
    have l : Lp ((k : Int).natAbs.log2 + 1 + ((b : Int).natAbs.log2 + 1)) (low k b) := Lp.low hb' (Bt.any.mono (by omega)) (Bt.any.mono (by omega))
    have l' : Lp (((k + 1 : Nat) : Int).natAbs.log2 + 1 + ((b : Int).natAbs.log2 + 1)) (low ((k + 1 : Nat) : Int) b) := Lp.low hb' (Bt.any.mono (by omega)) (Bt.any.mono (by omega))
    refine val_inj (jn_lp (.inl rfl) l h1) l' ?_
    rw [val_jn0 l h1, val_low hb', val_low hb']
    unfold val
    have c := cast_ne (show (b : Int) ≠ 0 by omega)
    have e1 : (((k + 1 : Nat) : Int) : _root_.Rat) = ((k : Int) : _root_.Rat) + 1 := by push_cast; rfl
    rw [e1]
    have e2 : (((1 : Int), (b : Int)).1 : _root_.Rat) = 1 := by rfl
    rw [e2]
    grind
theorem Tups.get {H : Hp} {vs : List V} {xs : List (Int × Int)} (h : Tups H vs xs) : ∀ {k : Nat} {v : V}, vs[k]? = some v → ∃ r x, v = .ref r ∧ xs[k]? = some x ∧ H r = some (.tup [.int x.1, .int x.2]) := by
  induction h with
  | nil => intro k v e; simp at e
  | @cons s x vs xs a t ih =>
    intro k v e
    cases k with
    | zero =>
      have e : V.ref s = v := by simpa using e
      exact ⟨s, x, e.symm, rfl, a⟩
    | succ k => exact ih (by simpa using e)
theorem Tups.len {H : Hp} {vs : List V} {xs : List (Int × Int)} (h : Tups H vs xs) : vs.length = xs.length := by
  induction h with
  | nil => rfl
  | cons a t ih => simp [ih]
/-- a, b = a pair -/
theorem w_g2 {K : PySem.W.Frag} {n i1 i2 : Nat} {p : Addr} {u v : V} {σ : L2.St} {H : Hp} {Q : L2.St → Hp → Prop} (h : SqT K H p [u, v]) (hn : n = 2) (q : Q ((σ.set i1 (some u)).set i2 (some v)) H) :
    gTup K n (gCons (gName i1) (gCons (gName i2) gNil)) (.ref p) σ H Q := by
  subst hn
  exact ⟨p, _, rfl, h, rfl, u, [v], rfl, v, [], rfl, rfl, q⟩
end G
namespace G
open PySem PySem.Spec PyProof.Rows L2
section
variable {X : Cx} {e k : Expr} {te : TE} {tk : TO} {p2 pos : Pos}
theorem ix_tupK {X : Cx} {K : PySem.W.Frag} (h : X.K = K) : IxR X (rIxT K) := by rw [← h]; exact ix_tup
theorem ix_listK {X : Cx} {K : PySem.W.Frag} (h : X.K = K) : IxR X (rIxL K) := by rw [← h]; exact ix_list
/-- xs[::-1] -/
def tRevL (K : PySem.W.Frag) (te : TE) (tk : TO) : TE := fun σ H Q => te σ H fun x H1 => tk σ H1 fun k H2 => ∃ a xs, x = .ref a ∧ k = some (-1) ∧ SqL K H2 a xs ∧ ∀ p H', H2 p = none → Same H2 H' → H' p = some (.lst xs.reverse) → Q (.ref p) H'
theorem pe_revL (he : PE X e te) (hk : PO X (some k) tk) : PE X (.Subscript e (.Slice none none (some k) p2) pos) (tRevL X.K te tk) := by
  refine ⟨fun pins s σ H Q I h => ?_⟩
  refine Subscript_ (thn (he.run pins s σ H _ I h) fun v s1 ⟨x, H1, I1, r1, q1⟩ => ?_)
  refine wpAny_Slice ?_
  rw [evalPart_none]
  refine wpAny_pure ?_
  refine wpAny_pure ?_
  refine thn (hk.run pins s1 σ H1 _ I1 q1) fun vk s3 ⟨u, H3, I3, pk, a, xs, ex, eu, hx, q3⟩ => ?_
  subst ex
  subst eu
  cases r1
  have I4 : Inv X pins σ H3 { s3 with heap := s3.heap.push { cls := .type "slice", data := .fields #[.none, .none, vk] } } := I3.kept (t' := s3.toks) fun b ob q => Heap.get?_push_of_some _ q
  show wpAny (model X.prog X.w) X.A (subscriptTail e (.Slice none none (some k) p2) (.ref a) (.ref s3.heap.objs.size)) (EP X pins σ Q) X.xe { s3 with heap := s3.heap.push { cls := .type "slice", data := .fields #[.none, .none, vk] } }
  obtain ⟨its, r, ht, hz⟩ := I4.list hx
  have hlen := r.length
  refine tail_any (ops := [.ref a, .ref s3.heap.objs.size]) ht.isList.typeIs slot_list_getitem.lookup ?_ (by with_unfolding_all rfl)
  refine wpAny_getItem_list_slice ht.isList (Heap.IsSliceOf.new ..) .none .none pk (by simp) ?_ (by rw [List.size_toArray]; omega)
  rw [PySem.W.krv_pick]
  generalize hs4 : ({ s3 with heap := s3.heap.push { cls := .type "slice", data := .fields #[.none, .none, vk] } } : Shared) = s4 at *
  refine ⟨.ref s4.heap.objs.size, _, I4.laid (t' := s4.toks) (o := .lst xs.reverse) (fun b ob q => Heap.get?_push_of_some _ q) (Nat.le_refl _) ?_, rfl, q3 _ _ (I4.hok.fresh (Nat.le_refl _)) (same_new (I4.hok.fresh (Nat.le_refl _))) upd_same⟩
  refine ⟨by rw [List.length_reverse]; exact hz, _, 0, ?_, Heap.get?_push_size _ rfl⟩
  exact Vals.reverse r
end
section
variable {K : PySem.W.Frag} {σ : L2.St} {H : Hp} {Q : VK} {te : TE} {tk : TO}
theorem w_revL (q : te σ H fun x H1 => tk σ H1 fun k H2 => ∃ a xs, x = .ref a ∧ k = some (-1) ∧ SqL K H2 a xs ∧ ∀ p H', H2 p = none → Same H2 H' → H' p = some (.lst xs.reverse) → Q (.ref p) H') : tRevL K te tk σ H Q := q
end
end G

/-! Comprehensions. -/
namespace G
open PySem PySem.Spec L2
/-- the items of two lists, one by one -/
inductive PL {β : Type} (O : V → β → Prop) : List V → List β → Prop
  | nil : PL O [] []
  | cons {v : V} {y : β} {vs : List V} {ys : List β} : O v y → PL O vs ys → PL O (v :: vs) (y :: ys)
theorem PL.snoc {β : Type} {O : V → β → Prop} {vs : List V} {ys : List β} {v : V} {y : β} (h : PL O vs ys) (a : O v y) : PL O (vs ++ [v]) (ys ++ [y]) := by
  induction h with
  | nil => exact .cons a .nil
  | cons b _ ih => exact .cons b ih
theorem PL.imp {β : Type} {O O' : V → β → Prop} {vs : List V} {ys : List β} (h : PL O vs ys) (f : ∀ v y, O v y → O' v y) : PL O' vs ys := by
  induction h with
  | nil => exact .nil
  | cons b _ ih => exact .cons (f _ _ b) ih
def TupV (H : Hp) (v : V) (x : Int × Int) : Prop := ∃ s, v = .ref s ∧ H s = some (.tup [.int x.1, .int x.2])
def RatV (C : Addr) (H : Hp) (v : V) (x : Int × Int) : Prop := ∃ s, v = .ref s ∧ Rat C H s x.1 x.2
theorem PL.tups {H : Hp} {vs : List V} {ys : List (Int × Int)} (h : PL (TupV H) vs ys) : Tups H vs ys := by
  induction h with
  | nil => exact .nil
  | cons b _ ih =>
    obtain ⟨s, rfl, h⟩ := b
    exact .cons h ih
theorem PL.rats {C : Addr} {H : Hp} {vs : List V} {ys : List (Int × Int)} (h : PL (RatV C H) vs ys) : Rats C H vs ys := by
  induction h with
  | nil => exact .nil
  | cons b _ ih =>
    obtain ⟨s, rfl, h⟩ := b
    exact .cons h ih
/-- what is kept of a thing while other things come and a list is filled -/
structure Kept {β : Type} (O : Hp → V → β → Prop) : Prop where
  same : ∀ {H H' : Hp} {v : V} {y : β}, O H v y → Same H H' → O H' v y
  fill : ∀ {H H' : Hp} {L : Addr} {zs : List V} {v : V} {y : β}, O H v y → H L = some (.lst zs) → Fr L H H' → O H' v y
theorem kept_tup : Kept TupV where
  same := fun ⟨s, e, h⟩ f => ⟨s, e, f _ _ h⟩
  fill := fun ⟨s, e, h⟩ hL f => ⟨s, e, f _ _ (ne_of h hL (by intro z; cases z)) h⟩
theorem kept_rat {C : Addr} : Kept (RatV C) where
  same := fun ⟨s, e, h⟩ f => ⟨s, e, h.same f⟩
  fill := fun ⟨s, e, ⟨dx, h⟩⟩ hL f => ⟨s, e, dx, f _ _ (ne_of h hL (by intro z; cases z)) h⟩
def LcW (J : It) (g : TG) (tt : TT) (te : TE) (vs : List Nat) (σ : L2.St) (Q : VK) (H1 : Hp) : Prop := ∀ D, H1 D = none → ∃ W : Nat → Nat → Hp → Prop, (∃ m, W 0 m (upd H1 D (.lst []))) ∧ ∀ i m H, W i m H →
  (J.stop i H ∧ Q (.ref D) H) ∨ (J.go i H ∧ ∃ Nx : Hp → Prop, (∀ H', Nx H' → ∃ m', m' < m ∧ W (i + 1) m' H') ∧ ∀ x H', J.yld i H x H' → g x (wipe σ vs) H' fun σ2 H2 => wipe σ2 vs = wipe σ vs ∧ tt σ2 H2 fun b H3 =>
    if b = true then te σ2 H3 fun y H4 => ∃ acc, H4 D = some (.lst acc) ∧ acc.length < sizeLine ∧ Nx (upd H4 D (.lst (acc ++ [y]))) else Nx H3)
theorem w_lc {wi : TI} {g : TG} {tt : TT} {te : TE} {vs : List Nat} {σ : L2.St} {H : Hp} {Q : VK} (q : wi σ H fun J H1 => LcW J g tt te vs σ Q H1) : tLc wi g tt te vs σ H Q := q
/-- [te for x in a list]: the items are those of ys -/
theorem w_lcMap {β : Type} {K : PySem.W.Frag} {O : Hp → V → β → Prop} (KO : Kept O) {te : TE} {σ : L2.St} {Q : VK} {H1 : Hp} {t : Addr} {rs : List V} {j : Nat} (ys : List β) (hl : H1 t = some (.lst rs)) (ly : rs.length = ys.length) (hn : rs.length ≤ 1000)
    (step : ∀ (k : Nat) v y H' (R : VK), rs[k]? = some v → ys[k]? = some y → Same H1 H' → (∀ u H2, Same H' H2 → O H2 u y → R u H2) → te ((σ.set j none).set j (some v)) H' R)
    (q : ∀ L acc H', H1 L = none → Same H1 H' → H' L = some (.lst acc) → PL (O H') acc ys → Q (.ref L) H') : LcW (Itl K t) (gName j) tYes te [j] σ Q H1 := by
  intro L nL
  refine lc_list (K := K) (xs := rs) (fun i H' => Fills (fun L k acc H' => Same H1 H' ∧ PL (O H') acc (ys.take k) ∧ acc.length = k) L i H') ⟨[], upd_same, same_new nL, .nil, rfl⟩ (fun i H' hi ⟨acc, _, p⟩ => SqL.of (p.1 _ _ hl)) ?_ ?_
  · rintro k v H' hv ⟨acc, hL, e, ps, hk⟩
    have kl : k < rs.length := (List.getElem?_eq_some_iff.mp hv).1
    obtain ⟨y, hy⟩ : ∃ y, ys[k]? = some y := ⟨ys[k]'(by omega), by rw [List.getElem?_eq_getElem]⟩
    refine ⟨?_, ?_⟩
    · show ((σ.set j none).set j (some v)).set j none = σ.set j none
      rw [List.set_set, List.set_set]
    · refine w_yes ?_
      refine w_iteT rfl ?_
      refine step k v y H' _ hv hy e fun u H2 e2 o2 => ?_
      refine fills_more (Pv := fun L k acc H' => Same H1 H' ∧ PL (O H') acc (ys.take k) ∧ acc.length = k) (e2 _ _ hL) (by omega) fun H5 f5 h5 => ⟨Fr.unseen nL (e.trans e2) f5, ?_, by rw [List.length_append, hk]; rfl⟩
      rw [take_snoc hy]
      exact (ps.imp fun v y o => KO.fill (KO.same o e2) (e2 _ _ hL) f5).snoc (KO.fill o2 (e2 _ _ hL) f5)
  · rintro H' ⟨acc, hL, e, ps, _⟩
    rw [ly, List.take_length] at ps
    exact q L acc H' nL e hL ps
theorem Src.fr {b : Nat} {H H' : Hp} {a L : Addr} (h : Src b H a) (n : a ≠ L) (f : Fr L H H') : Src b H' a :=
  let ⟨x, y, z, h1, r⟩ := h; ⟨x, y, z, f _ _ n h1, r⟩
/-- pairs in lowest terms, drawn -/
theorem w_lcPairs {K : PySem.W.Frag} {E E' : XK} {σ : L2.St} {Q : VK} {H1 : Hp} {a : Addr} {j b n : Nat} (ha : σ[0]? = some (some (.ref a))) (hj : j ≠ 0) (hS : Src b H1 a) (hn : n ≤ 1000) (hb : b ≤ 1000000)
    (q : ∀ L acc xs H', H1 L = none → L ≠ a → Fr a H1 H' → Src (b + 10 * n) H' a → H' L = some (.lst acc) → Tups H' acc xs → xs.length = n → (∀ x ∈ xs, Lp 104 x) → Q (.ref L) H') :
    LcW (Itr 0 n) (gName j) tYes (tCall (spLowest K) [] E (tCons (tCall spPair [] E' (tCons (tVar 0) tNil)) tNil)) [j] σ Q H1 := by
  intro L nL
  have La : a ≠ L := let ⟨_, _, _, h1, _⟩ := hS; ne_of_none h1 nL
  refine lc_range (fun i H' => Fills (fun L k acc H' => Fr a H1 H' ∧ Src (b + 10 * k) H' a ∧ acc.length = k ∧ ∃ xs, Tups H' acc xs ∧ xs.length = k ∧ ∀ x ∈ xs, Lp 104 x) L i H') ⟨[], upd_same, Fr.same (same_new nL), hS.new nL, rfl, [], .nil, rfl, by intro x hx; cases hx⟩ ?_ ?_
  · rintro k H' hk ⟨acc, hL, f, S, lk, xs, ts, lx, hx⟩
    refine ⟨?_, ?_⟩
    · show ((σ.set j none).set j (some (.int (0 + (k : Int))))).set j none = σ.set j none
      rw [List.set_set, List.set_set]
    · refine w_yes ?_
      refine w_iteT rfl ?_
      refine w_call (w_cons (w_call (w_cons (w_var (v := .ref a) ?_ (w_nil ?_)))))
      · show ((σ.set j none).set j (some (.int (0 + (k : Int)))))[0]? = _
        rw [List.getElem?_set_ne hj, List.getElem?_set_ne hj]
        exact ha
      · refine ⟨a, _, rfl, S, by omega, fun i1 j1 p1 H2 hi1 hj1 hk1 hp1 hpa1 S2 f2 => ?_⟩
        refine w_nil ?_
        refine ⟨p1, i1, j1, rfl, SqT.of hp1, hj1, bt_of_31 hi1 rfl, bt_of_p31 hj1 hk1 rfl, fun d H3 n3 e3 h3 => ?_⟩
        have L3 : H3 L = some (.lst acc) := e3 _ _ (f2 _ _ (Ne.symm La) hL)
        have tl : Tups H3 acc xs := (let ⟨_, _, _, h1, _⟩ := S; ts.fr h1 f2).same e3
        refine fills_more (Pv := fun L k acc H' => Fr a H1 H' ∧ Src (b + 10 * k) H' a ∧ acc.length = k ∧ ∃ xs, Tups H' acc xs ∧ xs.length = k ∧ ∀ x ∈ xs, Lp 104 x) L3 (by omega) fun H5 f5 h5 => ⟨?_, ?_, by rw [List.length_append, lk]; rfl, xs ++ [low i1 j1], ?_, by rw [List.length_append, lx]; rfl, ?_⟩
        · exact fun c o nc h => f5 _ _ (ne_of_none h nL) (e3 _ _ (f2 _ _ nc (f _ _ nc h)))
        · exact ((S2.same e3).fr La f5).mono (by omega)
        · exact (tl.fr L3 f5).snoc (f5 _ _ (ne_of h3 L3 (by intro z; cases z)) h3)
        · intro x h
          rcases List.mem_append.mp h with h | h
          · exact hx x h
          · rw [List.mem_singleton] at h
            subst h
            exact lp_drawn hi1 hj1 hk1
  · rintro H' ⟨acc, hL, f, S, lk, xs, ts, lx, hx⟩
    exact q L acc xs H' nL (Ne.symm La) f S hL ts lx hx
end G
namespace G
open PySem PySem.Spec L2
theorem prds_shaped (xs : List (Int × Int)) : SeqAt.shaped (.list (xs.map prd)) = true := by
  have h1 : PyData.canLayAll0 (xs.map prd) = true := by
    induction xs with
    | nil => simp only [List.map_nil, PyData.canLayAll0]
    | cons n r ih => simp only [List.map_cons, prd, PyData.canLayAll0, PyData.canLay0, ih, Bool.and_self]
  have h2 : PyData.depthAll (xs.map prd) ≤ 1 := by
    clear h1
    induction xs with
    | nil => simp only [List.map_nil, PyData.depthAll]; omega
    | cons n r ih =>
      simp only [List.map_cons, PyData.depthAll]
      have : (prd n).depth ≤ 1 := by simp only [prd, PyData.depth, PyData.depthAll]; decide
      omega
  unfold SeqAt.shaped
  simp only [PyData.canLay0, PyData.depth, h1, Bool.true_and]
  exact decide_eq_true (by omega)
theorem prds_depth (xs : List (Int × Int)) : decide ((PyData.list (xs.map prd)).depth ≤ 40) = true := by
  have h2 : PyData.depthAll (xs.map prd) ≤ 1 := by
    induction xs with
    | nil => simp only [List.map_nil, PyData.depthAll]; omega
    | cons n r ih =>
      simp only [List.map_cons, PyData.depthAll]
      have : (prd n).depth ≤ 1 := by simp only [prd, PyData.depth, PyData.depthAll]; decide
      omega
  simp only [PyData.depth]
  exact decide_eq_true (by omega)
theorem prds_cnt {xs : List (Int × Int)} (h : xs.length ≤ 1000) : decide (cnt (.list (xs.map prd)) ≤ 8000) = true := by
  have h2 : cntAll (xs.map prd) ≤ 4 * xs.length := by
    clear h
    induction xs with
    | nil => simp only [List.map_nil, cntAll]; omega
    | cons n r ih =>
      simp only [List.map_cons, cntAll, List.length_cons]
      have : cnt (prd n) ≤ 4 := by simp only [prd, cnt, cntAll]; decide
      omega
  simp only [cnt]
  exact decide_eq_true (by omega)
theorem lp_abs {n : Nat} {x : Int × Int} (h : Lp n x) : Lp n (if x.1 < 0 then -x.1 else x.1, x.2) := by
  by_cases c : x.1 < 0
  · rw [if_pos c]; exact h.neg
  · rw [if_neg c]; exact h
theorem ix_last {K : PySem.W.Frag} {H : Hp} {acc : List V} {xs : List (Int × Int)} (h : Tups H acc xs) (ne : xs ≠ []) : ∃ s x, atI acc (-1) = some (.ref s) ∧ x ∈ xs ∧ H s = some (.tup [.int x.1, .int x.2]) := by
  have hl := h.len
  have h0 : 0 < xs.length := List.length_pos_iff.mpr ne
  obtain ⟨v, hv⟩ : ∃ v, acc[acc.length - 1]? = some v := ⟨acc[acc.length - 1]'(by omega), by rw [List.getElem?_eq_getElem]⟩
  obtain ⟨s, x, rfl, hx, hs⟩ := h.get hv
  refine ⟨s, x, ?_, List.mem_of_getElem? hx, hs⟩
  rw [← hv]
  unfold atI
  have e : ixN acc.length (-1) = some (acc.length - 1) := by
    unfold ixN
    rw [if_neg (by decide), if_pos (by omega)]
    congr 1
    omega
  rw [e]
  rfl
theorem Tups.app {H : Hp} {vs ws : List V} {xs ys : List (Int × Int)} (h : Tups H vs xs) (k : Tups H ws ys) : Tups H (vs ++ ws) (xs ++ ys) := by
  induction h with
  | nil => exact k
  | cons a _ ih => exact .cons a ih
end G
namespace G
open PySem PySem.Spec L2
theorem Rats.cut {C : Addr} {H : Hp} {vs : List V} {xs : List (Int × Int)} (h : Rats C H vs xs) : ∀ k : Nat, Rats C H (vs.take k) (xs.take k) ∧ Rats C H (vs.drop k) (xs.drop k) := by
  induction h with
  | nil => intro k; simp only [List.take_nil, List.drop_nil]; exact ⟨.nil, .nil⟩
  | cons a t ih =>
    intro k
    cases k with
    | zero => exact ⟨.nil, .cons a t⟩
    | succ k => exact ⟨.cons a (ih k).1, (ih k).2⟩
theorem Rats.app {C : Addr} {H : Hp} {vs ws : List V} {xs ys : List (Int × Int)} (h : Rats C H vs xs) (k : Rats C H ws ys) : Rats C H (vs ++ ws) (xs ++ ys) := by
  induction h with
  | nil => exact k
  | cons a _ ih => exact .cons a ih
theorem Rats.rev {C : Addr} {H : Hp} {vs : List V} {xs : List (Int × Int)} (h : Rats C H vs xs) : Rats C H vs.reverse xs.reverse := by
  induction h with
  | nil => exact .nil
  | cons a _ ih =>
    rw [List.reverse_cons, List.reverse_cons]
    exact ih.snoc a
theorem Rats.rep {C : Addr} {H : Hp} {r : Addr} {x : Int × Int} (h : Rat C H r x.1 x.2) : ∀ k : Nat, Rats C H (List.replicate k (.ref r)) (List.replicate k x)
  | 0 => .nil
  | k + 1 => by
    rw [List.replicate_succ, List.replicate_succ]
    exact .cons h (Rats.rep h k)
theorem cut_take {vs : List V} {c : Int} (h0 : 0 ≤ c) (h : c ≤ vs.length) : cutV vs none (some c) = vs.take c.toNat := by
  unfold cutV HT.sIx
  simp only [List.drop_zero]
  congr 1
  rw [if_neg (by omega)]
  omega
theorem cut_drop {vs : List V} {c : Int} (h0 : 0 ≤ c) (h : c ≤ vs.length) : cutV vs (some c) none = vs.drop c.toNat := by
  obtain ⟨k, rfl⟩ : ∃ k : Nat, c = k := ⟨c.toNat, by omega⟩
  unfold cutV
  rw [HT.sIx_none, HT.sIx_nat, Nat.min_eq_left (by omega), Int.toNat_natCast]
  exact List.take_of_length_le (by rw [List.length_drop]; omega)
theorem tot_400 : tot (List.replicate 400 (1, 400)) = (1, 1) := by
  have e := tot_same_parts (b := 400) (n := 10) (by decide) ⟨by decide, by decide, by decide, by decide⟩ 400
  exact e.trans (by decide +kernel)
theorem take_400 (k : Nat) (hk : k ≤ 400) : Lp 3500 (tot ((List.replicate 400 ((1 : Int), (400 : Int))).take k)) := by
  rw [List.take_replicate, Nat.min_eq_left hk]
  have e := tot_same_parts (b := 400) (n := 10) (by decide) ⟨by decide, by decide, by decide, by decide⟩ k
  have e' : tot (List.replicate k ((1 : Int), (400 : Int))) = low (k : Int) 400 := e
  rw [e']
  exact (Lp.low (n := 10) (by decide) (by unfold Bt; omega) (by decide)).mono (by decide)
end G

/-! == and != with an object that has its own __eq__ on either side. -/
namespace PySem.SeqAt
open AutoSeq1 (wpAny_loadPart')
open MeetsSeq
section
variable {prog : Program} {w : World} {A : Around} {E : Value → Shared → Prop} {s : Shared} {K : PySem.W.Frag} {x C : Addr} {ox : Obj} {od : Option Obj}
/-- what is known of the object: no list, tuple, dict -/
structure Onx (prog : Program) (w : World) (h : Heap) (b : Addr) : Prop where
  at_ : ∃ c d sl, h.get? b = some { cls := c, dict := d, data := .plain, slots := sl }
  li : PySem.W.Looks (model prog w) h (isInstance (.ref b) (.type "list")) false
  tu : PySem.W.Looks (model prog w) h (isInstance (.ref b) (.type "tuple")) false
  di : PySem.W.Looks (model prog w) h (isInstance (.ref b) (.type "dict")) false

theorem no_int_eq {b : Addr} {i : Int} {u : Tok} : MeetsIn prog w (Builtin.«int.__eq__» ⟨[.int i u, .ref b], []⟩) (fun _ R s => Onx prog w s.heap b ∧ R (.ok (.ret .notImplemented)) s) := by
  intro A R s h
  obtain ⟨hp, g, d, tk, os⟩ := s
  obtain ⟨⟨⟨c, dd, sl, hl⟩, _, _, _⟩, h⟩ := h
  wp_walk using wpAny_loadPart' hl, wpAny_load hl
  exact h

theorem no_bool_eq {b : Addr} {i : Bool} : MeetsIn prog w (Builtin.«int.__eq__» ⟨[.bool i, .ref b], []⟩) (fun _ R s => Onx prog w s.heap b ∧ R (.ok (.ret .notImplemented)) s) := by
  intro A R s h
  obtain ⟨hp, g, d, tk, os⟩ := s
  obtain ⟨⟨⟨c, dd, sl, hl⟩, _, _, _⟩, h⟩ := h
  wp_walk using wpAny_loadPart' hl, wpAny_load hl
  exact h

theorem no_str_eq {b : Addr} {i : Str} {u : Tok} : MeetsIn prog w (Builtin.«str.__eq__» ⟨[.str i u, .ref b], []⟩) (fun _ R s => Onx prog w s.heap b ∧ R (.ok (.ret .notImplemented)) s) := by
  intro A R s h
  obtain ⟨hp, g, d, tk, os⟩ := s
  obtain ⟨⟨⟨c, dd, sl, hl⟩, _, _, _⟩, h⟩ := h
  wp_walk using wpAny_loadPart' hl, wpAny_load hl
  exact h

theorem no_none_eq {b : Addr}  : MeetsIn prog w (Builtin.«NoneType.__eq__» ⟨[.none, .ref b], []⟩) (fun _ R s => Onx prog w s.heap b ∧ R (.ok (.ret .notImplemented)) s) := by
  intro A R s h
  obtain ⟨hp, g, d, tk, os⟩ := s
  obtain ⟨⟨⟨c, dd, sl, hl⟩, _, _, _⟩, h⟩ := h
  wp_walk using wpAny_loadPart' hl, wpAny_load hl
  exact h

theorem no_list_eq {a b : Addr} {items : Array Value} {n : Nat} {dd : Option Addr} {sl : Array (Option Value)} : MeetsIn prog w (Builtin.«list.__eq__» ⟨[.ref a, .ref b], []⟩) (fun _ R s => s.heap.get? a = some { cls := .type "list", dict := dd, data := .seq items n, slots := sl } ∧ Onx prog w s.heap b ∧ R (.ok (.ret .notImplemented)) s) := by
  intro A R s h
  obtain ⟨hp, g, d, tk, os⟩ := s
  obtain ⟨ha, ⟨⟨c, dd, sl, hl⟩, hli, htu, hdi⟩, h⟩ := h
  wp_walk using wpAny_loadPart' ha, (PySem.W.Looks.at hli)
  exact h

theorem no_tuple_eq {a b : Addr} {items : Array Value} {n : Nat} {dd : Option Addr} {sl : Array (Option Value)} : MeetsIn prog w (Builtin.«tuple.__eq__» ⟨[.ref a, .ref b], []⟩) (fun _ R s => s.heap.get? a = some { cls := .type "tuple", dict := dd, data := .seq items n, slots := sl } ∧ Onx prog w s.heap b ∧ R (.ok (.ret .notImplemented)) s) := by
  intro A R s h
  obtain ⟨hp, g, d, tk, os⟩ := s
  obtain ⟨ha, ⟨⟨c, dd, sl, hl⟩, hli, htu, hdi⟩, h⟩ := h
  wp_walk using wpAny_loadPart' ha, (PySem.W.Looks.at htu)
  exact h

theorem no_dict_eq {a b : Addr} {items : Array DictEntry} {n : Nat} {dd : Option Addr} {sl : Array (Option Value)} : MeetsIn prog w (Builtin.«dict.__eq__» ⟨[.ref a, .ref b], []⟩) (fun _ R s => s.heap.get? a = some { cls := .type "dict", dict := dd, data := .dict items n, slots := sl } ∧ Onx prog w s.heap b ∧ R (.ok (.ret .notImplemented)) s) := by
  intro A R s h
  obtain ⟨hp, g, d, tk, os⟩ := s
  obtain ⟨ha, ⟨⟨c, dd, sl, hl⟩, hli, htu, hdi⟩, h⟩ := h
  wp_walk using wpAny_loadPart' ha, (PySem.W.Looks.at hdi)
  exact h

theorem no_int_ne {b : Addr} {i : Int} {u : Tok} : MeetsIn prog w (Builtin.«int.__ne__» ⟨[.int i u, .ref b], []⟩) (fun _ R s => Onx prog w s.heap b ∧ R (.ok (.ret .notImplemented)) s) := by
  intro A R s h
  obtain ⟨hp, g, d, tk, os⟩ := s
  obtain ⟨⟨⟨c, dd, sl, hl⟩, _, _, _⟩, h⟩ := h
  wp_walk using wpAny_loadPart' hl, wpAny_load hl
  exact h

theorem no_bool_ne {b : Addr} {i : Bool} : MeetsIn prog w (Builtin.«int.__ne__» ⟨[.bool i, .ref b], []⟩) (fun _ R s => Onx prog w s.heap b ∧ R (.ok (.ret .notImplemented)) s) := by
  intro A R s h
  obtain ⟨hp, g, d, tk, os⟩ := s
  obtain ⟨⟨⟨c, dd, sl, hl⟩, _, _, _⟩, h⟩ := h
  wp_walk using wpAny_loadPart' hl, wpAny_load hl
  exact h

theorem no_str_ne {b : Addr} {i : Str} {u : Tok} : MeetsIn prog w (Builtin.«str.__ne__» ⟨[.str i u, .ref b], []⟩) (fun _ R s => Onx prog w s.heap b ∧ R (.ok (.ret .notImplemented)) s) := by
  intro A R s h
  obtain ⟨hp, g, d, tk, os⟩ := s
  obtain ⟨⟨⟨c, dd, sl, hl⟩, _, _, _⟩, h⟩ := h
  wp_walk using wpAny_loadPart' hl, wpAny_load hl
  exact h

theorem no_none_ne {b : Addr}  : MeetsIn prog w (Builtin.«NoneType.__ne__» ⟨[.none, .ref b], []⟩) (fun _ R s => Onx prog w s.heap b ∧ R (.ok (.ret .notImplemented)) s) := by
  intro A R s h
  obtain ⟨hp, g, d, tk, os⟩ := s
  obtain ⟨⟨⟨c, dd, sl, hl⟩, _, _, _⟩, h⟩ := h
  wp_walk using wpAny_loadPart' hl, wpAny_load hl
  exact h

theorem no_list_ne {a b : Addr} {items : Array Value} {n : Nat} {dd : Option Addr} {sl : Array (Option Value)} : MeetsIn prog w (Builtin.«list.__ne__» ⟨[.ref a, .ref b], []⟩) (fun _ R s => s.heap.get? a = some { cls := .type "list", dict := dd, data := .seq items n, slots := sl } ∧ Onx prog w s.heap b ∧ R (.ok (.ret .notImplemented)) s) := by
  intro A R s h
  obtain ⟨hp, g, d, tk, os⟩ := s
  obtain ⟨ha, ⟨⟨c, dd, sl, hl⟩, hli, htu, hdi⟩, h⟩ := h
  wp_walk using wpAny_loadPart' ha, (PySem.W.Looks.at hli)
  exact h

theorem no_tuple_ne {a b : Addr} {items : Array Value} {n : Nat} {dd : Option Addr} {sl : Array (Option Value)} : MeetsIn prog w (Builtin.«tuple.__ne__» ⟨[.ref a, .ref b], []⟩) (fun _ R s => s.heap.get? a = some { cls := .type "tuple", dict := dd, data := .seq items n, slots := sl } ∧ Onx prog w s.heap b ∧ R (.ok (.ret .notImplemented)) s) := by
  intro A R s h
  obtain ⟨hp, g, d, tk, os⟩ := s
  obtain ⟨ha, ⟨⟨c, dd, sl, hl⟩, hli, htu, hdi⟩, h⟩ := h
  wp_walk using wpAny_loadPart' ha, (PySem.W.Looks.at htu)
  exact h

theorem no_dict_ne {a b : Addr} {items : Array DictEntry} {n : Nat} {dd : Option Addr} {sl : Array (Option Value)} : MeetsIn prog w (Builtin.«dict.__ne__» ⟨[.ref a, .ref b], []⟩) (fun _ R s => s.heap.get? a = some { cls := .type "dict", dict := dd, data := .dict items n, slots := sl } ∧ Onx prog w s.heap b ∧ R (.ok (.ret .notImplemented)) s) := by
  intro A R s h
  obtain ⟨hp, g, d, tk, os⟩ := s
  obtain ⟨ha, ⟨⟨c, dd, sl, hl⟩, hli, htu, hdi⟩, h⟩ := h
  wp_walk using wpAny_loadPart' ha, (PySem.W.Looks.at hdi)
  exact h

end
end PySem.SeqAt

namespace G
open PySem PySem.Spec PyProof.Rows PySem.SeqAt L2
/-- no object of the class is one of these -/
structure Far (K : PySem.W.Frag) (C : Addr) : Prop where
  i : PySem.W.subIn K (.ref C) (.type "int") = some false
  b : PySem.W.subIn K (.ref C) (.type "bool") = some false
  s : PySem.W.subIn K (.ref C) (.type "str") = some false
  n : PySem.W.subIn K (.ref C) (.type "NoneType") = some false
  l : PySem.W.subIn K (.ref C) (.type "list") = some false
  t : PySem.W.subIn K (.ref C) (.type "tuple") = some false
  d : PySem.W.subIn K (.ref C) (.type "dict") = some false
/-- a value of a built-in kind -/
inductive Pl (H : Hp) : V → String → Prop
  | non : Pl H .non "NoneType"
  | bl (x : Bool) : Pl H (.bl x) "bool"
  | int (i : Int) : Pl H (.int i) "int"
  | str (x : Str) : Pl H (.str x) "str"
  | lst {a : Addr} {xs : List V} (e : H a = some (.lst xs)) : Pl H (.ref a) "list"
  | tup {a : Addr} {xs : List V} (e : H a = some (.tup xs)) : Pl H (.ref a) "tuple"
  | dK {a : Addr} {kvs : List (Key × V)} (e : H a = some (.dK kvs)) : Pl H (.ref a) "dict"
theorem Pl.ty {K : PySem.W.Frag} {H : Hp} {x : V} {T : String} (h : Pl H x T) : TyX K H x (.type T) := by
  cases h with
  | non => exact .base .non
  | bl x => exact .base (.bl x)
  | int i => exact .base (.int i)
  | str x => exact .base (.str x)
  | lst e => exact .base (.lst e)
  | tup e => exact .base (.tup e)
  | dK e => exact .base (.dK e)
theorem Pl.same {H H' : Hp} {x : V} {T : String} (h : Pl H x T) (e : Same H H') : Pl H' x T := by
  cases h with
  | non => exact .non
  | bl x => exact .bl x
  | int i => exact .int i
  | str x => exact .str x
  | lst h => exact .lst (e _ _ h)
  | tup h => exact .tup (e _ _ h)
  | dK h => exact .dK (e _ _ h)
section
variable {X : Cx} {pins : List (Addr × Obj)} {σ : L2.St} {H : Hp} {s : Shared} {b C dx : Addr} {fs : List (Str × V)} {A : Around} {E : Value → Shared → Prop}
theorem onx {od : Option Obj} {prog : Program} {w : World} {K : PySem.W.Frag} (X : K.In s.heap) (J : PySem.W.InstAt s.heap b (PySem.W.instObj C dx) C od) (far : Far K C) : Onx prog w s.heap b where
  at_ := ⟨_, _, _, J.1⟩
  li := J.type.andThen (PySem.W.looks_subIn X far.l)
  tu := J.type.andThen (PySem.W.looks_subIn X far.t)
  di := J.type.andThen (PySem.W.looks_subIn X far.d)
/-- a built-in kind's own == and != decline -/
theorem Pl.dec {x : V} {u : Value} {T : String} (h : Pl H x T) (I : Inv X pins σ H s) (r : RelV x u) (o : Onx X.prog X.w s.heap b) {K : PySem.W.Frag} (far : Far K C) (op : CmpOp) (hop : op = .Eq ∨ op = .NotEq) :
    s.TypeIs u T ∧ PySem.W.subIn K (.ref C) (.type T) = some false ∧ ∃ id, Slot T (cmpInfo op).2.1 id ∧ ∀ (A : Around) (E Q : Value → Shared → Prop), Q .notImplemented s → wpAny (model X.prog X.w) A (call (.builtin id) [u, .ref b]) Q E s := by
  cases h with
  | non =>
    cases (show u = Value.none from r)
    refine ⟨rfl, far.n, ?_⟩
    rcases hop with rfl | rfl
    · exact ⟨_, F.slot_NoneType_eq, fun A E Q q => call_meetsIn F.slot_NoneType_eq rfl F.entry_NoneType_eq (F.args_NoneType_eq_2 _ _) no_none_eq ⟨o, q⟩⟩
    · exact ⟨_, F.slot_NoneType_ne, fun A E Q q => call_meetsIn F.slot_NoneType_ne rfl F.entry_NoneType_ne (F.args_NoneType_ne_2 _ _) no_none_ne ⟨o, q⟩⟩
  | bl y =>
    cases (show u = Value.bool y from r)
    refine ⟨rfl, far.b, ?_⟩
    rcases hop with rfl | rfl
    · exact ⟨_, F.slot_bool_eq, fun A E Q q => call_meetsIn F.slot_bool_eq rfl F.entry_int_eq (F.args_int_eq_2 _ _) no_bool_eq ⟨o, q⟩⟩
    · exact ⟨_, F.slot_bool_ne, fun A E Q q => call_meetsIn F.slot_bool_ne rfl F.entry_int_ne (F.args_int_ne_2 _ _) no_bool_ne ⟨o, q⟩⟩
  | int i =>
    obtain ⟨t, rfl⟩ := (show ∃ t, u = Value.int i t from r)
    refine ⟨rfl, far.i, ?_⟩
    rcases hop with rfl | rfl
    · exact ⟨_, F.slot_int_eq, fun A E Q q => call_meetsIn F.slot_int_eq rfl F.entry_int_eq (F.args_int_eq_2 _ _) no_int_eq ⟨o, q⟩⟩
    · exact ⟨_, F.slot_int_ne, fun A E Q q => call_meetsIn F.slot_int_ne rfl F.entry_int_ne (F.args_int_ne_2 _ _) no_int_ne ⟨o, q⟩⟩
  | str y =>
    obtain ⟨t, rfl⟩ := (show ∃ t, u = Value.str y t from r)
    refine ⟨rfl, far.s, ?_⟩
    rcases hop with rfl | rfl
    · exact ⟨_, F.slot_str_eq, fun A E Q q => call_meetsIn F.slot_str_eq rfl F.entry_str_eq (F.args_str_eq_2 _ _) no_str_eq ⟨o, q⟩⟩
    · exact ⟨_, F.slot_str_ne, fun A E Q q => call_meetsIn F.slot_str_ne rfl F.entry_str_ne (F.args_str_ne_2 _ _) no_str_ne ⟨o, q⟩⟩
  | @lst a xs ea =>
    cases (show u = Value.ref a from r)
    obtain ⟨_, _, n, _, h1⟩ := (show ObjOk X.prog X.w H s.heap a (.lst xs) from I.hok a _ ea)
    refine ⟨⟨_, h1, rfl⟩, far.l, ?_⟩
    rcases hop with rfl | rfl
    · exact ⟨_, F.slot_list_eq, fun A E Q q => call_meetsIn F.slot_list_eq ⟨_, h1, rfl⟩ F.entry_list_eq (F.args_list_eq_2 _ _) no_list_eq ⟨h1, o, q⟩⟩
    · exact ⟨_, F.slot_list_ne, fun A E Q q => call_meetsIn F.slot_list_ne ⟨_, h1, rfl⟩ F.entry_list_ne (F.args_list_ne_2 _ _) no_list_ne ⟨h1, o, q⟩⟩
  | @tup a xs ea =>
    cases (show u = Value.ref a from r)
    obtain ⟨_, _, _, ob, h1, h2, n, h3⟩ := (show ObjOk X.prog X.w H s.heap a (.tup xs) from I.hok a _ ea)
    obtain ⟨oc, od, dt, sl⟩ := ob
    simp only at h2 h3
    subst h2 h3
    refine ⟨⟨_, h1, rfl⟩, far.t, ?_⟩
    rcases hop with rfl | rfl
    · exact ⟨_, F.slot_tuple_eq, fun A E Q q => call_meetsIn F.slot_tuple_eq ⟨_, h1, rfl⟩ F.entry_tuple_eq (F.args_tuple_eq_2 _ _) no_tuple_eq ⟨h1, o, q⟩⟩
    · exact ⟨_, F.slot_tuple_ne, fun A E Q q => call_meetsIn F.slot_tuple_ne ⟨_, h1, rfl⟩ F.entry_tuple_ne (F.args_tuple_ne_2 _ _) no_tuple_ne ⟨h1, o, q⟩⟩
  | @dK a kvs ea =>
    cases (show u = Value.ref a from r)
    obtain ⟨_, _, vs, _, p⟩ := (show ObjOk X.prog X.w H s.heap a (.dK kvs) from I.hok a _ ea)
    obtain ⟨ob, es, ep, h1, h2, h3, _⟩ := p
    obtain ⟨oc, od, dt, sl⟩ := ob
    obtain ⟨h4, h5, h6⟩ := h2
    simp only at h3 h4 h5 h6
    subst h3 h4 h5 h6
    refine ⟨⟨_, h1, rfl⟩, far.d, ?_⟩
    rcases hop with rfl | rfl
    · exact ⟨_, F.slot_dict_eq, fun A E Q q => call_meetsIn F.slot_dict_eq ⟨_, h1, rfl⟩ F.entry_dict_eq (F.args_dict_eq_2 _ _) no_dict_eq ⟨h1, o, q⟩⟩
    · exact ⟨_, F.slot_dict_ne, fun A E Q q => call_meetsIn F.slot_dict_ne ⟨_, h1, rfl⟩ F.entry_dict_ne (F.args_dict_ne_2 _ _) no_dict_ne ⟨h1, o, q⟩⟩
end
end G
namespace G
open PySem PySem.Spec PyProof.Rows PySem.SeqAt L2
section
variable {M : Model} {prog : Program} {w : World} {A : Around} {E : Value → Shared → Prop} {s : Shared} {K : PySem.W.Frag} {x C f : Addr} {ox : Obj} {od : Option Obj} {y : Value}
/-- an own class keeps object's != -/
structure NeM (K : PySem.W.Frag) (C : Addr) : Prop where
  ne : PySem.W.findIn K (.ref C) "__ne__" = some (some (.builtin "object.__ne__"))
  ob : PySem.W.mroIn K C (.type "object") = some true
theorem ifBound_objNe {args : List Value} {Q : Option Value → Shared → Prop} (X : K.In s.heap) (I : PySem.W.InstAt s.heap x ox C od) (hs : PySem.W.findIn K (.ref C) "__ne__" = some (some (.builtin "object.__ne__")))
    (h : wpAny M A (call (.builtin "object.__ne__") (.ref x :: args)) (fun v => Q (some v)) E s) : wpAny M A (callSpecialIfBound? (.ref x) "__ne__" args) Q E s := by
  simp only [callSpecialIfBound?, bindSpecialIfBound?]
  refine wpAny_holding (wpAny_bind (wpAny_bind (wpAny_bind (I.type.here ((PySem.W.looks_findIn X hs).here ?_)))))
  refine wpAny_bind (wpAny_askSetting (wpAny_ite ?_))
  have fin : wpAny M A (call (.builtin "object.__ne__") ([.ref x] ++ args) >>= fun v => pure (some v)) Q E s := wpAny_bind (wpAny_mono h (fun v s' h' => wpAny_pure h') fun _ _ h' => h')
  split
  · exact wpAny_bind (wpAny_of_eq (F.cmp_object.ne.bind _) (wpAny_pure (by exact fin)))
  · exact wpAny_tryCatch (wpAny_bind (wpAny_of_eq (F.cmp_object.ne.bind _) (wpAny_pure (by exact fin))))
theorem try_ne {Q : Option Value → Shared → Prop} (X : K.In s.heap) (I : PySem.W.InstAt s.heap x ox C od) (N : NeM K C) (he : PySem.W.findIn K (.ref C) "__eq__" = some (some (.ref f))) (hf : PySem.W.isFn K (.ref f) = true) (hu : A.units + 1 < cLine)
    (h : wpAny (model prog w) A.in1 (call (.ref f) [.ref x, y]) (fun v s' => ∃ k, v = .bool k ∧ Q (some (.bool (!k))) s') E s) : wpAny (model prog w) A (tryCompare (.ref x) "__ne__" y) Q E s := by
  unfold tryCompare
  refine wpAny_bind (ifBound_objNe X I N.ne ?_)
  refine wpAny_call (codeAny_call_builtin F.cmp_object.ne.plain F.cmpEntry_ne (PySem.W.check_slot F.cmpKind_ne F.cmpSplit_ne (I.type.andThen (PySem.W.looks_mroIn X N.ob)) (F.cmpArgs_ne _ _) ?_))
  unfold Builtin.«object.__ne__»
  repeat (first
    | with_reducible refine wpAny_cRoomFor hu ?_
    | (refine wpAny_bind (m := callSpecialIfBound? (.ref x) (Str.ofString "__eq__") [y]) (PySem.W.ifBound_K X I he hf (wpAny_mono h (fun r s' hr => by
          obtain ⟨b, rfl, hq⟩ := hr
          repeat (first | exact wpAny_pure (wpAny_pure hq) | exact wpAny_pure hq | (refine wpAny_bind (m := truthy (.bool _)) (wpAny_truthy_bool ?_)) | wp_step)) fun _ _ e => e)))
    | wp_step)
end
end G
namespace G
open PySem PySem.Spec PyProof.Rows PySem.SeqAt L2
section
variable {prog : Program} {w : World} {A : Around} {E : Value → Shared → Prop} {s : Shared} {K : PySem.W.Frag} {x C f : Addr} {ox : Obj} {od : Option Obj} {y : Value}
/-- the left one declines, the right one's class answers -/
theorem rc_refl {op : CmpOp} {u : Value} {T id : String} {Q : Value → Shared → Prop} (hu : A.units < cLine) (ht : s.TypeIs u T) (X : K.In s.heap) (I : PySem.W.InstAt s.heap x ox C od) (hsub : PySem.W.subIn K (.ref C) (.type T) = some false)
    (sl : Slot T (cmpInfo op).2.1 id) (hd : ∀ (A : Around) (E Q : Value → Shared → Prop), Q .notImplemented s → wpAny (model prog w) A (call (.builtin id) [u, .ref x]) Q E s)
    (h : wpAny (model prog w) A (tryCompare (.ref x) (cmpInfo op).2.2 u) (fun r s' => ∃ v, r = some v ∧ Q v s') E s) : wpAny (model prog w) A (richCompare op u (.ref x)) Q E s := by
  rcases hi : cmpInfo op with ⟨sym, m, r⟩
  rw [hi] at sl h
  simp only [richCompare, hi, ht.oneThing_none]
  refine wpAny_holding (wpAny_bind (wpAny_cRoomFor hu ?_))
  refine wpAny_bind (wpAny_typeOf ht (wpAny_bind (I.type.here ?_)))
  have hne : (Value.type T != Value.ref C) = true := by simp
  simp only [hne, if_true]
  refine wpAny_bind ((PySem.W.looks_subIn X hsub).here ?_)
  simp only [Bool.false_eq_true, if_false, Bool.not_false, if_true]
  refine wpAny_bind (m := tryCompare u _ (.ref x)) (wpAny_tryCompare_declines ht sl (hd _ _ _ ⟨rfl, ?_⟩))
  refine wpAny_bind (m := tryCompare (.ref x) _ u) (wpAny_mono h (fun r s' z => ?_) fun _ _ e => e)
  obtain ⟨v, rfl, q⟩ := z
  exact wpAny_pure q
theorem rc_ne {tb : Value} {Q : Value → Shared → Prop} (hu : A.units < cLine) (X : K.In s.heap) (I : PySem.W.InstAt s.heap x ox C od) (hb : PySem.W.Looks (model prog w) s.heap (typeOf y) tb) (hn : PySem.W.notFirst K C tb = true)
    (one : wpAny (model prog w) A (tryCompare (.ref x) "__ne__" y) (fun r s' => ∃ v, r = some v ∧ Q v s') E s) : wpAny (model prog w) A (richCompare .NotEq (.ref x) y) Q E s := by
  unfold richCompare
  simp only [oneThing_ref]
  rw [cmpInfo_NotEq]
  refine wpAny_holding (wpAny_bind (wpAny_cRoomFor hu ?_))
  refine wpAny_bind (I.type.here (wpAny_bind (hb.here ?_)))
  split
  · rename_i q
    have e : PySem.W.subIn K tb (.ref C) = some false := by
      rcases Bool.or_eq_true_iff.mp hn with e | e
      · rw [beq_iff_eq.mp e] at q; simp at q
      · exact beq_iff_eq.mp e
    refine wpAny_bind ((PySem.W.looks_subIn X e).here ?_)
    simp only [Bool.false_eq_true, if_false]
    refine wpAny_bind (wpAny_mono one (fun r s' z => ?_) fun _ _ e => e)
    obtain ⟨v, rfl, hq⟩ := z
    exact wpAny_pure hq
  · refine wpAny_bind (wpAny_pure ?_)
    simp only [Bool.false_eq_true, if_false]
    refine wpAny_bind (wpAny_mono one (fun r s' z => ?_) fun _ _ e => e)
    obtain ⟨v, rfl, hq⟩ := z
    exact wpAny_pure hq
end
section
variable {X : Cx} {k : Nat} {f C : Addr} {fd : FuncData} {ps : List Str} {sp : Sp} {E : XK}
/-- a def run from an inner step of a built-in -/
theorem run_in {CX : CXT} {pins : List (Addr × Obj)} {σ : L2.St} {H : Hp} {s : Shared} {Q : VK} {us : List Value} {vs : List V} {A : Around} (F : FnOk X.prog X.w X.K X.mg X.base CX k f fd ps sp) (hA : A.frames = X.A.frames) (hr : Room k A) (hb : Binds X.K fd ps [])
    (hx : Passes CX X E) (I : Inv X pins σ H s) (r : Vals vs us) (h : sp vs H Q E) : wpAny (model X.prog X.w) A (call (.ref f) us) (EP X pins σ Q) X.xe s := by
  have e0 : Env0 X.prog X.w X.K X.mg X.base A X.stack s H := by
    have e := I.env0
    exact ⟨by rw [hA]; exact e.frames, e.mod, e.bs, e.bsz, e.funs, e.frf, e.hok, e.bare⟩
  have hl := F.len _ _ _ _ h
  refine wpAny_call (codeAny_mono (F.run A X.stack s H ⟨us, []⟩ us vs Q E hr e0 (by
    have := hb s us I.kIn (by rw [List.append_nil, ← r.length]; exact hl)
    simpa using this) r h) fun r s' hq => ?_)
  cases r with
  | error e => exact hx pins σ H s e s' I hq
  | ok fl =>
    cases fl with
    | ret w => exact I.after hq
    | next => exact False.elim hq
    | brk => exact False.elim hq
    | cont => exact False.elim hq
/-- x != y by the left one's __eq__ -/
def rNeO (K : PySem.W.Frag) (C : Addr) (sp : Sp) (E : XK) : R2 := fun x y H Q => ∃ a dx fs t, x = .ref a ∧ H a = some (.ins C dx fs) ∧ TyX K H y t ∧ PySem.W.notFirst K C t = true ∧ sp [x, y] H (fun v H' => ∃ c, v = .bl c ∧ Q (.bl (!c)) H') E
theorem op_neO {CX : CXT} (F : FnOk X.prog X.w X.K X.mg X.base CX k f fd ps sp) (hr : Room (k + 1) X.A) (hb : Binds X.K fd ps []) (hx : Passes CX X E) (m : OpM X.K C "__eq__" f) (N : NeM X.K C) :
    OpR X (compareOp .NotEq) (rNeO X.K C sp E) := by
  intro pins s σ H x y v u Q I rx ry h
  obtain ⟨a, dx, fs, t, rfl, ea, ty, hn, q⟩ := h
  obtain rfl : v = Value.ref a := rx
  obtain ⟨mA, O, _⟩ := ins_get I.hok ea
  obtain ⟨od, J, _⟩ := O.look
  obtain ⟨mm, fr⟩ := I.fr
  obtain ⟨P, Z, hp, hne⟩ := kit_of I ry ty
  show wpAny _ _ (richCompare .NotEq (.ref a) u) _ _ _
  have lk : PySem.W.Looks (model X.prog X.w) s.heap (typeOf u) t := Z.ty _ _ I.kIn hp
  refine rc_ne hr.units0 I.kIn J lk hn ?_
  refine try_ne I.kIn J N m.at_ m.fn (by have := hr.un; omega) ?_
  refine wpAny_mono (run_in (A := X.A.in1) (us := [.ref a, u]) (vs := [.ref a, y]) F rfl hr.in1 hb hx I (.cons rfl (.cons ry .nil)) q) (fun w s' hw => ?_) fun _ _ e => e
  obtain ⟨z, H', I', rz, c, ez, qz⟩ := hw
  subst ez
  cases (show w = Value.bool c from rz)
  exact ⟨c, rfl, .bool (!c), rfl, .bl (!c), H', I', rfl, qz⟩
/-- v == x, v of a built-in kind, by x's __eq__ -/
def rEqR (C : Addr) (sp : Sp) (E : XK) : R2 := fun x y H Q => ∃ b dx fs T, y = .ref b ∧ H b = some (.ins C dx fs) ∧ Pl H x T ∧ sp [y, x] H Q E
theorem op_eqR {CX : CXT} (F : FnOk X.prog X.w X.K X.mg X.base CX k f fd ps sp) (hr : Room k X.A) (hb : Binds X.K fd ps []) (hx : Passes CX X E) (m : OpM X.K C "__eq__" f) (far : Far X.K C) :
    OpR X (compareOp .Eq) (rEqR C sp E) := by
  intro pins s σ H x y v u Q I rx ry h
  obtain ⟨b, dx, fs, T, rfl, eb, pl, q⟩ := h
  obtain rfl : u = Value.ref b := ry
  obtain ⟨mA, O, _⟩ := ins_get I.hok eb
  obtain ⟨od, J, _⟩ := O.look
  obtain ⟨ht, hs, id, sl, hd⟩ := pl.dec I rx (onx I.kIn J far) far .Eq (.inl rfl)
  show wpAny _ _ (richCompare .Eq v (.ref b)) _ _ _
  refine rc_refl hr.units0 ht I.kIn J hs sl hd ?_
  show wpAny _ _ (tryCompare (.ref b) "__eq__" v) _ _ _
  unfold tryCompare
  refine wpAny_bind (PySem.W.ifBound_K I.kIn J m.at_ m.fn (wpAny_mono (run_fn (us := [.ref b, v]) (vs := [.ref b, x]) F hr hb .nil hx I (.cons rfl (.cons rx .nil)) q) (fun w s' hw => ?_) fun _ _ e => e))
  obtain ⟨z, H', I', rz, qz⟩ := hw
  have cb : PySem.W.CmpBack (EP X pins σ Q) w s' := mono_rel rz ⟨z, H', I', rz, qz⟩
  cases w <;> first | exact cb.elim | exact wpAny_pure ⟨_, rfl, ⟨z, H', I', rz, qz⟩⟩
/-- v != x -/
def rNeR (C : Addr) (sp : Sp) (E : XK) : R2 := fun x y H Q => ∃ b dx fs T, y = .ref b ∧ H b = some (.ins C dx fs) ∧ Pl H x T ∧ sp [y, x] H (fun v H' => ∃ c, v = .bl c ∧ Q (.bl (!c)) H') E
theorem op_neR {CX : CXT} (F : FnOk X.prog X.w X.K X.mg X.base CX k f fd ps sp) (hr : Room (k + 1) X.A) (hb : Binds X.K fd ps []) (hx : Passes CX X E) (m : OpM X.K C "__eq__" f) (N : NeM X.K C) (far : Far X.K C) :
    OpR X (compareOp .NotEq) (rNeR C sp E) := by
  intro pins s σ H x y v u Q I rx ry h
  obtain ⟨b, dx, fs, T, rfl, eb, pl, q⟩ := h
  obtain rfl : u = Value.ref b := ry
  obtain ⟨mA, O, _⟩ := ins_get I.hok eb
  obtain ⟨od, J, _⟩ := O.look
  obtain ⟨ht, hs, id, sl, hd⟩ := pl.dec I rx (onx I.kIn J far) far .NotEq (.inr rfl)
  show wpAny _ _ (richCompare .NotEq v (.ref b)) _ _ _
  refine rc_refl hr.units0 ht I.kIn J hs sl hd ?_
  refine try_ne I.kIn J N m.at_ m.fn (by have := hr.un; omega) ?_
  refine wpAny_mono (run_in (A := X.A.in1) (us := [.ref b, v]) (vs := [.ref b, x]) F rfl hr.in1 hb hx I (.cons rfl (.cons rx .nil)) q) (fun w s' hw => ?_) fun _ _ e => e
  obtain ⟨z, H', I', rz, c, ez, qz⟩ := hw
  subst ez
  cases (show w = Value.bool c from rz)
  exact ⟨c, rfl, .bool (!c), rfl, .bl (!c), H', I', rfl, qz⟩
end
end G
namespace G
open PySem PySem.Spec PyProof.Rows L2
/-- x is a bool, x None or a bool -/
def rIsNB : R2 := fun x y H Q => ∃ b, y = .bl b ∧ ((x = .non ∧ Q (.bl false) H) ∨ ∃ a, x = .bl a ∧ Q (.bl (decide (a = b))) H)
def rIsNn : R2 := fun x y H Q => y = .non ∧ Q (.bl (decide (x = .non))) H
def rNotNn : R2 := fun x y H Q => y = .non ∧ Q (.bl (!decide (x = .non))) H
theorem op_isNn {X : Cx} : OpR X (compareOp .Is) rIsNn := op_isN
theorem op_notNn {X : Cx} : OpR X (compareOp .IsNot) rNotNn := op_notN
theorem op_isNB {X : Cx} : OpR X (compareOp .Is) rIsNB := by
  intro pins s σ H x y v u Q I rx ry h
  obtain ⟨b, rfl, h⟩ := h
  rcases h with ⟨rfl, q⟩ | ⟨a, rfl, q⟩
  · cases (show v = Value.none from rx)
    cases (show u = Value.bool b from ry)
    exact wpAny_is_other rfl (fun z => nomatch z) ⟨.bl false, H, I, rfl, q⟩
  · exact op_isBl pins s σ H (.bl a) (.bl b) v u Q I rx ry ⟨a, b, rfl, rfl, q⟩
section
variable {C a : Addr} {H : Hp} {Q : VK} {E : XK} {K : PySem.W.Frag} {x : V} {T : String} {i : Int × Int}
theorem w_isNB0 {b : Bool} (q : Q (.bl false) H) : rIsNB .non (.bl b) H Q := ⟨b, rfl, .inl ⟨rfl, q⟩⟩
theorem w_isNB {a b : Bool} (q : Q (.bl (decide (a = b))) H) : rIsNB (.bl a) (.bl b) H Q := ⟨b, rfl, .inr ⟨a, rfl, q⟩⟩
theorem w_isN {b : Bool} (e : decide (x = .non) = b) (q : Q (.bl b) H) : rIsNn x .non H Q := ⟨rfl, by rw [e]; exact q⟩
theorem w_notN {b : Bool} (e : decide (x = .non) = b) (q : Q (.bl (!b)) H) : rNotNn x .non H Q := ⟨rfl, by rw [e]; exact q⟩
/-- a walk over a tuple -/
theorem w_walkT {t : Addr} {g : TG} {tb : TS} {D : Ends} {σ : L2.St} {xs : List V} (hl : SqT K H t xs) (Pv : Nat → L2.St → Hp → Prop) (h0 : Pv 0 σ H) (hk : ∀ i σ' H', i ≤ xs.length → Pv i σ' H' → SqT K H' t xs)
    (hs : ∀ (i : Nat) x σ' H', xs[i]? = some x → Pv i σ' H' → g x σ' H' fun σ2 H2 => tb { nx := Pv (i + 1), rt := D.rt, ct := Pv (i + 1), bk := D.nx } σ2 H2) (hd : ∀ σ' H', Pv xs.length σ' H' → D.nx σ' H') :
    ∃ b, V.ref t = .ref b ∧ (∃ xs, SqT K H b xs) ∧ ForW (Itt K b) g tb D σ H := ⟨t, rfl, ⟨_, hl⟩, for_tup Pv h0 hk hs hd⟩
end
end G
namespace G
open PySem PySem.Spec PyProof.Rows L2
theorem notFirst_ty {K : PySem.W.Frag} {C : Addr} {T : String} {l : List String} (h : fastBuiltinMro T = some (l.map Value.type)) : PySem.W.notFirst K C (.type T) = true := by
  have e : PySem.W.subIn K (.type T) (.ref C) = some false := by
    show (fastBuiltinMro T).map (·.contains (.ref C)) = some false
    rw [h]
    simp
  unfold PySem.W.notFirst
  rw [e]
  simp
theorem Pl.notFirst {K : PySem.W.Frag} {C : Addr} {H : Hp} {x : V} {T : String} (h : Pl H x T) : PySem.W.notFirst K C (.type T) = true := by
  cases h with
  | non => exact notFirst_ty (l := ["NoneType", "object"]) (by decide +kernel)
  | bl x => exact notFirst_ty (l := ["bool", "int", "object"]) (by decide +kernel)
  | int i => exact notFirst_ty (l := ["int", "object"]) (by decide +kernel)
  | str x => exact notFirst_ty (l := ["str", "object"]) (by decide +kernel)
  | lst e => exact notFirst_ty (l := ["list", "object"]) (by decide +kernel)
  | tup e => exact notFirst_ty (l := ["tuple", "object"]) (by decide +kernel)
  | dK e => exact notFirst_ty (l := ["dict", "object"]) (by decide +kernel)
section
variable {C p q : Addr} {H : Hp} {Q : VK} {E : XK} {K : PySem.W.Frag} {y : V} {T : String} {x z : Int × Int}
theorem w_eqPl (R : Rat C H p x.1 x.2) (h : Pl H y T) (k : PySem.W.kitOne K (.type T) (.ref C) = some false) (w : Q (.bl false) H) : rEqO K C (spEq K C) E (.ref p) y H Q :=
  let ⟨dx, e⟩ := R; ⟨p, dx, _, _, rfl, e, h.ty, h.notFirst, .inr ⟨p, x, y, _, rfl, ⟨dx, e⟩, h.ty, k, w⟩⟩
theorem w_nePl (R : Rat C H p x.1 x.2) (h : Pl H y T) (k : PySem.W.kitOne K (.type T) (.ref C) = some false) (w : Q (.bl true) H) : rNeO K C (spEq K C) E (.ref p) y H Q :=
  let ⟨dx, e⟩ := R; ⟨p, dx, _, _, rfl, e, h.ty, h.notFirst, .inr ⟨p, x, y, _, rfl, ⟨dx, e⟩, h.ty, k, false, rfl, w⟩⟩
theorem w_eqPr (R : Rat C H p x.1 x.2) (h : Pl H y T) (k : PySem.W.kitOne K (.type T) (.ref C) = some false) (w : Q (.bl false) H) : rEqR C (spEq K C) E y (.ref p) H Q :=
  let ⟨dx, e⟩ := R; ⟨p, dx, _, _, rfl, e, h, .inr ⟨p, x, y, _, rfl, ⟨dx, e⟩, h.ty, k, w⟩⟩
theorem w_nePr (R : Rat C H p x.1 x.2) (h : Pl H y T) (k : PySem.W.kitOne K (.type T) (.ref C) = some false) (w : Q (.bl true) H) : rNeR C (spEq K C) E y (.ref p) H Q :=
  let ⟨dx, e⟩ := R; ⟨p, dx, _, _, rfl, e, h, .inr ⟨p, x, y, _, rfl, ⟨dx, e⟩, h.ty, k, false, rfl, w⟩⟩
theorem w_neR (I : InsTy K C) (R : Rat C H p x.1 x.2) (S : Rat C H q z.1 z.2) (k : Q (.bl (!decide (x = z))) H) : rNeO K C (spEq K C) E (.ref p) (.ref q) H Q :=
  let ⟨dx, e⟩ := R; let ⟨dy, e'⟩ := S
  ⟨p, dx, _, _, rfl, e, I _ _ _ _ e', by unfold PySem.W.notFirst; simp, .inl ⟨p, q, x, z, rfl, ⟨dx, e⟩, ⟨dy, e'⟩, _, rfl, k⟩⟩
end
/-! ### what is less -/
theorem low_parts {u v : Int} (h : 0 < v) : ∃ g : Int, 0 < g ∧ u = g * (low u v).1 ∧ v = g * (low u v).2 := by
  have g := Int.gcd_pos_of_ne_zero_right u (show v ≠ 0 by omega)
  refine ⟨(Int.gcd u v : Int), by omega, ?_, ?_⟩
  · exact (Int.mul_ediv_cancel' (Int.gcd_dvd_left u v)).symm
  · exact (Int.mul_ediv_cancel' (Int.gcd_dvd_right u v)).symm
theorem lt_low {a b u v : Int} (h : 0 < v) : (a * (low u v).2 < (low u v).1 * b) ↔ a * v < u * b := by
  obtain ⟨g, g0, e1, e2⟩ := low_parts (u := u) h
  generalize hc : (low u v).1 = c at *
  generalize hd : (low u v).2 = d at *
  rw [e1, e2, Int.mul_left_comm a g d, Int.mul_assoc g c b]
  exact (Int.mul_lt_mul_left g0).symm
theorem low_lt {a b u v : Int} (h : 0 < v) : ((low u v).1 * b < a * (low u v).2) ↔ u * b < a * v := by
  obtain ⟨g, g0, e1, e2⟩ := low_parts (u := u) h
  generalize hc : (low u v).1 = c at *
  generalize hd : (low u v).2 = d at *
  rw [e1, e2, Int.mul_left_comm a g d, Int.mul_assoc g c b]
  exact (Int.mul_lt_mul_left g0).symm
theorem eq_low {n : Nat} {x : Int × Int} {u v : Int} (hx : Lp n x) (h : 0 < v) : x = low u v ↔ x.1 * v = u * x.2 := by
  obtain ⟨g, g0, e1, e2⟩ := low_parts (u := u) h
  constructor
  · intro e
    rw [← e] at e1 e2
    rw [e1, e2]
    grind
  · intro e
    have bu : Bt (u.natAbs.log2 + v.natAbs.log2 + 2) u := Bt.any.mono (by omega)
    have bv : Bt (u.natAbs.log2 + v.natAbs.log2 + 2) v := Bt.any.mono (by omega)
    refine val_inj hx (Lp.low h bu bv) ?_
    rw [val_low h]
    unfold val
    have q1 := cast_ne (show x.2 ≠ 0 by have := hx.1; omega)
    have q2 := cast_ne (show v ≠ 0 by omega)
    have c : (x.1 : _root_.Rat) * v = u * x.2 := by exact_mod_cast e
    grind
theorem jn2_pos {t y : Int × Int} (ht : 0 < t.1) (hy : 0 < y.1) (t2 : 0 < t.2) (y2 : 0 < y.2) : 0 < (jn 2 t y).1 := by
  rw [jn_mul]
  obtain ⟨g, g0, e1, e2⟩ := low_parts (u := t.1 * y.1) (Int.mul_pos t2 y2)
  have p := Int.mul_pos ht hy
  rw [e1] at p
  generalize (low (t.1 * y.1) (t.2 * y.2)).1 = c at *
  by_cases hc : 0 < c
  · exact hc
  · have z := Int.mul_le_mul_of_nonneg_left (show c ≤ 0 by omega) (show 0 ≤ g by omega)
    rw [Int.mul_zero] at z
    omega
theorem lt_add {h t : Int × Int} (h2 : 0 < h.2) (t1 : 0 < t.1) (t2 : 0 < t.2) : h.1 * (jn 0 h t).2 < (jn 0 h t).1 * h.2 := by
  rw [jn_add, lt_low (Int.mul_pos h2 t2), Int.add_mul]
  have p := Int.mul_pos (Int.mul_pos t1 h2) h2
  have e : h.1 * (h.2 * t.2) = h.1 * t.2 * h.2 := by rw [Int.mul_comm h.2, Int.mul_assoc]
  rw [e]
  omega
theorem sub_lt {h t : Int × Int} (h2 : 0 < h.2) (t1 : 0 < t.1) (t2 : 0 < t.2) : (jn 1 h t).1 * h.2 < h.1 * (jn 1 h t).2 := by
  rw [jn_sub, low_lt (Int.mul_pos h2 t2), Int.sub_mul]
  have p := Int.mul_pos (Int.mul_pos t1 h2) h2
  have e : h.1 * (h.2 * t.2) = h.1 * t.2 * h.2 := by rw [Int.mul_comm h.2, Int.mul_assoc]
  rw [e]
  omega
end G

/-! == of two dicts whose values are ratios. -/
namespace G
open PySem PySem.Spec PyProof.Rows PySem.SeqAt L2
section
variable {κ : Type} [DecidableEq κ] {prog : Program} {w : World} {A : Around} {knd : KeyKind prog w κ}
/-- what a dict's entries meet in another dict, the values compared by code that keeps J -/
inductive Meet {κ : Type} [DecidableEq κ] (M : Model) (A : Around) (E : Value → Shared → Prop) (J : Shared → Prop) (kb : List (κ × Value)) : List (κ × Value) → Bool → Prop
  | nil : Meet M A E J kb [] true
  | miss {k : κ} {v : Value} {r : List (κ × Value)} : valueAt kb k = none → Meet M A E J kb ((k, v) :: r) false
  | hit {k : κ} {v y : Value} {r : List (κ × Value)} {e b : Bool} : valueAt kb k = some y → (∀ s, J s → wpAny M A (eqBool v y) (fun c s' => c = e ∧ J s') E s) → Meet M A E J kb r b → Meet M A E J kb ((k, v) :: r) (e && b)
theorem Meet.inv {M : Model} {E : Value → Shared → Prop} {J : Shared → Prop} {kb : List (κ × Value)} {k : κ} {v : Value} {r : List (κ × Value)} {b : Bool} (h : Meet M A E J kb ((k, v) :: r) b) :
    (valueAt kb k = none ∧ b = false) ∨ ∃ y e b', valueAt kb k = some y ∧ (∀ s, J s → wpAny M A (eqBool v y) (fun c s' => c = e ∧ J s') E s) ∧ Meet M A E J kb r b' ∧ b = (e && b') := by
  cases h with
  | miss hn => exact .inl ⟨hn, rfl⟩
  | hit hy he hr => exact .inr ⟨_, _, _, hy, he, hr, rfl⟩
/-- two dicts whose objects stay while the values are compared -/
theorem same_pairs {nm : String} {a b : Addr} {oa ob : Obj} {es es' : Array DictEntry} {ep ep' : Nat} {va vb : List (κ × Value)} {r : Bool} {J : Shared → Prop} {E : Value → Shared → Prop} {Q : Bool → Shared → Prop}
    (ya : (a == sysModules) = false) (yb : (b == sysModules) = false) (ga : ∀ s, J s → s.heap.get? a = some oa) (gb : ∀ s, J s → s.heap.get? b = some ob) (da : oa.data = .dict es ep) (db : ob.data = .dict es' ep')
    (ka : KeysOf knd es) (kb : KeysOf knd es') (pa : Pairs knd es.toList va) (pb : Pairs knd es'.toList vb) (m : Meet (model prog w) A E J vb va r) (q : ∀ s, J s → Q (va.length == vb.length && r) s) {s : Shared} (j : J s) :
    wpAny (model prog w) A (Builtin.Dict.samePairs nm a b) Q E s := by
  have la : va.length = es.size := by rw [← pa.length]; exact Array.length_toList
  have lb : vb.length = es'.size := by rw [← pb.length]; exact Array.length_toList
  have look : ∀ k, findBy knd.is es' k = valueAt vb k := fun k => by
    rw [← pb.find k]
    clear lb pb kb db gb
    obtain ⟨l⟩ := es'
    simp [findBy]
  rw [la, lb] at q
  unfold Builtin.Dict.samePairs Builtin.Dict.showsAll
  rw [if_neg (by rw [ya]; exact Bool.false_ne_true), if_neg (by rw [yb]; exact Bool.false_ne_true)]
  refine wpAny_bind (wpAny_pure (wpAny_bind (wpAny_pure ?_)))
  refine wpAny_bind (wpAny_dictEntries (ga s j) da ?_)
  dsimp only
  refine wpAny_bind (wpAny_dictEntries (gb s j) db ?_)
  by_cases hz : es.size = es'.size
  case neg =>
    rw [if_pos (by simpa using hz)]
    have hf : (es.size == es'.size) = false := by simpa using hz
    refine wpAny_bind (wpAny_rule (wpAny_pure ?_))
    have := q s j
    rw [hf, Bool.false_and] at this
    exact this
  case pos =>
    have q' : ∀ s, J s → Q r s := fun s j => by simpa [hz] using q s j
    rw [if_neg (by rw [hz]; simp)]
    refine wpAny_bind (wpAny_dictEpoch (ga s j) da ?_)
    refine wpAny_bind ?_
    rw [Std.Legacy.Range.forIn_eq_forIn_range']
    simp only [Std.Legacy.Range.size, Nat.sub_zero, Nat.add_sub_cancel, Nat.div_one]
    refine wpAny_forIn_list _
      (fun rest c s' => J s' ∧ c = (none, ()) ∧ ∃ i, rest = List.range' i (es.size - i) ∧ i ≤ es.size ∧ Meet (model prog w) A E J vb (va.drop i) r)
      _ ?_ ?_ _ _ ⟨j, rfl, 0, by simp, Nat.zero_le _, m⟩
    · rintro x rest c s' ⟨j', rfl, i, hr, hi, hm⟩
      obtain ⟨lt, rfl, hrest⟩ : i < es.size ∧ x = i ∧ rest = List.range' (i + 1) (es.size - (i + 1)) := by
        cases hn : es.size - i with
        | zero => rw [hn] at hr; cases hr
        | succ n =>
          rw [hn, List.range'_succ] at hr
          injection hr with h1 h2
          exact ⟨by omega, h1, by rw [h2, show es.size - (i + 1) = n by omega]⟩
      have ltv : x < va.length := by omega
      rw [List.drop_eq_getElem_cons ltv] at hm
      refine wpAny_bind (wpAny_dictEntries (ga s' j') da ?_)
      rw [Array.getElem?_eq_getElem lt]
      obtain ⟨hkey, hval⟩ := pa.get? (i := x) (e := es[x]) (k := va[x].1) (v := va[x].2) (by rw [Array.getElem?_toList]; exact Array.getElem?_eq_getElem lt) (List.getElem?_eq_getElem ltv)
      have hash : es[x].hash = knd.hash va[x].1 := by
        obtain ⟨k, hk, hh⟩ := ka es[x] (Array.getElem_mem lt)
        rw [hh, knd.inj _ _ _ hk hkey]
      refine wpAny_bind (wpAny_mono (Q := fun c s2 => J s2 ∧ if c = true then Meet (model prog w) A E J vb (va.drop (x + 1)) r else r = false) ?_ (fun c s2 hc => ?_) fun _ _ z => z)
      · rw [hash]
        refine wpAny_holding (wpAny_bind (wpAny_dictFind_of hkey (gb s' j') db kb ?_))
        have at_ := (look va[x].1).symm.trans (findBy_of_findIdx? knd.is es' va[x].1)
        cases hp : es'.findIdx? fun e => knd.is va[x].1 e.key with
        | none =>
          rw [hp] at at_
          rcases hm.inv with ⟨_, er⟩ | ⟨y, _, _, hy, _⟩
          · exact wpAny_pure ⟨j', by rw [if_neg (by decide)]; exact er⟩
          · exact nomatch at_.symm.trans hy
        | some p =>
          obtain ⟨plt, _, _⟩ := Array.findIdx?_eq_some_iff_getElem.mp hp
          rw [hp] at at_
          have at2 : valueAt vb va[x].1 = some es'[p].val := by rw [at_]; simp [Array.getElem?_eq_getElem plt]
          refine wpAny_bind (wpAny_dictEntries (gb s' j') db ?_)
          rw [Array.getElem?_eq_getElem plt]
          rcases hm.inv with ⟨hn, _⟩ | ⟨y, e, b', hy, he, hrr, er⟩
          · exact nomatch at2.symm.trans hn
          · obtain rfl : es'[p].val = y := Option.some.inj (at2.symm.trans hy)
            have he' : ∀ s, J s → wpAny (model prog w) A (eqBool es[x].val es'[p].val) (fun c s' => c = e ∧ J s') E s := by rw [hval]; exact he
            refine wpAny_holding (wpAny_mono (he' s' j') (fun c s2 hc => ?_) fun _ _ z => z)
            obtain ⟨rfl, j2⟩ := hc
            refine ⟨j2, ?_⟩
            cases c with
            | false => rw [if_neg (by decide), er, Bool.false_and]
            | true => rw [if_pos rfl, er, Bool.true_and]; exact hrr
      · obtain ⟨j2, hc⟩ := hc
        cases c with
        | false =>
          rw [if_neg (by decide)] at hc
          subst hc
          exact wpAny_ite_split (fun _ => wpAny_pure (wpAny_pure (q' s2 j2))) fun h => absurd rfl h
        | true =>
          rw [if_pos rfl] at hc
          refine wpAny_ite_split (fun h => absurd h (by decide)) fun _ => wpAny_bind (wpAny_dictEpoch (ga s2 j2) da ?_)
          exact wpAny_ite_split (fun h => absurd h (by simp)) fun _ => wpAny_pure ⟨j2, rfl, x + 1, hrest, lt, hc⟩
    · rintro c s' ⟨j', rfl, i, hr, hi, hm⟩
      have hin : i = es.size := by
        cases hn : es.size - i with
        | zero => omega
        | succ n => rw [hn, List.range'_succ] at hr; cases hr
      rw [hin, ← la, List.drop_length] at hm
      cases hm
      exact wpAny_pure (q' s' j')
end
end G
namespace G
open PySem PySem.Spec PyProof.Rows PySem.SeqAt L2
theorem Rat.one {C p : Addr} {H : Hp} {x y : Int × Int} (R : Rat C H p x.1 x.2) (S : Rat C H p y.1 y.2) : x = y := by
  obtain ⟨dx, h⟩ := R
  obtain ⟨dy, h'⟩ := S
  rw [h] at h'
  injection h' with h'
  injection h' with _ _ h'
  have a := rf_top x.1 x.2
  have b := rf_bottom x.1 x.2
  rw [h', rf_top] at a
  rw [h', rf_bottom] at b
  injection a with a
  injection b with b
  injection a with a
  injection b with b
  exact Prod.ext a.symm b.symm
section
variable {X : Cx} {k : Nat} {f C : Addr} {fd : FuncData} {ps : List Str} {E : XK} {CX : CXT}
/-- == of two ratios inside a built-in -/
theorem eqb_R {pins : List (Addr × Obj)} {σ : L2.St} {H : Hp} {s : Shared} {A : Around} {p q : Addr} {x y : Int × Int} (F : FnOk X.prog X.w X.K X.mg X.base CX k f fd ps (spEq X.K C)) (hA : A.frames = X.A.frames) (hr : Room k A) (hb : Binds X.K fd ps [])
    (hx : Passes CX X E) (m : OpM X.K C "__eq__" f) (T : InsTy X.K C) (I : Inv X pins σ H s) (R : Rat C H p x.1 x.2) (S : Rat C H q y.1 y.2) :
    wpAny (model X.prog X.w) A (eqBool (.ref p) (.ref q)) (fun c s' => c = decide (x = y) ∧ Inv X pins σ H s') X.xe s := by
  by_cases hab : p = q
  · subst hab
    exact SeqAt.EqAt.same (A := A) (s := s) (.ref p) X.prog X.w X.xe _ ⟨(decide_eq_true (R.one S)).symm, I⟩
  · refine GQ.eqBool_refG hab ?_
    obtain ⟨dx, ea⟩ := id R
    obtain ⟨dy, eb⟩ := id S
    obtain ⟨_, O, _⟩ := ins_get I.hok ea
    obtain ⟨_, J, _⟩ := O.look
    obtain ⟨_, fr⟩ := I.fr
    obtain ⟨P, Z, hp, _⟩ := kit_of I (show RelV (.ref q) (Value.ref q) from rfl) (T _ _ _ _ eb)
    have lk : PySem.W.Looks (model X.prog X.w) s.heap (typeOf (.ref q)) (.ref C) := Z.ty _ _ I.kIn hp
    refine PySem.W.cmp_K (op := .Eq) hr.units0 fr I.ok.mod.kin J lk notFirst_self m.at_ m.fn ?_
    refine wpAny_mono (run_in (us := [.ref p, .ref q]) (vs := [.ref p, .ref q]) (Q := fun v H' => v = .bl (decide (x = y)) ∧ H' = H) F hA hr hb hx I (.cons rfl (.cons rfl .nil)) (.inl ⟨p, q, x, y, rfl, R, S, rfl, rfl⟩)) (fun v s' hv => ?_) fun _ _ e => e
    obtain ⟨z, H', I', rz, ez, eH⟩ := hv
    subst ez eH
    cases (show v = Value.bool _ from rz)
    exact ⟨_, rfl, rfl, I'⟩
end
end G
namespace G
open PySem PySem.Spec PyProof.Rows PySem.SeqAt L2
/-! ### dicts whose values stand for pairs of numbers: ratios, tuples -/
/-- how a value stands for a pair -/
abbrev RepP := Hp → V → Int × Int → Prop
/-- the entries of a dict -/
def Ent (R : RepP) (H : Hp) (ks : List (Key × V)) (xs : List (Key × (Int × Int))) : Prop := Paired (fun (p : Key × V) (q : Key × (Int × Int)) => p.1 = q.1 ∧ R H p.2 q.2) ks xs
/-- a ratio at a reference -/
def RpR (C : Addr) : RepP := fun H v x => ∃ r, v = .ref r ∧ Rat C H r x.1 x.2
/-- a tuple at a reference -/
def RpT : RepP := fun H v x => ∃ t, v = .ref t ∧ H t = some (.tup [.int x.1, .int x.2])
/-- a locked dict changes nothing of it -/
def Still (R : RepP) : Prop := ∀ (H : Hp) (d : Addr) (o : Obj) (kvs : List (Key × V)) (v : V) (x : Int × Int), H d = some (.dK kvs) → R H v x → R (upd H d (.frz o (.dK kvs))) v x
theorem still_R {C : Addr} : Still (RpR C) := fun H d o kvs v x hd ⟨r, e, dx, h⟩ => ⟨r, e, dx, by rw [upd_ne (ne_of h hd (by intro z; cases z))]; exact h⟩
theorem still_T : Still RpT := fun H d o kvs v x hd ⟨r, e, h⟩ => ⟨r, e, by rw [upd_ne (ne_of h hd (by intro z; cases z))]; exact h⟩
def lk (xs : List (Key × (Int × Int))) (k : Key) : Option (Int × Int) := (xs.find? fun p => decide (p.1 = k)).map (·.2)
/-- each key of the one has its pair in the other, and they are as many -/
def dEq (xs ys : List (Key × (Int × Int))) : Bool := xs.length == ys.length && xs.all fun p => decide (lk ys p.1 = some p.2)
theorem Ent.mono {R : RepP} {H H' : Hp} {ks : List (Key × V)} {xs : List (Key × (Int × Int))} (h : Ent R H ks xs) (g : ∀ v x, R H v x → R H' v x) : Ent R H' ks xs := by
  unfold Ent at h ⊢
  exact Paired.mapP h fun p q ⟨a, b⟩ => ⟨a, g _ _ b⟩
theorem Ent.lk {R : RepP} {H : Hp} {ks : List (Key × V)} {xs : List (Key × (Int × Int))} (h : Ent R H ks xs) (k : Key) : (valV ks k = none ∧ G.lk xs k = none) ∨ ∃ v x, valV ks k = some v ∧ G.lk xs k = some x ∧ R H v x := by
  unfold Ent at h
  induction h with
  | nil => exact .inl ⟨rfl, rfl⟩
  | @cons p q ps qs a _ ih =>
    obtain ⟨e, r⟩ := a
    by_cases c : p.1 = k
    · have c' : q.1 = k := e ▸ c
      exact .inr ⟨p.2, q.2, valV_pos c, by unfold G.lk; rw [List.find?_cons_of_pos (by simpa using c')]; rfl, r⟩
    · have c' : ¬ q.1 = k := e ▸ c
      rw [valV_neg c]
      have : G.lk (q :: qs) k = G.lk qs k := by unfold G.lk; rw [List.find?_cons_of_neg (by simpa using c')]
      rw [this]
      exact ih
section
variable {X : Cx} {k : Nat} {f C : Addr} {fd : FuncData} {ps : List Str} {E : XK} {CX : CXT} {R : RepP}
/-- two such values are compared inside a built-in -/
def EqB (X : Cx) (A : Around) (R : RepP) : Prop := ∀ (pins : List (Addr × Obj)) (σ : L2.St) (H : Hp) (s : Shared) (v w : V) (u t : Value) (x y : Int × Int), Inv X pins σ H s → RelV v u → RelV w t → R H v x → R H w y →
  wpAny (model X.prog X.w) A (eqBool u t) (fun c s' => c = decide (x = y) ∧ Inv X pins σ H s') X.xe s
theorem eqb_ratios {A : Around} (F : FnOk X.prog X.w X.K X.mg X.base CX k f fd ps (spEq X.K C)) (hA : A.frames = X.A.frames) (hr : Room k A) (hb : Binds X.K fd ps []) (hx : Passes CX X E) (m : OpM X.K C "__eq__" f) (T : InsTy X.K C) : EqB X A (RpR C) := by
  intro pins σ H s v w u t x y I ru rt R S
  obtain ⟨p, rfl, R⟩ := R
  obtain ⟨q, rfl, S⟩ := S
  obtain rfl : u = Value.ref p := ru
  obtain rfl : t = Value.ref q := rt
  exact eqb_R F hA hr hb hx m T I R S
theorem eqv_prd (x y : Int × Int) : PyData.eqv (prd x) (prd y) = decide (x = y) := by
  obtain ⟨a, b⟩ := x
  obtain ⟨c, d⟩ := y
  simp only [prd, PyData.eqv, PyData.eqvAll]
  by_cases h1 : a = c <;> by_cases h2 : b = d <;> simp [h1, h2]
theorem eqb_pairs {A : Around} (hu : A.units + 64 < cLine) : EqB X A RpT := by
  intro pins σ H s v w u t x y I ru rt R S
  obtain ⟨p, rfl, R⟩ := R
  obtain ⟨q, rfl, S⟩ := S
  obtain ⟨as, r1⟩ := Dp.reads I _ _ u (prd_dp R) ru
  obtain ⟨bs, r2⟩ := Dp.reads I _ _ t (prd_dp S) rt
  have e := SeqAt.eqAt_reads _ _ A s u t as bs r1 r2 (by rfl) (by rfl) (by
    have : (prd (x.1, x.2)).depth ≤ 40 := by simp only [prd, PyData.depth, PyData.depthAll]; omega
    omega) X.prog X.w X.xe
  rw [eqv_prd] at e
  exact e _ ⟨rfl, I⟩
theorem meet_ent {pins : List (Addr × Obj)} {σ : L2.St} {H : Hp} {A : Around} {ls : List (Key × V)} {vb : List (Key × Value)} {ys : List (Key × (Int × Int))} (he : EqB X A R) (rb : KV ls vb) (db : Ent R H ls ys) : ∀ {ks : List (Key × V)} {va : List (Key × Value)} {xs : List (Key × (Int × Int))}, KV ks va → Ent R H ks xs →
    Meet (model X.prog X.w) A X.xe (fun s' => Inv X pins σ H s') vb va (xs.all fun p => decide (G.lk ys p.1 = some p.2)) := by
  intro ks va xs ra da
  unfold KV at ra
  unfold Ent at da
  induction da generalizing va with
  | nil => cases ra; exact .nil
  | @cons p q ps' qs a _ ih =>
    cases ra with
    | @cons _ u _ us hu ht =>
      obtain ⟨e, r⟩ := a
      obtain ⟨e1, e2⟩ := hu
      obtain ⟨ku, vu⟩ := u
      obtain rfl : p.1 = ku := e1
      rw [List.all_cons]
      have o := rb.val p.1
      rcases db.lk p.1 with ⟨c1, c2⟩ | ⟨v', y, c1, c2, S⟩
      · rw [c1] at o
        rw [← e, c2]
        have z : decide ((none : Option (Int × Int)) = some q.2) = false := by simp
        rw [z, Bool.false_and]
        cases hv : valueAt vb p.1 with
        | none => exact .miss hv
        | some t => rw [hv] at o; exact False.elim o
      · rw [c1] at o
        rw [← e, c2]
        cases hv : valueAt vb p.1 with
        | none => rw [hv] at o; exact False.elim o
        | some t =>
          rw [hv] at o
          have z : decide (some y = some q.2) = decide (q.2 = y) := by
            by_cases h : q.2 = y
            · simp [h]
            · have h' : ¬ y = q.2 := fun z => h z.symm
              simp [h, h']
          rw [z]
          exact .hit hv (fun s j => he pins σ H s p.2 v' vu t q.2 y j e2 o r S) (ih ht)
theorem rc_ent {pins : List (Addr × Obj)} {σ : L2.St} {H : Hp} {s : Shared} {a b : Addr} {oa ob : Obj} {ks ls : List (Key × V)} {xs ys : List (Key × (Int × Int))} (he : EqB X X.A.in1 R) (hu : X.A.units < cLine) (I : Inv X pins σ H s)
    (ea : H a = some (.frz oa (.dK ks))) (eb : H b = some (.frz ob (.dK ls))) (da : Ent R H ks xs) (db : Ent R H ls ys) :
    wpAny (model X.prog X.w) X.A (richCompare .Eq (.ref a) (.ref b)) (fun v s' => v = .bool (dEq xs ys) ∧ Inv X pins σ H s') X.xe s := by
  obtain ⟨ga, _, ya, va, ra, ta⟩ := (show ObjOk X.prog X.w H s.heap a (.frz oa (.dK ks)) from I.hok a _ ea)
  obtain ⟨gb, _, yb, vb, rb, tb⟩ := (show ObjOk X.prog X.w H s.heap b (.frz ob (.dK ls)) from I.hok b _ eb)
  refine wpAny_richCompare_same_room (op := .Eq) ta.typeIs tb.typeIs PySem.F.slot_dict_eq (wpAny_call_entry PySem.F.slot_dict_eq ta.typeIs PySem.F.entry_dict_eq ?_ (PySem.F.args_dict_eq_2 _ _)) hu
  show wpAny _ _ (Builtin.Dict.dictSlotArgs "__eq__" ⟨[.ref a, .ref b], []⟩ >>= _) _ _ s
  have hT := ta.typeIs
  have hT2 := tb.typeIs
  obtain ⟨oa', es, ep, h1, _, d1, k1, p1, _⟩ := ta
  obtain ⟨ob', es', ep', h2, _, d2, k2, p2, _⟩ := tb
  obtain rfl : oa = oa' := Option.some.inj (ga.symm.trans h1)
  obtain rfl : ob = ob' := Option.some.inj (gb.symm.trans h2)
  refine wpAny_bind ?_
  unfold Builtin.Dict.dictSlotArgs
  refine wpAny_bind (wpAny_notOrdered_dict hT ?_)
  show wpAny _ _ (pure (Value.ref a, Value.ref b)) _ _ s
  refine wpAny_pure (wpAny_bind (wpAny_isInstance (T := "dict") hT2 PySem.F.sub_dict_dict ?_))
  simp only [Bool.not_true, Bool.false_eq_true, if_false]
  refine wpAny_bind (wpAny_pure (wpAny_bind (wpAny_pure ?_)))
  refine wpAny_bind (same_pairs (knd := mixKind X.prog X.w) (J := fun s' => Inv X pins σ H s') ya yb (fun s' j => (j.hok a _ ea).1) (fun s' j => (j.hok b _ eb).1) d1 d2 k1 k2 p1 p2 (meet_ent he rb db ra da) (fun s' j => ?_) I)
  refine wpAny_pure ⟨_, rfl, fun z => (nomatch z), ?_, j⟩
  have l1 : va.length = xs.length := by rw [← ra.length]; exact Paired.length da
  have l2 : vb.length = ys.length := by rw [← rb.length]; exact Paired.length db
  rw [l1, l2]
  unfold dEq
  cases (xs.length == ys.length && xs.all fun p => decide (lk ys p.1 = some p.2)) <;> rfl
theorem upd_id {H : Hp} {a : Addr} {o : HO} (h : H a = some o) : upd H a o = H := by
  funext b
  by_cases e : b = a
  · rw [e, upd_same, h]
  · rw [upd_ne e]
/-- d == e, dicts of such values -/
def rEqEnt (R : RepP) : R2 := fun x y H Q => ∃ a b ks ls xs ys, x = .ref a ∧ y = .ref b ∧ H a = some (.dK ks) ∧ H b = some (.dK ls) ∧ Ent R H ks xs ∧ Ent R H ls ys ∧ Q (.bl (dEq xs ys)) H
theorem op_eqEnt (he : EqB X X.A.in1 R) (st : Still R) (hu : X.A.units < cLine) : OpR X (compareOp .Eq) (rEqEnt R) := by
  intro pins s σ H x y v u Q I rx ry h
  obtain ⟨a, b, ks, ls, xs, ys, rfl, rfl, ea, eb, da, db, q⟩ := h
  obtain rfl : v = Value.ref a := rx
  obtain rfl : u = Value.ref b := ry
  obtain ⟨oa, I1⟩ := I.lock ea True.intro
  have na := I.nofrz ea True.intro
  show wpAny _ _ (richCompare .Eq (.ref a) (.ref b)) _ _ _
  by_cases hab : b = a
  · subst hab
    rw [ea] at eb
    cases eb
    refine wpAny_mono (rc_ent he hu I1 upd_same upd_same (da.mono fun v x => st _ _ _ _ v x ea) (db.mono fun v x => st _ _ _ _ v x ea)) (fun v s' hv => ?_) fun _ _ e => e
    obtain ⟨rfl, I2⟩ := hv
    have I3 := I2.unlock upd_same na
    rw [upd_upd, upd_id ea] at I3
    exact ⟨.bl _, H, I3, rfl, q⟩
  · have eb1 : upd H a (.frz oa (.dK ks)) b = some (.dK ls) := by rw [upd_ne hab]; exact eb
    obtain ⟨ob, I2⟩ := I1.lock eb1 True.intro
    have nb := I1.nofrz eb1 True.intro
    have ea2 : upd (upd H a (.frz oa (.dK ks))) b (.frz ob (.dK ls)) a = some (.frz oa (.dK ks)) := by rw [upd_ne (Ne.symm hab), upd_same]
    refine wpAny_mono (rc_ent he hu I2 ea2 upd_same ((da.mono fun v x => st _ _ _ _ v x ea).mono fun v x => st _ _ _ _ v x eb1) ((db.mono fun v x => st _ _ _ _ v x ea).mono fun v x => st _ _ _ _ v x eb1)) (fun v s' hv => ?_) fun _ _ e => e
    obtain ⟨rfl, I3⟩ := hv
    have I4 := I3.unlock upd_same nb
    rw [upd_upd, upd_id eb1] at I4
    have I5 := I4.unlock upd_same na
    rw [upd_upd, upd_id ea] at I5
    exact ⟨.bl _, H, I5, rfl, q⟩
end
end G
namespace G
open PySem PySem.Spec PyProof.Rows L2
/-! ### {k: d[k] for k in range(n) if k in d} -/
/-- the entries whose keys are below n, in order -/
def pick {α : Type} (f : Key → Option α) (n : Nat) : List (Key × α) := (List.range n).filterMap fun i : Nat => (f (.inl (i : Int))).map fun v => (.inl (i : Int), v)
theorem pick_succ {α : Type} (f : Key → Option α) (n : Nat) : pick f (n + 1) = pick f n ++ ((f (.inl (n : Int))).map fun v => (Sum.inl (n : Int), v)).toList := by
  unfold pick
  rw [List.range_succ, List.filterMap_append]
  cases h : f (.inl (n : Int)) with
  | none => simp [h]
  | some v => simp [h]
theorem pick_none {f : Key → Option V} {n : Nat} : ∀ {m : Nat}, m ≤ n → valV (pick f m) (.inl (n : Int)) = none := by
  intro m
  induction m with
  | zero => intro _; rfl
  | succ m ih =>
    intro h
    rw [pick_succ]
    cases e : f (.inl (m : Int)) with
    | none => simpa using ih (by omega)
    | some v =>
      show valV (pick f m ++ [(Sum.inl (m : Int), v)]) _ = _
      unfold valV
      rw [List.find?_append]
      have i0 := ih (by omega)
      unfold valV at i0
      rw [Option.map_eq_none_iff] at i0
      rw [i0]
      have ne : ¬ ((Sum.inl (m : Int) : Key) = .inl (n : Int)) := by
        intro z
        injection z with z
        omega
      simp [ne]
theorem pick_len {α : Type} {f : Key → Option α} : ∀ {n : Nat}, (pick f n).length ≤ n
  | 0 => Nat.le_refl _
  | n + 1 => by
    rw [pick_succ, List.length_append]
    have := @pick_len α f n
    cases f (.inl (n : Int)) <;> simp <;> omega
theorem comp_dict {σ : L2.St} {H : Hp} {Q : VK} {i0 j : Nat} {a : Addr} {ks : List (Key × V)} {n : Nat} {tr : TA} {tt : TT} (hr : ∀ R : List V → Hp → Prop, R [.int (n : Int)] H → tr σ H R) (hn : n ≤ 1000000) (hv : σ[i0]? = some (some (.ref a))) (hj : j < σ.length) (hji : j ≠ i0) (ha : H a = some (.dK ks))
    (ht : ∀ (i : Nat) (σ' : L2.St) (H' : Hp) (R : Bool → Hp → Prop), σ'[j]? = some (some (.int (i : Int))) → σ'[i0]? = some (some (.ref a)) → H' a = some (.dK ks) → R (valV ks (.inl (i : Int))).isSome H' → tt σ' H' R)
    (q : ∀ D, H D = none → Q (.ref D) (upd H D (.dK (pick (valV ks) n)))) :
    tDc (iRng1 tr) (gName j) tt (tVar j) (tDGet (tVar i0) (tVar j)) [j] σ H Q := by
  refine hr _ ⟨(n : Int), rfl, by omega, by omega, fun D hD => ⟨fun i m H' => m = n - i ∧ i ≤ n ∧ H' = upd H D (.dK (pick (valV ks) i)), ⟨n, by omega, by omega, rfl⟩, ?_⟩⟩
  rintro i m H' ⟨rfl, hi, rfl⟩
  have hne : a ≠ D := ne_of_none ha hD
  have ha' : upd H D (.dK (pick (valV ks) i)) a = some (.dK ks) := by rw [upd_ne hne]; exact ha
  by_cases hin : i = n
  · subst hin
    exact .inl ⟨by show (i : Int).toNat ≤ i; omega, q D hD⟩
  · refine .inr ⟨by show i < (n : Int).toNat; omega, fun H' => H' = upd H D (.dK (pick (valV ks) (i + 1))), fun H' e => ⟨n - (i + 1), by omega, rfl, by omega, e⟩, ?_⟩
    rintro x H' ⟨rfl, rfl⟩
    have z : ((0 : Int) + (i : Int)) = (i : Int) := Int.zero_add _
    rw [z]
    have s1 : ((σ.set j none).set j (some (.int (i : Int))))[j]? = some (some (.int (i : Int))) := by rw [List.getElem?_set_self (by rw [List.length_set]; exact hj)]
    have s2 : ((σ.set j none).set j (some (.int (i : Int))))[i0]? = some (some (.ref a)) := by rw [List.getElem?_set_ne hji, List.getElem?_set_ne hji]; exact hv
    refine ⟨?_, ht i _ _ _ s1 s2 ha' ?_⟩
    · show ((σ.set j none).set j (some (.int (i : Int)))).set j none = σ.set j none
      rw [List.set_set, List.set_set]
    · have ps := pick_succ (valV ks) i
      cases e : valV ks (.inl (i : Int)) with
      | none =>
        rw [e] at ps
        show _ = _
        rw [ps]
        simp
      | some v =>
        rw [e] at ps
        have g : DGet (upd H D (.dK (pick (valV ks) i))) a (.int (i : Int)) (some v) := by
          have g0 := DGet.k (k := .inl (i : Int)) ha'
          rw [e] at g0
          exact g0
        refine ⟨_, s1, _, s2, _, s1, a, v, rfl, g, pick (valV ks) i, .inl (i : Int), rfl, upd_same, ?_, ?_⟩
        · have l := @pick_len V (valV ks) i
          rw [show sizeLine = 16777216 from sizeLine_eq]
          omega
        · show upd (upd H D _) D _ = _
          rw [upd_upd, putK_new v (pick_none (Nat.le_refl _)), ps]
          rfl
end G
namespace G
open PySem PySem.Spec PyProof.Rows L2
/-! ### amounts in ascending order -/
theorem Ent.snoc {R : RepP} {H : Hp} {ks : List (Key × V)} {xs : List (Key × (Int × Int))} {i : Key} {v : V} {x : Int × Int} (h : Ent R H ks xs) (r : R H v x) : Ent R H (ks ++ [(i, v)]) (xs ++ [(i, x)]) := by
  unfold Ent at h ⊢
  induction h with
  | nil => exact .cons ⟨rfl, r⟩ .nil
  | cons a _ ih => exact .cons a ih
theorem Ent.pick {R : RepP} {H : Hp} {ks : List (Key × V)} {xs : List (Key × (Int × Int))} (h : Ent R H ks xs) : ∀ n, Ent R H (G.pick (valV ks) n) (G.pick (G.lk xs) n)
  | 0 => .nil
  | n + 1 => by
    have ih := h.pick n
    rw [pick_succ, pick_succ]
    rcases h.lk (.inl (n : Int)) with ⟨a, b⟩ | ⟨v, x, a, b, r⟩
    · rw [a, b]
      simpa using ih
    · rw [a, b]
      exact ih.snoc r
theorem mem_pick {α : Type} {f : Key → Option α} {n : Nat} {p : Key × α} : p ∈ pick f n ↔ ∃ i : Nat, i < n ∧ p.1 = .inl (i : Int) ∧ f p.1 = some p.2 := by
  obtain ⟨k, v⟩ := p
  unfold pick
  rw [List.mem_filterMap]
  constructor
  · rintro ⟨i, hi, e⟩
    rw [Option.map_eq_some_iff] at e
    obtain ⟨w, e1, e2⟩ := e
    injection e2 with e2 e3
    subst e2 e3
    exact ⟨i, List.mem_range.mp hi, rfl, e1⟩
  · rintro ⟨i, hi, e1, e2⟩
    have e1 : k = .inl (i : Int) := e1
    subst e1
    have e2 : f (.inl (i : Int)) = some v := e2
    exact ⟨i, List.mem_range.mpr hi, by rw [e2]; rfl⟩
theorem pick_congr {α : Type} {f g : Key → Option α} : ∀ {n : Nat}, (∀ i : Nat, i < n → f (.inl (i : Int)) = g (.inl (i : Int))) → pick f n = pick g n
  | 0, _ => rfl
  | n + 1, h => by rw [pick_succ, pick_succ, pick_congr fun i hi => h i (by omega), h n (by omega)]
theorem pick_le {α : Type} {f g : Key → Option α} : ∀ {n : Nat}, (∀ (i : Nat) v, i < n → f (.inl (i : Int)) = some v → g (.inl (i : Int)) = some v) →
    (pick f n).length ≤ (pick g n).length ∧ ((pick f n).length = (pick g n).length → ∀ i : Nat, i < n → f (.inl (i : Int)) = g (.inl (i : Int)))
  | 0, _ => ⟨Nat.le_refl _, fun _ i hi => absurd hi (by omega)⟩
  | n + 1, h => by
    obtain ⟨a, b⟩ := @pick_le α f g n fun i v hi e => h i v (by omega) e
    rw [pick_succ, pick_succ, List.length_append, List.length_append]
    cases e : f (.inl (n : Int)) with
    | some v =>
      rw [h n v (by omega) e]
      refine ⟨by simpa using a, fun z i hi => ?_⟩
      by_cases c : i = n
      · subst c; rw [e, h i v (by omega) e]
      · exact b (by simpa using z) i (by omega)
    | none =>
      cases e' : g (.inl (n : Int)) with
      | none =>
        refine ⟨by simpa using a, fun z i hi => ?_⟩
        by_cases c : i = n
        · subst c; rw [e, e']
        · exact b (by simpa using z) i (by omega)
      | some w =>
        refine ⟨by simp; omega, fun z => ?_⟩
        simp at z
        omega
/-- in ascending order, keys below n -/
def Asc (n : Nat) (xs : List (Key × (Int × Int))) : Prop := pick (lk xs) n = xs
theorem lk_pick {n : Nat} {f : Key → Option (Int × Int)} {i : Nat} (hi : i < n) : lk (pick f n) (.inl (i : Int)) = f (.inl (i : Int)) := by
  induction n with
  | zero => omega
  | succ n ih =>
    rw [pick_succ]
    unfold lk
    rw [List.find?_append]
    by_cases c : i = n
    · subst c
      have z : (pick f i).find? (fun p => decide (p.1 = .inl (i : Int))) = none := by
        rw [List.find?_eq_none]
        intro p hp
        obtain ⟨j, hj, e, _⟩ := mem_pick.mp hp
        rw [e]
        simp
        omega
      rw [z]
      cases e : f (.inl (i : Int)) with
      | none => rfl
      | some v => simp
    · have ih := ih (by omega)
      unfold lk at ih
      cases e : (pick f n).find? (fun p => decide (p.1 = .inl (i : Int))) with
      | some q => rw [e] at ih; exact ih
      | none =>
        rw [e] at ih
        rw [← ih]
        cases e' : f (.inl (n : Int)) with
        | none => rfl
        | some v =>
          have ne : ¬ ((Sum.inl (n : Int) : Key) = .inl (i : Int)) := by
            intro z
            injection z with z
            omega
          simp [ne]
theorem asc_pick {n : Nat} {f : Key → Option (Int × Int)} : Asc n (pick f n) := pick_congr fun _ hi => lk_pick hi
theorem dEq_asc {n : Nat} {xs ys : List (Key × (Int × Int))} (hx : Asc n xs) (hy : Asc n ys) : dEq xs ys = decide (xs = ys) := by
  have ux : ∀ p ∈ xs, lk xs p.1 = some p.2 := fun p hp => by
    rw [← hx] at hp
    obtain ⟨_, _, _, e⟩ := mem_pick.mp hp
    exact e
  unfold dEq
  by_cases h : xs = ys
  · subst h
    rw [decide_eq_true (show xs = xs from rfl), beq_self_eq_true, Bool.true_and, List.all_eq_true]
    exact fun p hp => decide_eq_true (ux p hp)
  · rw [decide_eq_false h]
    cases hz : (xs.length == ys.length && xs.all fun p => decide (lk ys p.1 = some p.2)) with
    | false => rfl
    | true =>
      rw [Bool.and_eq_true, beq_iff_eq, List.all_eq_true] at hz
      obtain ⟨hl, ha⟩ := hz
      have sub : ∀ (i : Nat) v, i < n → lk xs (.inl (i : Int)) = some v → lk ys (.inl (i : Int)) = some v := fun i v hi e => by
        have hp : ((Sum.inl (i : Int), v) : Key × (Int × Int)) ∈ xs := by
          rw [← hx]
          exact mem_pick.mpr ⟨i, hi, rfl, e⟩
        exact of_decide_eq_true (ha _ hp)
      have q := (pick_le sub).2 (by rw [show pick (lk xs) n = xs from hx, show pick (lk ys) n = ys from hy]; exact hl)
      exact absurd (hx.symm.trans ((pick_congr q).trans hy)) h
/-! ### mixtures -/
/-- a mixture of the class at M stands at p: its dict, the amounts ratios of the class at C -/
def Mix (M C : Addr) (H : Hp) (p : Addr) (xs : List (Key × (Int × Int))) : Prop := ∃ dx d ks, H p = some (.ins M dx (putF "_amounts" (.ref d) [])) ∧ H d = some (.dK ks) ∧ Ent (RpR C) H ks xs ∧ Asc 8 xs
theorem RpR.same {C : Addr} {H H' : Hp} {v : V} {x : Int × Int} (h : RpR C H v x) (e : Same H H') : RpR C H' v x := let ⟨r, a, b⟩ := h; ⟨r, a, b.same e⟩
theorem Mix.same {M C p : Addr} {H H' : Hp} {xs : List (Key × (Int × Int))} (h : Mix M C H p xs) (e : Same H H') : Mix M C H' p xs :=
  let ⟨dx, d, ks, a, b, c, o⟩ := h; ⟨dx, d, ks, e _ _ a, e _ _ b, c.mono fun v x r => r.same e, o⟩
/-- self._amounts == other._amounts -/
theorem w_eqMix {M C p q d d' : Addr} {H : Hp} {Q : VK} {ks ls : List (Key × V)} {xs ys : List (Key × (Int × Int))} (ha : H d = some (.dK ks)) (hb : H d' = some (.dK ls)) (ea : Ent (RpR C) H ks xs) (eb : Ent (RpR C) H ls ys) (oa : Asc 8 xs) (ob : Asc 8 ys)
    (k : Q (.bl (decide (xs = ys))) H) : rEqEnt (RpR C) (.ref d) (.ref d') H Q := ⟨d, d', ks, ls, xs, ys, rfl, rfl, ha, hb, ea, eb, by rw [dEq_asc oa ob]; exact k⟩
end G
namespace G
open PySem PySem.Spec PyProof.Rows L2
/-! ### for k, v in d.items(), d locked meanwhile -/
theorem same_unlock {H H' : Hp} {d : Addr} {od : Obj} {ks : List (Key × V)} (ha : H d = some (.dK ks)) (e : Same (upd H d (.frz od (.dK ks))) H') : Same H (upd H' d (.dK ks)) := by
  intro b o h
  by_cases c : b = d
  · subst c
    rw [ha] at h
    cases h
    exact upd_same
  · rw [upd_ne c]
    exact e _ _ (by rw [upd_ne c]; exact h)
theorem same_locked {H H' : Hp} {d : Addr} {od : Obj} {ks : List (Key × V)} (e : Same (upd H d (.frz od (.dK ks))) H') : H' d = some (.frz od (.dK ks)) := e _ _ upd_same
theorem w_items {td : TE} {g : TG} {tb : TS} {D : Ends} {σ : L2.St} {H : Hp} {d : Addr} {ks : List (Key × V)} (ha : H d = some (.dK ks)) (hv : ∀ (H' : Hp) (R : V → Hp → Prop), R (.ref d) H' → td σ H' R) (Pv : Nat → L2.St → Prop) (h0 : Pv 0 σ)
    (hs : ∀ (od : Obj) (i : Nat) (k : Key) (v : V) (T : Addr) (σ' : L2.St) (H' : Hp), ks[i]? = some (k, v) → Pv i σ' → Same (upd H d (.frz od (.dK ks))) H' → H' T = some (.tup [kV k, v]) → g (.ref T) σ' H' fun σ2 H2 =>
      tb { nx := fun σ3 H3 => Pv (i + 1) σ3 ∧ Same (upd H d (.frz od (.dK ks))) H3, ct := fun σ3 H3 => Pv (i + 1) σ3 ∧ Same (upd H d (.frz od (.dK ks))) H3, bk := fun σ3 H3 => H3 d = some (.frz od (.dK ks)) ∧ D.nx σ3 (upd H3 d (.dK ks)), rt := fun v H3 => H3 d = some (.frz od (.dK ks)) ∧ D.rt v (upd H3 d (.dK ks)) } σ2 H2)
    (hd : ∀ σ' H', Pv ks.length σ' → Same H H' → D.nx σ' H') : tLock (tFor (iItems td) g tb) D σ H := by
  refine ⟨d, .dK ks, ha, True.intro, fun od => w_for (hv _ _ ⟨d, od, ks, rfl, upd_same, ?_⟩)⟩
  refine ⟨fun i m σ' H' => m = ks.length - i ∧ i ≤ ks.length ∧ Pv i σ' ∧ Same (upd H d (.frz od (.dK ks))) H', ⟨ks.length, by omega, Nat.zero_le _, h0, fun _ _ h => h⟩, ?_⟩
  rintro i m σ' H' ⟨rfl, hi, p, e⟩
  have hl := same_locked e
  by_cases lt : i < ks.length
  · refine .inr ⟨⟨hl, lt⟩, fun σ3 H3 => Pv (i + 1) σ3 ∧ Same (upd H d (.frz od (.dK ks))) H3, fun σ3 H3 ⟨a, b⟩ => ⟨ks.length - (i + 1), by omega, rfl, by omega, a, b⟩, ?_⟩
    rintro x H2 ⟨T, k, v, hk, rfl, hT, rfl⟩
    exact hs od i k v T σ' _ hk p (fun b o h => by rw [upd_ne (ne_of_none (e _ _ h) hT)]; exact e _ _ h) upd_same
  · obtain rfl : i = ks.length := by omega
    exact .inl ⟨⟨hl, Nat.le_refl _⟩, hl, hd _ _ p (same_unlock ha e)⟩
end G
namespace G
open PySem PySem.Spec PyProof.Rows L2
/-! ### list(d.values()) -/
def rValsL : V → Hp → VK → Prop := fun x H Q => ∃ (d : Addr) (kvs : List (Key × V)), x = .ref d ∧ H d = some (.dK kvs) ∧ ∀ p, H p = none → Q (.ref p) (upd H p (.lst (kvs.map (·.2))))
def tListVals (te : TE) : TE := fun σ H Q => te σ H fun x H1 => rValsL x H1 Q
theorem vals_at {kvs : List (Key × V)} {vs : List (Key × Value)} (kv : KV kvs vs) : ∀ {us : List Value}, us.length = vs.length → (∀ (j : Nat) (v : Value), us[j]? = some v → ∃ k, vs[j]? = some (k, v)) → Vals (kvs.map (·.2)) us := by
  unfold KV at kv
  induction kv with
  | nil => intro us h _; cases us with | nil => exact .nil | cons _ _ => cases h
  | @cons p q ps qs a _ ih =>
    intro us h g
    cases us with
    | nil => cases h
    | cons u us =>
      obtain ⟨k, e⟩ := g 0 u rfl
      have e : q = (k, u) := Option.some.inj e
      subst e
      exact .cons a.2 (ih (Nat.succ.inj h) fun j v e => g (j + 1) v e)
section
variable {X : Cx} {e : Expr} {te : TE} {p apos cpos pos : Pos}
theorem pe_listVals (hc : X.calm = true) (he : PE X e te) (hg : Gl X "list") (hm : X.mg "list" = none) (hv : bootBuiltins "list" = some (.type "list")) (hbase : attributeBase e "values" X.env (eval e X.env) = eval e X.env := by rfl) (hline : (apos.endLine == cpos.line) = true := by rfl)
    (hs : starEach [.Call (.Attribute e "values" apos) [] [] cpos] X.env = (false, eval (.Call (.Attribute e "values" apos) [] [] cpos) X.env) :: starEach [] X.env := by rfl) :
    PE X (.Call (.Name "list" p) [.Call (.Attribute e "values" apos) [] [] cpos] [] pos) (tListVals te) := by
  refine ⟨fun pins s σ H Q I hq => wpAny_Call_Name_kw (ld_blt I hg hm hv (PyProof.Rows.callWith_type1 ?_ hs rfl))⟩
  rw [hs]
  show wpAny _ _ (spliced ((false, eval (.Call (.Attribute e "values" apos) [] [] cpos) X.env) :: backTo pos (starEach [] X.env))) _ _ s
  refine Calls.spliced_cons ?_
  refine wpAny_Call_method (T := "dict") (id := "dict.values") hbase rfl hline F.plainAttrs_dict F.slot_dict_values F.type_dict_values (thn (he.run pins s σ H _ I hq) fun u s1 h1 => ?_)
  obtain ⟨x, H1, I1, rx, d, kvs, rfl, hd, q⟩ := h1
  obtain rfl : u = Value.ref d := rx
  obtain ⟨hz, lo, vs, kv, hdo⟩ := I1.hok d _ hd
  obtain ⟨ep, hat⟩ := hdo.dictAt
  have I2 : Inv X pins σ H1 { s1 with heap := s1.heap.push { cls := .type "dict_values", data := .fields #[.ref d] } } := I1.kept (t' := s1.toks) fun b ob q => Heap.get?_push_of_some _ q
  refine ⟨hdo.typeIs, hdo.mapOf.noDict, ?_⟩
  show wpAny _ _ (callWith cpos (.builtin "dict.values") [.ref d] [] []) _ X.xe s1
  refine method_meetsIn F.slot_dict_values F.entry_dict_values rfl (PySem.evalArgs_none ⟨rfl, hdo.typeIs, F.args_dict_values_1 _, _, meets_dict_values (mixKind X.prog X.w) d lo, ⟨vs, hdo⟩, ?_⟩)
  refine Calls.spliced_nil ?_
  refine PySem.W.kdl_call (PySem.W.kdl_values (knd := mixKind X.prog X.w) (kvs := vs) (ep := ep)) (I1.ok.hd hc) ⟨⟨_, Heap.get?_push_size _ rfl, rfl, rfl⟩, hat.push _⟩ (by rw [← kv.length]; exact hz) fun h' tk acc c hk hD hacc => ?_
  have hvs : Vals (kvs.map (·.2)) acc.toList := vals_at kv (by rw [Array.length_toList]; exact hacc.1) fun j v e => hacc.2 j v (by rw [← Array.getElem?_toList]; exact e)
  exact ⟨.ref _, _, I2.laid (t' := tk) (o := .lst (kvs.map (·.2))) hk (Nat.le_refl _) (show ObjOk X.prog X.w _ _ _ (.lst (kvs.map (·.2))) from ⟨by rw [List.length_map]; exact hz, acc.toList, c, hvs, by rw [Array.toArray_toList]; exact hD⟩), rfl, q _ (I2.hok.fresh (Nat.le_refl _))⟩
end
end G
namespace G
open PySem PySem.Spec PyProof.Rows L2
/-! ### stores and removals -/
def putX (xs : List (Key × (Int × Int))) (k : Key) (x : Int × Int) : List (Key × (Int × Int)) :=
  if (xs.any fun p => decide (p.1 = k)) = true then xs.map (fun p => if p.1 = k then (p.1, x) else p) else xs ++ [(k, x)]
def dropX (xs : List (Key × (Int × Int))) (k : Key) : List (Key × (Int × Int)) := xs.filter fun p => !decide (p.1 = k)
theorem Ent.any {R : RepP} {H : Hp} {ks : List (Key × V)} {xs : List (Key × (Int × Int))} (h : Ent R H ks xs) (k : Key) : (ks.any fun p => decide (p.1 = k)) = xs.any fun p => decide (p.1 = k) := by
  unfold Ent at h
  induction h with
  | nil => rfl
  | cons a _ ih => rw [List.any_cons, List.any_cons, ih, a.1]
theorem Ent.put {R : RepP} {H : Hp} {ks : List (Key × V)} {xs : List (Key × (Int × Int))} {k : Key} {v : V} {x : Int × Int} (h : Ent R H ks xs) (r : R H v x) : Ent R H (putK ks k v) (putX xs k x) := by
  unfold putK putX
  rw [h.any k]
  by_cases e : (xs.any fun p => decide (p.1 = k)) = true
  · rw [if_pos e, if_pos e]
    clear e
    unfold Ent at h ⊢
    induction h with
    | nil => exact .nil
    | @cons p q ps qs a _ ih =>
      refine .cons ?_ ih
      show (if p.1 = k then (p.1, v) else p).1 = (if q.1 = k then (q.1, x) else q).1 ∧ R H (if p.1 = k then (p.1, v) else p).2 (if q.1 = k then (q.1, x) else q).2
      by_cases c : p.1 = k
      · rw [if_pos c, if_pos (a.1 ▸ c)]
        exact ⟨a.1, r⟩
      · rw [if_neg c, if_neg (a.1 ▸ c)]
        exact a
  · rw [if_neg e, if_neg e]
    exact h.snoc r
theorem lk_put (xs : List (Key × (Int × Int))) (k j : Key) (x : Int × Int) : lk (putX xs k x) j = if j = k then some x else lk xs j := by
  unfold putX
  by_cases e : (xs.any fun p => decide (p.1 = k)) = true
  · rw [if_pos e]
    induction xs with
    | nil => simp at e
    | cons p ps ih =>
      rw [List.any_cons, Bool.or_eq_true] at e
      rw [List.map_cons]
      unfold lk at ih ⊢
      by_cases c : p.1 = k
      · rw [if_pos c]
        by_cases cj : j = k
        · rw [if_pos cj, List.find?_cons_of_pos (by simp [c, cj])]
          rfl
        · have n1 : ¬ (p.1 = j) := fun z => cj (z.symm.trans c)
          rw [if_neg cj, List.find?_cons_of_neg (by simpa using n1), List.find?_cons_of_neg (by simpa using n1)]
          by_cases ea : (ps.any fun p => decide (p.1 = k)) = true
          · have := ih ea
            rw [if_neg cj] at this
            exact this
          · have m : ps.map (fun p => if p.1 = k then (p.1, x) else p) = ps := by
              clear ih e
              induction ps with
              | nil => rfl
              | cons q qs ih =>
                rw [List.any_cons, Bool.or_eq_true, not_or] at ea
                rw [List.map_cons, ih ea.2, if_neg (fun z => ea.1 (decide_eq_true z))]
            rw [m]
      · have ea : (ps.any fun p => decide (p.1 = k)) = true := e.resolve_left fun z => c (of_decide_eq_true z)
        rw [if_neg c]
        by_cases cj : p.1 = j
        · have nj : ¬ j = k := fun z => c (cj.trans z)
          rw [if_neg nj, List.find?_cons_of_pos (by simpa using cj), List.find?_cons_of_pos (by simpa using cj)]
        · rw [List.find?_cons_of_neg (by simpa using cj), List.find?_cons_of_neg (by simpa using cj)]
          exact ih ea
  · rw [if_neg e]
    unfold lk
    rw [List.find?_append]
    by_cases cj : j = k
    · subst cj
      have z : xs.find? (fun p => decide (p.1 = j)) = none := by
        rw [List.find?_eq_none]
        intro p hp c
        exact e (List.any_eq_true.mpr ⟨p, hp, c⟩)
      rw [if_pos rfl, z]
      simp
    · have nk : ¬ k = j := fun z => cj z.symm
      rw [if_neg cj]
      cases hz : xs.find? (fun p => decide (p.1 = j)) with
      | some q => rfl
      | none => simp [nk]
theorem Ent.drop {R : RepP} {H : Hp} {ks : List (Key × V)} {xs : List (Key × (Int × Int))} {k : Key} (h : Ent R H ks xs) : Ent R H (dropK ks k) (dropX xs k) := by
  unfold Ent at h ⊢
  unfold dropK dropX
  induction h with
  | nil => exact .nil
  | @cons p q ps qs a _ ih =>
    by_cases c : p.1 = k
    · have c' : q.1 = k := a.1 ▸ c
      rw [List.filter_cons_of_neg (by simp [c]), List.filter_cons_of_neg (by simp [c'])]
      exact ih
    · have c' : ¬ q.1 = k := a.1 ▸ c
      rw [List.filter_cons_of_pos (by simp [c]), List.filter_cons_of_pos (by simp [c'])]
      exact .cons a ih
theorem lk_drop (xs : List (Key × (Int × Int))) (k j : Key) : lk (dropX xs k) j = if j = k then none else lk xs j := by
  unfold lk dropX
  induction xs with
  | nil => by_cases c : j = k <;> simp [c]
  | cons p ps ih =>
    by_cases c : p.1 = k
    · rw [List.filter_cons_of_neg (by simp [c]), ih]
      by_cases cj : j = k
      · rw [if_pos cj, if_pos cj]
      · rw [if_neg cj, if_neg cj, List.find?_cons_of_neg (by simpa using fun z => cj (z.symm.trans c))]
    · rw [List.filter_cons_of_pos (by simp [c])]
      by_cases cj : p.1 = j
      · have nj : ¬ j = k := fun z => c (cj.trans z)
        rw [if_neg nj, List.find?_cons_of_pos (by simpa using cj), List.find?_cons_of_pos (by simpa using cj)]
      · rw [List.find?_cons_of_neg (by simpa using cj), List.find?_cons_of_neg (by simpa using cj), ih]
end G
namespace G
open PySem PySem.Spec PyProof.Rows L2
/-- for k in d, d locked meanwhile; what else changes stands in Pv -/
theorem w_keys {td : TE} {g : TG} {tb : TS} {D : Ends} {σ : L2.St} {H : Hp} {d : Addr} {ks : List (Key × V)} (ha : H d = some (.dK ks)) (hv : ∀ (H' : Hp) (R : V → Hp → Prop), R (.ref d) H' → td σ H' R) (Pv : Obj → Nat → L2.St → Hp → Prop) (h0 : ∀ od, Pv od 0 σ (upd H d (.frz od (.dK ks))))
    (hl : ∀ od i σ' H', Pv od i σ' H' → H' d = some (.frz od (.dK ks)))
    (hs : ∀ (od : Obj) (i : Nat) (k : Key) (v : V) (σ' : L2.St) (H' : Hp), ks[i]? = some (k, v) → Pv od i σ' H' → g (kV k) σ' H' fun σ2 H2 =>
      tb { nx := Pv od (i + 1), ct := Pv od (i + 1), bk := fun σ3 H3 => H3 d = some (.frz od (.dK ks)) ∧ D.nx σ3 (upd H3 d (.dK ks)), rt := fun v H3 => H3 d = some (.frz od (.dK ks)) ∧ D.rt v (upd H3 d (.dK ks)) } σ2 H2)
    (hd : ∀ od σ' H', Pv od ks.length σ' H' → D.nx σ' (upd H' d (.dK ks))) : tLock (tFor (iKeys td) g tb) D σ H := by
  refine ⟨d, .dK ks, ha, True.intro, fun od => w_for (hv _ _ ⟨d, od, rfl, .inl ⟨ks, upd_same, ?_⟩⟩)⟩
  refine ⟨fun i m σ' H' => m = ks.length - i ∧ i ≤ ks.length ∧ Pv od i σ' H', ⟨ks.length, by omega, Nat.zero_le _, h0 od⟩, ?_⟩
  rintro i m σ' H' ⟨rfl, hi, p⟩
  have e := hl od i σ' H' p
  by_cases lt : i < ks.length
  · refine .inr ⟨⟨e, lt⟩, Pv od (i + 1), fun σ3 H3 b => ⟨ks.length - (i + 1), by omega, rfl, by omega, b⟩, ?_⟩
    rintro x H2 ⟨rfl, k, v, hk, rfl⟩
    exact hs od i k v σ' _ hk p
  · obtain rfl : i = ks.length := by omega
    exact .inl ⟨⟨e, Nat.le_refl _⟩, e, hd od _ _ p⟩
end G

/-! An operator whose right operand is of another own class. -/
namespace G
open PySem PySem.Calls PyProof.Rows Builtin PySem.W
section
variable {M : Model} {A : Around} {E : Value → Shared → Prop} {s : Shared} {K : Frag} {x C D L f g : Addr} {h₀ : Heap} {m : Str → Option Value} {ox : Obj} {od : Option Obj} {v : Value}
theorem inPy_K {h : Heap} {nm : String} (X : K.In h) (hs : findIn K (.ref C) (PySem.dunder nm) = some (some (.ref f))) (hr : findIn K (.ref C) (PySem.dunderR nm) = some none) : Looks M h (numberSlotInPython (.ref C) nm) true := by
  intro A Q E s k q
  unfold numberSlotInPython
  dsimp only
  refine wpAny_bind (looks_findIn X hs A _ E s k ?_)
  refine wpAny_bind (m := calledByName _ _ _) (wpAny_pure ?_)
  refine wpAny_bind (looks_findIn X hr A _ E s k ?_)
  refine wpAny_bind (m := calledByName _ _ _) (wpAny_pure ?_)
  exact wpAny_pure q
theorem fills_S {h : Heap} {nm : String} (X : K.In h) (hc : selfFirst K C = true) (hs : findIn K (.ref C) (PySem.dunder nm) = some (some (.ref f))) : Looks M h (fillsNumberSlot (.ref C) nm) true := by
  obtain ⟨cd, hcd, hm⟩ := any_some hc
  obtain ⟨rest, hm⟩ : ∃ rest, cd.mro = .ref C :: rest := by
    cases q : cd.mro with
    | nil => rw [q] at hm; cases hm
    | cons a r => rw [q] at hm; exact ⟨r, by rw [List.head?_cons] at hm; cases (beq_iff_eq.mp hm); rfl⟩
  exact fills_K X hcd hm hs
theorem binop_K2 {prog : Program} {w : World} {op : Operator} {b : Value} {Q : Value → Shared → Prop} (F : PyProof.Rows.Fr h₀ L s.heap m) (X₀ : K.In h₀) (I : InstAt s.heap x ox C od) (hb : Looks (model prog w) s.heap (typeOf b) (.ref D)) (hne : C ≠ D)
    (hc : selfFirst K C = true) (hd : selfFirst K D = true) (hs : findIn K (.ref C) (PySem.dunder op.info.2) = some (some (.ref f))) (hs' : findIn K (.ref D) (PySem.dunder op.info.2) = some (some (.ref g)))
    (hr : findIn K (.ref C) (PySem.dunderR op.info.2) = some none) (hr' : findIn K (.ref D) (PySem.dunderR op.info.2) = some none) (hsub : subIn K (.ref D) (.ref C) = some false) (hf : isFn K (.ref f) = true)
    (h : wpAny (model prog w) A (call (.ref f) [.ref x, b]) (PySem.W.CmpBack Q) E s) : wpAny (model prog w) A (binaryOp op (.ref x) b) Q E s := by
  have X := X₀.keeps F.keep
  unfold binaryOp
  refine wpAny_holding (wpAny_bind ?_)
  unfold binaryOp1
  refine wpAny_bind (I.type.here (wpAny_bind (hb.here (wpAny_bind ((fills_S X hc hs).here ?_)))))
  have ne : (Value.ref C == Value.ref D) = false := by simpa using hne
  simp only [ne, Bool.false_eq_true, if_false]
  refine wpAny_bind ((fills_S X hd hs').here ?_)
  simp only [Bool.and_self, if_true]
  refine wpAny_bind ((looks_subIn X hsub).here ?_)
  simp only [Bool.false_eq_true, if_false]
  simp only [Bool.not_false, Bool.and_self, if_true]
  refine wpAny_bind ((inPy_K X hs hr).here ?_)
  simp only [if_true]
  refine wpAny_bind ((inPy_K X hs' hr').here ?_)
  simp only [Bool.not_true, Bool.false_eq_true, if_false]
  refine wpAny_bind (m := tryMethod (.ref x) _ b) ?_
  unfold tryMethod
  refine wpAny_bind (special_fn X I hs (beq_iff_eq.mp hf) (wpAny_mono h (fun v s' hv => ?_) fun _ _ e => e))
  cases v <;> first | exact hv.elim | exact wpAny_pure (wpAny_pure (wpAny_pure hv))
end
end G
namespace G
open PySem PySem.Spec PyProof.Rows L2
section
variable {X : Cx} {k k' : Nat} {f f' C D : Addr} {fd fd' : FuncData} {ps ps' : List Str} {sp sp' : Sp} {E E' : XK} {op : Operator}
/-- what the operator looks up in the two classes -/
structure OpX (K : PySem.W.Frag) (C D : Addr) (op : Operator) (f g : Addr) : Prop where
  ne : C ≠ D
  at_ : OpM K C (PySem.dunder op.info.2) f
  at' : OpM K D (PySem.dunder op.info.2) g
  s1 : PySem.W.selfFirst K C = true
  s2 : PySem.W.selfFirst K D = true
  r1 : PySem.W.findIn K (.ref C) (PySem.dunderR op.info.2) = some none
  r2 : PySem.W.findIn K (.ref D) (PySem.dunderR op.info.2) = some none
  sub : PySem.W.subIn K (.ref D) (.ref C) = some false
def rOwn2 (C D : Addr) (sp : Sp) (E : XK) : R2 := fun x y H Q => ∃ a dx fs b dy gs, x = .ref a ∧ y = .ref b ∧ H a = some (.ins C dx fs) ∧ H b = some (.ins D dy gs) ∧ sp [x, y] H Q E
theorem op_own2 {g : Addr} {CX : CXT} (F : FnOk X.prog X.w X.K X.mg X.base CX k f fd ps sp) (hr : Room k X.A) (hb : Binds X.K fd ps []) (hx : Passes CX X E) (m : OpX X.K C D op f g) :
    OpR X (binaryOp op) (rOwn2 C D sp E) := by
  intro pins s σ H x y v u Q I rx ry h
  obtain ⟨a, dx, fs, b, dy, gs, rfl, rfl, ea, eb, q⟩ := h
  obtain rfl : v = Value.ref a := rx
  obtain rfl : u = Value.ref b := ry
  obtain ⟨mA, O, _⟩ := ins_get I.hok ea
  obtain ⟨od, J, _⟩ := O.look
  obtain ⟨mB, O2, _⟩ := ins_get I.hok eb
  obtain ⟨od2, J2, _⟩ := O2.look
  obtain ⟨mm, fr⟩ := I.fr
  refine binop_K2 fr I.ok.mod.kin J J2.type m.ne m.s1 m.s2 m.at_.at_ m.at'.at_ m.r1 m.r2 m.sub m.at_.fn ?_
  refine wpAny_mono (run_fn (us := [.ref a, .ref b]) (vs := [.ref a, .ref b]) F hr hb .nil hx I (.cons rfl (.cons rfl .nil)) q) (fun w s' hw => ?_) fun _ _ e => e
  obtain ⟨z, H', I', rz, qz⟩ := hw
  exact mono_rel rz ⟨z, H', I', rz, qz⟩
/-- v == x, x of a class; v of a built-in kind, or of another own class with an __eq__ -/
def rEqV (K : PySem.W.Frag) (C D : Addr) (sp sp' : Sp) (E E' : XK) : R2 := fun x y H Q => rEqR C sp E x y H Q ∨ rEqO K D sp' E' x y H Q
theorem op_eqV {CX CX' : CXT} (F : FnOk X.prog X.w X.K X.mg X.base CX k f fd ps sp) (F' : FnOk X.prog X.w X.K X.mg X.base CX' k' f' fd' ps' sp') (hr : Room k X.A) (hr' : Room k' X.A) (hb : Binds X.K fd ps []) (hb' : Binds X.K fd' ps' []) (hx : Passes CX X E) (hx' : Passes CX' X E')
    (m : OpM X.K C "__eq__" f) (m' : OpM X.K D "__eq__" f') (far : Far X.K C) : OpR X (compareOp .Eq) (rEqV X.K C D sp sp' E E') := by
  intro pins s σ H x y v u Q I rx ry h
  rcases h with h | h
  · exact op_eqR F hr hb hx m far pins s σ H x y v u Q I rx ry h
  · exact op_eqO F' hr' hb' hx' m' pins s σ H x y v u Q I rx ry h
def rNeV (K : PySem.W.Frag) (C D : Addr) (sp sp' : Sp) (E E' : XK) : R2 := fun x y H Q => rNeR C sp E x y H Q ∨ rNeO K D sp' E' x y H Q
theorem op_neV {CX CX' : CXT} (F : FnOk X.prog X.w X.K X.mg X.base CX k f fd ps sp) (F' : FnOk X.prog X.w X.K X.mg X.base CX' k' f' fd' ps' sp') (hr : Room (k + 1) X.A) (hr' : Room (k' + 1) X.A) (hb : Binds X.K fd ps []) (hb' : Binds X.K fd' ps' []) (hx : Passes CX X E) (hx' : Passes CX' X E')
    (m : OpM X.K C "__eq__" f) (m' : OpM X.K D "__eq__" f') (far : Far X.K C) (N : NeM X.K C) (N' : NeM X.K D) : OpR X (compareOp .NotEq) (rNeV X.K C D sp sp' E E') := by
  intro pins s σ H x y v u Q I rx ry h
  rcases h with h | h
  · exact op_neR F hr hb hx m N far pins s σ H x y v u Q I rx ry h
  · exact op_neO F' hr' hb' hx' m' N' pins s σ H x y v u Q I rx ry h
end
end G
namespace G
open PySem PySem.Spec PyProof.Rows L2
/-! ### amounts -/
abbrev Amt := List (Key × (Int × Int))
/-- keys from 0 to 7, each once, pairs in lowest terms above 0 -/
structure Am (n : Nat) (xs : Amt) : Prop where
  key : ∀ p ∈ xs, ∃ i : Nat, i < 8 ∧ p.1 = .inl (i : Int)
  lp : ∀ p ∈ xs, Lp n p.2
  pos : ∀ p ∈ xs, 0 < p.2.1
  nd : (xs.map (·.1)).Nodup
def nf (xs : Amt) : Amt := pick (lk xs) 8
theorem lk_mem {xs : Amt} {k : Key} {v : Int × Int} (h : lk xs k = some v) : (k, v) ∈ xs := by
  unfold lk at h
  rw [Option.map_eq_some_iff] at h
  obtain ⟨p, hp, e⟩ := h
  have m := List.mem_of_find?_eq_some hp
  have c := List.find?_some hp
  have c : p.1 = k := of_decide_eq_true c
  rw [← c, ← e]
  exact m
theorem mem_lk {xs : Amt} {k : Key} {v : Int × Int} (nd : (xs.map (·.1)).Nodup) (h : (k, v) ∈ xs) : lk xs k = some v := by
  induction xs with
  | nil => cases h
  | cons p ps ih =>
    rw [List.map_cons, List.nodup_cons] at nd
    rcases List.mem_cons.mp h with rfl | h
    · unfold lk; rw [List.find?_cons_of_pos (by simp)]; rfl
    · have c : ¬ p.1 = k := fun c => nd.1 (by rw [c]; exact List.mem_map.mpr ⟨_, h, rfl⟩)
      have := ih nd.2 h
      unfold lk at this ⊢
      rw [List.find?_cons_of_neg (by simpa using c)]
      exact this
theorem Am.nil {n : Nat} : Am n [] := ⟨nofun, nofun, nofun, List.nodup_nil⟩
theorem Am.mono {n m : Nat} {xs : Amt} (h : Am n xs) (e : n ≤ m) : Am m xs := ⟨h.key, fun p hp => (h.lp p hp).mono e, h.pos, h.nd⟩
theorem pick_nd {α : Type} {f : Key → Option α} : ∀ n, ((pick f n).map (·.1)).Nodup
  | 0 => List.nodup_nil
  | n + 1 => by
    rw [pick_succ, List.map_append, List.nodup_append]
    refine ⟨pick_nd n, ?_, ?_⟩
    · cases f (.inl (n : Int)) <;> simp
    · intro a ha b hb e
      subst e
      obtain ⟨p, hp, rfl⟩ := List.mem_map.mp ha
      obtain ⟨i, hi, e1, _⟩ := mem_pick.mp hp
      cases h : f (.inl (n : Int)) with
      | none => rw [h] at hb; simp at hb
      | some v =>
        rw [h] at hb
        simp at hb
        rw [e1] at hb
        injection hb with hb
        omega
theorem am_pick {n : Nat} {f : Key → Option (Int × Int)} (h : ∀ (i : Nat) v, i < 8 → f (.inl (i : Int)) = some v → Lp n v ∧ 0 < v.1) : Am n (pick f 8) := by
  refine ⟨fun p hp => ?_, fun p hp => ?_, fun p hp => ?_, pick_nd 8⟩
  · obtain ⟨i, hi, e, _⟩ := mem_pick.mp hp
    exact ⟨i, hi, e⟩
  · obtain ⟨i, hi, e, e2⟩ := mem_pick.mp hp
    rw [e] at e2
    exact (h i _ hi e2).1
  · obtain ⟨i, hi, e, e2⟩ := mem_pick.mp hp
    rw [e] at e2
    exact (h i _ hi e2).2
theorem Am.at_ {n : Nat} {xs : Amt} (h : Am n xs) {k : Key} {v : Int × Int} (e : lk xs k = some v) : Lp n v ∧ 0 < v.1 := ⟨h.lp _ (lk_mem e), h.pos _ (lk_mem e)⟩
theorem Am.nf {n : Nat} {xs : Amt} (h : Am n xs) : Am n (nf xs) := am_pick fun _ _ _ e => h.at_ e
theorem Am.put {n i : Nat} {xs : Amt} {x : Int × Int} (h : Am n xs) (hi : i < 8) (hx : Lp n x) (x0 : 0 < x.1) : Am n (putX xs (.inl (i : Int)) x) := by
  unfold putX
  by_cases e : (xs.any fun p => decide (p.1 = .inl (i : Int))) = true
  · rw [if_pos e]
    have q : ∀ p ∈ xs.map (fun p => if p.1 = Sum.inl (i : Int) then (p.1, x) else p), ∃ r ∈ xs, p.1 = r.1 ∧ (p.2 = x ∨ p.2 = r.2) := by
      intro p hp
      obtain ⟨r, hr, rfl⟩ := List.mem_map.mp hp
      refine ⟨r, hr, ?_⟩
      by_cases c : r.1 = Sum.inl (i : Int)
      · rw [if_pos c]; exact ⟨rfl, .inl rfl⟩
      · rw [if_neg c]; exact ⟨rfl, .inr rfl⟩
    refine ⟨fun p hp => ?_, fun p hp => ?_, fun p hp => ?_, ?_⟩
    · obtain ⟨r, hr, e1, _⟩ := q p hp
      rw [e1]; exact h.key r hr
    · obtain ⟨r, hr, _, e2 | e2⟩ := q p hp
      · rw [e2]; exact hx
      · rw [e2]; exact h.lp r hr
    · obtain ⟨r, hr, _, e2 | e2⟩ := q p hp
      · rw [e2]; exact x0
      · rw [e2]; exact h.pos r hr
    · have z : (xs.map (fun p => if p.1 = Sum.inl (i : Int) then (p.1, x) else p)).map (·.1) = xs.map (·.1) := by
        rw [List.map_map]
        refine List.map_congr_left fun p _ => ?_
        show (if p.1 = Sum.inl (i : Int) then (p.1, x) else p).1 = p.1
        split <;> rfl
      rw [z]; exact h.nd
  · rw [if_neg e]
    have ne : ∀ p ∈ xs, ¬ p.1 = Sum.inl (i : Int) := fun p hp c => e (List.any_eq_true.mpr ⟨p, hp, decide_eq_true c⟩)
    refine ⟨fun p hp => ?_, fun p hp => ?_, fun p hp => ?_, ?_⟩
    · rcases List.mem_append.mp hp with hp | hp
      · exact h.key p hp
      · rw [List.mem_singleton.mp hp]; exact ⟨i, hi, rfl⟩
    · rcases List.mem_append.mp hp with hp | hp
      · exact h.lp p hp
      · rw [List.mem_singleton.mp hp]; exact hx
    · rcases List.mem_append.mp hp with hp | hp
      · exact h.pos p hp
      · rw [List.mem_singleton.mp hp]; exact x0
    · rw [List.map_append, List.nodup_append]
      refine ⟨h.nd, by simp, fun a ha b hb z => ?_⟩
      obtain ⟨p, hp, rfl⟩ := List.mem_map.mp ha
      simp at hb
      exact ne p hp (z.trans hb)
theorem Am.drop {n : Nat} {xs : Amt} (h : Am n xs) (k : Key) : Am n (dropX xs k) := by
  unfold dropX
  refine ⟨fun p hp => h.key p (List.mem_filter.mp hp).1, fun p hp => h.lp p (List.mem_filter.mp hp).1, fun p hp => h.pos p (List.mem_filter.mp hp).1, ?_⟩
  exact List.Nodup.sublist (List.Sublist.map _ (List.filter_sublist)) h.nd
def kb (m : Nat) (k : Key) : Bool := match k with | .inl i => decide (0 ≤ i ∧ i < m) | .inr _ => false
theorem kb_succ (m : Nat) (k : Key) : kb (m + 1) k = (kb m k || decide (k = .inl (m : Int))) := by
  cases k with
  | inr _ => simp [kb]
  | inl i =>
    have e : decide ((Sum.inl i : Key) = .inl (m : Int)) = decide (i = m) := by
      by_cases h : i = m
      · simp [h]
      · have : ¬ (Sum.inl i : Key) = .inl (m : Int) := fun z => h (Sum.inl.inj z)
        simp [h, this]
    rw [e]
    unfold kb
    by_cases h : i = m
    · simp [h]; omega
    · have : (0 ≤ i ∧ i < ((m + 1 : Nat) : Int)) ↔ (0 ≤ i ∧ i < (m : Int)) := by omega
      rw [decide_eq_false h, Bool.or_false]
      exact decide_eq_decide.mpr this
theorem kb_self (m : Nat) : kb m (.inl (m : Int)) = false := by simp [kb]
theorem count_split (m : Nat) : ∀ xs : Amt, xs.countP (fun p => kb (m + 1) p.1) = xs.countP (fun p => kb m p.1) + xs.countP (fun p => decide (p.1 = .inl (m : Int)))
  | [] => rfl
  | p :: ps => by
    rw [List.countP_cons, List.countP_cons, List.countP_cons, count_split m ps, kb_succ]
    by_cases c : p.1 = .inl (m : Int)
    · rw [c, kb_self]; simp; omega
    · simp [c]; omega
theorem count_one {k : Key} : ∀ {xs : Amt}, (xs.map (·.1)).Nodup → xs.countP (fun p => decide (p.1 = k)) = (lk xs k).toList.length
  | [], _ => rfl
  | p :: ps, nd => by
    rw [List.map_cons, List.nodup_cons] at nd
    rw [List.countP_cons]
    have ih := count_one (k := k) nd.2
    by_cases c : p.1 = k
    · have z : ps.countP (fun p => decide (p.1 = k)) = 0 := by
        rw [List.countP_eq_zero]
        intro q hq e
        exact nd.1 (by rw [c, ← of_decide_eq_true e]; exact List.mem_map.mpr ⟨q, hq, rfl⟩)
      rw [z]
      unfold lk
      rw [List.find?_cons_of_pos (by simpa using c)]
      simp [c]
    · rw [ih]
      unfold lk
      rw [List.find?_cons_of_neg (by simpa using c)]
      simp [c]
theorem pick_count {xs : Amt} (nd : (xs.map (·.1)).Nodup) : ∀ m, (pick (lk xs) m).length = xs.countP (fun p => kb m p.1)
  | 0 => by
    symm
    show xs.countP _ = 0
    rw [List.countP_eq_zero]
    intro p _
    cases h : p.1 with
    | inr _ => simp [kb]
    | inl i => simp only [kb, decide_eq_true_eq]; omega
  | m + 1 => by
    rw [pick_succ, List.length_append, pick_count nd m, count_split, count_one nd]
    cases lk xs (.inl (m : Int)) <;> rfl
theorem Am.len {n : Nat} {xs : Amt} (h : Am n xs) : (G.nf xs).length = xs.length := by
  unfold G.nf
  rw [pick_count h.nd, List.countP_eq_length]
  intro p hp
  obtain ⟨i, hi, e⟩ := h.key p hp
  rw [e]
  simp [kb]
  omega
theorem Am.len8 {n : Nat} {xs : Amt} (h : Am n xs) : xs.length ≤ 8 := by
  rw [← h.len]
  exact pick_len
theorem dEq_nf {n m : Nat} {xs ys : Amt} (hx : Am n xs) (hy : Am m ys) : dEq xs ys = decide (nf xs = nf ys) := by
  unfold dEq
  have lx := hx.len
  have ly := hy.len
  by_cases h : nf xs = nf ys
  · rw [decide_eq_true h, Bool.and_eq_true, beq_iff_eq, List.all_eq_true]
    refine ⟨by rw [← lx, ← ly, h], fun p hp => decide_eq_true ?_⟩
    obtain ⟨i, hi, e⟩ := hx.key p hp
    have e1 : lk xs p.1 = some p.2 := mem_lk hx.nd hp
    rw [e] at e1 ⊢
    have e2 := lk_pick (n := 8) (f := lk xs) hi
    have e3 := lk_pick (n := 8) (f := lk ys) hi
    rw [← e3, ← e1, ← e2]
    show lk (nf ys) _ = lk (nf xs) _
    rw [h]
  · rw [decide_eq_false h]
    cases hz : (xs.length == ys.length && xs.all fun p => decide (lk ys p.1 = some p.2)) with
    | false => rfl
    | true =>
      rw [Bool.and_eq_true, beq_iff_eq, List.all_eq_true] at hz
      obtain ⟨hl, ha⟩ := hz
      have sub : ∀ (i : Nat) v, i < 8 → lk xs (.inl (i : Int)) = some v → lk ys (.inl (i : Int)) = some v := fun i v hi e => of_decide_eq_true (ha _ (lk_mem e))
      have q := (pick_le sub).2 (by
        have a : (pick (lk xs) 8).length = xs.length := lx
        have b : (pick (lk ys) 8).length = ys.length := ly
        omega)
      exact absurd (pick_congr q) h
theorem nf_eq {xs ys : Amt} (h : ∀ i : Nat, i < 8 → lk xs (.inl (i : Int)) = lk ys (.inl (i : Int))) : nf xs = nf ys := pick_congr h
theorem lk_nf {xs : Amt} {i : Nat} (hi : i < 8) : lk (nf xs) (.inl (i : Int)) = lk xs (.inl (i : Int)) := lk_pick hi
theorem nf_nf (xs : Amt) : nf (nf xs) = nf xs := nf_eq fun _ hi => lk_nf hi
theorem asc_nf (xs : Amt) : Asc 8 (nf xs) := asc_pick
theorem Asc.nf {xs : Amt} (h : Asc 8 xs) : nf xs = xs := h
end G
namespace G
open PySem PySem.Spec PyProof.Rows L2
/-! ### what the methods of mixtures promise -/
theorem jn0_pos {t y : Int × Int} (ht : 0 < t.1) (hy : 0 < y.1) (t2 : 0 < t.2) (y2 : 0 < y.2) : 0 < (jn 0 t y).1 := by
  rw [jn_add]
  obtain ⟨g, g0, e1, e2⟩ := low_parts (u := t.1 * y.2 + y.1 * t.2) (Int.mul_pos t2 y2)
  have p := Int.mul_pos ht y2
  have p' := Int.mul_pos hy t2
  generalize (low (t.1 * y.2 + y.1 * t.2) (t.2 * y.2)).1 = c at *
  by_cases hc : 0 < c
  · exact hc
  · have z := Int.mul_le_mul_of_nonneg_left (show c ≤ 0 by omega) (show 0 ≤ g by omega)
    rw [Int.mul_zero] at z
    omega
theorem jn0_zero {n : Nat} {y : Int × Int} (hy : Lp n y) : jn 0 (0, 1) y = y := by
  refine val_inj (jn_lp (.inl rfl) lp_zero hy) hy ?_
  rw [val_jn0 lp_zero hy, val_zero]
  grind
theorem jn0_zero' {n : Nat} {y : Int × Int} (hy : Lp n y) : jn 0 y (0, 1) = y := by
  refine val_inj (jn_lp (.inl rfl) hy lp_zero) hy ?_
  rw [val_jn0 hy lp_zero, val_zero]
  grind
def jnO : Option (Int × Int) → Option (Int × Int) → Option (Int × Int)
  | none, none => none
  | some x, none => some x
  | none, some y => some y
  | some x, some y => some (jn 0 x y)
def addM (xs ys : Amt) : Amt := pick (fun k => jnO (lk xs k) (lk ys k)) 8
def mulM (xs : Amt) (r : Int × Int) : Amt := pick (fun k => (lk xs k).map fun x => jn 2 x r) 8
theorem addM_am {n m : Nat} {xs ys : Amt} (hx : Am n xs) (hy : Am m ys) : Am (n + m + 1) (addM xs ys) := by
  refine am_pick fun i v hi e => ?_
  cases a : lk xs (.inl (i : Int)) with
  | none =>
    cases b : lk ys (.inl (i : Int)) with
    | none => rw [a, b] at e; cases e
    | some y => rw [a, b] at e; cases e; exact ⟨(hy.at_ b).1.mono (by omega), (hy.at_ b).2⟩
  | some x =>
    cases b : lk ys (.inl (i : Int)) with
    | none => rw [a, b] at e; cases e; exact ⟨(hx.at_ a).1.mono (by omega), (hx.at_ a).2⟩
    | some y =>
      rw [a, b] at e
      cases e
      exact ⟨jn_lp (.inl rfl) (hx.at_ a).1 (hy.at_ b).1, jn0_pos (hx.at_ a).2 (hy.at_ b).2 (hx.at_ a).1.1 (hy.at_ b).1.1⟩
theorem mulM_am {n m : Nat} {xs : Amt} {r : Int × Int} (hx : Am n xs) (hr : Lp m r) (r0 : 0 < r.1) : Am (n + m + 1) (mulM xs r) := by
  refine am_pick fun i v hi e => ?_
  cases a : lk xs (.inl (i : Int)) with
  | none => rw [a] at e; cases e
  | some x =>
    rw [a] at e
    cases e
    exact ⟨jn_lp (.inr (.inr rfl)) (hx.at_ a).1 hr, jn2_pos (hx.at_ a).2 r0 (hx.at_ a).1.1 hr.1⟩
theorem asc_addM {xs ys : Amt} : Asc 8 (addM xs ys) := asc_pick
theorem asc_mulM {xs : Amt} {r : Int × Int} : Asc 8 (mulM xs r) := asc_pick
def gt0 (xs : Amt) (k : Key) : Int × Int := (lk xs k).getD (0, 1)
theorem Am.gt0 {n : Nat} {xs : Amt} (h : Am n xs) (k : Key) : Lp (n + 1) (G.gt0 xs k) := by
  unfold G.gt0
  cases e : lk xs k with
  | none => exact lp_zero.mono (by omega)
  | some x => exact (h.at_ e).1.mono (by omega)
/-- the sums, put in one by one -/
def addF (xs ys : Amt) (zs : Amt) : Amt := zs.foldl (fun acc p => putX acc p.1 (jn 0 (gt0 xs p.1) (gt0 ys p.1))) xs
theorem addF_snoc (xs ys zs : Amt) (p : Key × (Int × Int)) : addF xs ys (zs ++ [p]) = putX (addF xs ys zs) p.1 (jn 0 (gt0 xs p.1) (gt0 ys p.1)) := by
  unfold addF
  rw [List.foldl_append]
  rfl
theorem lk_addF (xs ys : Amt) (k : Key) (zs : Amt) : ∀ acc : Amt, lk (zs.foldl (fun acc p => putX acc p.1 (jn 0 (gt0 xs p.1) (gt0 ys p.1))) acc) k = if (zs.any fun p => decide (p.1 = k)) = true then some (jn 0 (gt0 xs k) (gt0 ys k)) else lk acc k := by
  induction zs with
  | nil => intro acc; simp
  | cons p ps ih =>
    intro acc
    rw [List.foldl_cons, ih, List.any_cons, lk_put]
    by_cases c : p.1 = k
    · subst c
      by_cases d : (ps.any fun q => decide (q.1 = p.1)) = true
      · simp [d]
      · simp [d]
    · have c' : ¬ k = p.1 := fun z => c z.symm
      rw [if_neg c', decide_eq_false c, Bool.false_or]
theorem any_lk (xs : Amt) (k : Key) : (xs.any fun p => decide (p.1 = k)) = (lk xs k).isSome := by
  induction xs with
  | nil => rfl
  | cons p ps ih =>
    rw [List.any_cons, ih]
    unfold lk
    by_cases c : p.1 = k
    · rw [List.find?_cons_of_pos (by simpa using c)]; simp [c]
    · rw [List.find?_cons_of_neg (by simpa using c)]; simp [c]
theorem nf_addF {n m : Nat} {xs ys : Amt} (hx : Am n xs) (hy : Am m ys) : nf (addF xs ys ys) = addM xs ys := by
  refine pick_congr fun i hi => ?_
  unfold addF
  rw [lk_addF, any_lk]
  cases b : lk ys (.inl (i : Int)) with
  | none =>
    show lk xs _ = jnO (lk xs _) none
    cases lk xs (.inl (i : Int)) <;> rfl
  | some y =>
    have g : gt0 ys (.inl (i : Int)) = y := by unfold gt0; rw [b]; rfl
    rw [if_pos (show (some y).isSome = true from rfl), g]
    cases a : lk xs (.inl (i : Int)) with
    | none =>
      have g : gt0 xs (.inl (i : Int)) = (0, 1) := by unfold gt0; rw [a]; rfl
      rw [g, jn0_zero (hy.at_ b).1]
      rfl
    | some x =>
      have g : gt0 xs (.inl (i : Int)) = x := by unfold gt0; rw [a]; rfl
      rw [g]
      rfl
theorem am_addF {n : Nat} {xs ys : Amt} (hx : Am n xs) (hy : Am n ys) : ∀ zs : Amt, (∀ p ∈ zs, p ∈ ys) → Am (2 * n + 3) (addF xs ys zs) := by
  intro zs
  suffices h : ∀ acc : Amt, Am (2 * n + 3) acc → (∀ p ∈ zs, p ∈ ys) → Am (2 * n + 3) (zs.foldl (fun acc p => putX acc p.1 (jn 0 (gt0 xs p.1) (gt0 ys p.1))) acc) from h xs (hx.mono (by omega))
  induction zs with
  | nil => intro acc h _; exact h
  | cons p ps ih =>
    intro acc h s
    rw [List.foldl_cons]
    refine ih _ ?_ fun q hq => s q (List.mem_cons_of_mem _ hq)
    have m := s p List.mem_cons_self
    obtain ⟨i, hi, e⟩ := hy.key p m
    have l := mem_lk hy.nd (k := p.1) (v := p.2) m
    have g : gt0 ys p.1 = p.2 := by unfold gt0; rw [l]; rfl
    rw [e] at g ⊢
    rw [g]
    refine h.put hi ((jn_lp (.inl rfl) (hx.gt0 _) (hy.lp p m)).mono (by omega)) ?_
    unfold gt0
    cases a : lk xs (.inl (i : Int)) with
    | none =>
      show 0 < (jn 0 (0, 1) p.2).1
      rw [jn0_zero (hy.lp p m)]
      exact hy.pos p m
    | some x => exact jn0_pos (hx.at_ a).2 (hy.pos p m) (hx.at_ a).1.1 (hy.lp p m).1
/-! specs -/
/-- such a mixture whose dict was not there in H0 -/
def MixN (H0 : Hp) (M C : Addr) (H : Hp) (p : Addr) (xs : Amt) : Prop := ∃ dx d ks, H0 d = none ∧ H p = some (.ins M dx (putF "_amounts" (.ref d) [])) ∧ H d = some (.dK ks) ∧ Ent (RpR C) H ks xs ∧ Asc 8 xs
theorem MixN.mix {H0 H : Hp} {M C p : Addr} {xs : Amt} (h : MixN H0 M C H p xs) : Mix M C H p xs := let ⟨dx, d, ks, _, r⟩ := h; ⟨dx, d, ks, r⟩
theorem MixN.back {H0 H1 H : Hp} {M C p : Addr} {xs : Amt} (h : MixN H1 M C H p xs) (f : ∀ c, H1 c = none → H0 c = none) : MixN H0 M C H p xs := let ⟨dx, d, ks, n, r⟩ := h; ⟨dx, d, ks, f _ n, r⟩
theorem MixN.sameB {H0 H1 H : Hp} {M C p : Addr} {xs : Amt} (h : MixN H1 M C H p xs) (f : Same H0 H1) : MixN H0 M C H p xs := h.back fun _ n => f.free n
def spWithin : Sp := fun vs H Q _ => ∃ i l m : Int, vs = [.int i, .int l, .int m] ∧ Q (.bl (decide (l ≤ i ∧ i ≤ m))) H
def spIsSub : Sp := fun vs H Q _ => ∃ i : Int, vs = [.int i] ∧ Q (.bl (decide (0 ≤ i ∧ i ≤ 7))) H
def spCheckA (C : Addr) : Sp := fun vs H Q _ => ∃ d ks xs n, vs = [.ref d] ∧ H d = some (.dK ks) ∧ Ent (RpR C) H ks xs ∧ Am n xs ∧ ∀ H', Same H H' → Q .non H'
def spMInit (M C : Addr) : Sp := fun vs H Q _ => ∃ (p dx d : Addr) (ks : List (Key × V)) (xs : Amt) (n : Nat), vs = [.ref p, .ref d] ∧ H p = some (.ins M dx []) ∧ H d = some (.dK ks) ∧ Ent (RpR C) H ks xs ∧ Am n xs ∧
  ∀ D H', H D = none → Same H H' → H' D = some (.dK (pick (valV ks) 8)) → Q .non (upd H' p (.ins M dx (putF "_amounts" (.ref D) [])))
def spMVol (M C : Addr) : Sp := fun vs H Q _ => ∃ p xs n, vs = [.ref p] ∧ Mix M C H p xs ∧ Am n xs ∧ 9 * (n + 1) ≤ 3400 ∧ ∀ r H', H r = none → Same H H' → Rat C H' r (tot (xs.map (·.2))).1 (tot (xs.map (·.2))).2 → Q (.ref r) H'
def spMSubst (M C : Addr) : Sp := fun vs H Q _ => ∃ p xs, vs = [.ref p] ∧ Mix M C H p xs ∧ ∀ l H', H l = none → Same H H' → H' l = some (.lst (xs.map fun p => kV p.1)) → Q (.ref l) H'
def spMAmt (M C : Addr) : Sp := fun vs H Q _ => ∃ (p : Addr) (i : Int) (xs : Amt), vs = [.ref p, .int i] ∧ Mix M C H p xs ∧ 0 ≤ i ∧ i ≤ 7 ∧ ∀ r H', Same H H' → Rat C H' r (gt0 xs (.inl i)).1 (gt0 xs (.inl i)).2 → Q (.ref r) H'
def spMEq (K : PySem.W.Frag) (M C : Addr) : Sp := fun vs H Q _ =>
  (∃ p q xs ys, vs = [.ref p, .ref q] ∧ Mix M C H p xs ∧ Mix M C H q ys ∧ Q (.bl (decide (xs = ys))) H) ∨
  ∃ p xs v t, vs = [.ref p, v] ∧ Mix M C H p xs ∧ TyX K H v t ∧ PySem.W.kitOne K t (.ref M) = some false ∧ Q (.bl false) H
def spMAdd (M C : Addr) : Sp := fun vs H Q _ => ∃ p q xs ys n, vs = [.ref p, .ref q] ∧ Mix M C H p xs ∧ Mix M C H q ys ∧ Am n xs ∧ Am n ys ∧ n ≤ 3400 ∧ ∀ r H', H r = none → Same H H' → MixN H M C H' r (addM xs ys) → Q (.ref r) H'
def spMMul (M C : Addr) : Sp := fun vs H Q _ => ∃ p q xs r n, vs = [.ref p, .ref q] ∧ Mix M C H p xs ∧ Rat C H q r.1 r.2 ∧ Am n xs ∧ Lp n r ∧ 0 ≤ r.1 ∧ n ≤ 3400 ∧ ∀ z H', H z = none → Same H H' → MixN H M C H' z (if r.1 = 0 then [] else mulM xs r) → Q (.ref z) H'
theorem mix_fld (d : Addr) : (putF "_amounts" (V.ref d) []).lookup ("_amounts" : Str) = some (V.ref d) := by rw [lookup_putF, if_pos rfl]
theorem mix_nofld {d : Addr} {m : Str} (h : m ≠ "_amounts") : (putF "_amounts" (V.ref d) []).lookup m = none := by rw [lookup_putF, if_neg h]; rfl
/-- a mixture is made -/
theorem mix_of {M C d : Addr} {H : Hp} {ks : List (Key × V)} {xs : Amt} {n : Nat} {Q : Addr → Hp → Prop} {E : XK} (hd : H d = some (.dK ks)) (en : Ent (RpR C) H ks xs) (am : Am n xs) (q : ∀ x H2, H x = none → Same H H2 → MixN H M C H2 x (nf xs) → Q x H2) :
    ∀ x dx, H x = none → H dx = none → dx ≠ x → spMInit M C [.ref x, .ref d] (upd (upd H dx (.own x)) x (.ins M dx [])) (fun v H2 => v = .non ∧ Q x H2) E := by
  intro x dx hx hdx hne
  have e0 : Same H (upd (upd H dx (.own x)) x (.ins M dx [])) := fun c o h => by
    rw [upd_ne (ne_of_none h hx), upd_ne (ne_of_none h hdx)]
    exact h
  refine ⟨x, dx, d, ks, xs, n, rfl, upd_same, e0 _ _ hd, en.mono fun v x r => r.same e0, am, fun D H' nD e h => ⟨rfl, ?_⟩⟩
  have xD : x ≠ D := ne_of_none upd_same nD
  refine q x _ hx (fun c o h => ?_) ⟨dx, D, pick (valV ks) 8, e0.free nD, upd_same, ?_, ?_, asc_nf xs⟩
  · rw [upd_ne (ne_of_none h hx)]
    exact e _ _ (e0 _ _ h)
  · rw [upd_ne (Ne.symm xD)]
    exact h
  · refine (en.pick 8).mono fun v y r => ?_
    obtain ⟨a, rfl, da, ha⟩ := r
    exact ⟨a, rfl, da, by rw [upd_ne (ne_of_none ha hx)]; exact e _ _ (e0 _ _ ha)⟩
theorem Ent.get {R : RepP} {H : Hp} {ks : List (Key × V)} {xs : Amt} (h : Ent R H ks xs) {i : Nat} {k : Key} {v : V} (e : ks[i]? = some (k, v)) : ∃ x, xs[i]? = some (k, x) ∧ R H v x := by
  unfold Ent at h
  induction h generalizing i with
  | nil => cases e
  | @cons p q ps qs a _ ih =>
    cases i with
    | zero =>
      cases e
      exact ⟨q.2, by show some q = _; rw [show k = q.1 from a.1], a.2⟩
    | succ i => exact ih e
theorem Ent.len {R : RepP} {H : Hp} {ks : List (Key × V)} {xs : Amt} (h : Ent R H ks xs) : ks.length = xs.length := Paired.length h
theorem Ent.keys {R : RepP} {H : Hp} {ks : List (Key × V)} {xs : Amt} (h : Ent R H ks xs) : (ks.map fun kv => kV kv.1) = xs.map fun p => kV p.1 := by
  unfold Ent at h
  induction h with
  | nil => rfl
  | cons a _ ih => rw [List.map_cons, List.map_cons, ih, a.1]
theorem Ent.vals {C : Addr} {H : Hp} {ks : List (Key × V)} {xs : Amt} (h : Ent (RpR C) H ks xs) : Rats C H (ks.map (·.2)) (xs.map (·.2)) := by
  unfold Ent at h
  induction h with
  | nil => exact .nil
  | cons a _ ih =>
    obtain ⟨r, e, h⟩ := a.2
    rw [List.map_cons, List.map_cons, e]
    exact .cons h ih
theorem Ent.same {R : RepP} {H H' : Hp} {ks : List (Key × V)} {xs : Amt} (st : ∀ v x, R H v x → R H' v x) (h : Ent R H ks xs) : Ent R H' ks xs := h.mono st
theorem nf_vals (xs : Amt) (n : Nat) (h : ∀ p ∈ xs, Lp n p.2) : ∀ x ∈ xs.map (·.2), Lp n x := fun x hx => by
  obtain ⟨p, hp, rfl⟩ := List.mem_map.mp hx
  exact h p hp
end G
namespace G
open PySem PySem.Spec PyProof.Rows L2
/-! ### steps over dicts -/
section
variable {σ : L2.St} {H : Hp} {Q : VK} {D : Ends} {te td ty tv tx : TE} {d : Addr} {ks : List (Key × V)} {v : V} {i : Int}
theorem w_din (q : ty σ H fun y H1 => td σ H1 fun x H2 => ∃ a o, x = .ref a ∧ DGet H2 a y o ∧ Q (.bl o.isSome) H2) : tDIn ty td σ H Q := q
theorem w_dget (q : td σ H fun x H1 => ty σ H1 fun y H2 => ∃ a v, x = .ref a ∧ DGet H2 a y (some v) ∧ Q v H2) : tDGet td ty σ H Q := q
theorem w_dput (q : tv σ H fun v H1 => td σ H1 fun x H2 => ty σ H2 fun y H3 => ∃ a H4, x = .ref a ∧ DPut H3 a y v H4 ∧ D.nx σ H4) : sDPut td ty tv D σ H := q
theorem w_dpop2 (q : td σ H fun x H1 => ∃ a, x = .ref a ∧ IsD H1 a ∧ ty σ H1 fun y H2 => tx σ H2 fun z H3 => ∃ kvs k, H3 a = some (.dK kvs) ∧ y = kV k ∧ (∀ v, valV kvs k = some v → Q v (upd H3 a (.dK (dropK kvs k)))) ∧ (valV kvs k = none → Q z H3)) : tDPop2 td ty tx σ H Q := q
theorem w_dget2 (q : td σ H fun x H1 => ∃ a, x = .ref a ∧ IsD H1 a ∧ ty σ H1 fun y H2 => tx σ H2 fun z H3 => ∃ o, DGet H3 a y o ∧ Q (o.getD z) H3) : tDGet2 td ty tx σ H Q := q
theorem w_bm0 {K : PySem.W.Frag} {T : String} {r : V → List V → Hp → VK → Prop} {to : TE} (q : to σ H fun x H1 => tyV K T x H1 ∧ r x [] H1 Q) : tBM0 K T r to σ H Q := q
theorem w_listVals (q : te σ H fun x H1 => rValsL x H1 Q) : tListVals te σ H Q := q
theorem w_valsL (hd : H d = some (.dK ks)) (q : ∀ p H', H p = none → Same H H' → H' p = some (.lst (ks.map (·.2))) → Q (.ref p) H') : rValsL (.ref d) H Q := ⟨d, ks, rfl, hd, fun p np => q p _ np (same_new np) upd_same⟩
theorem w_listD (hd : H d = some (.dK ks)) (q : ∀ p H', H p = none → Same H H' → H' p = some (.lst (ks.map fun kv => kV kv.1)) → Q (.ref p) H') : rListD [.ref d] H Q := ⟨d, ks, rfl, hd, fun p np => q p _ np (same_new np) upd_same⟩
def rDictD : List V → Hp → VK → Prop := fun xs H Q => ∃ (a : Addr) (kvs : List (Key × V)), xs = [.ref a] ∧ Rd H a (.dK kvs) ∧ ∀ p, H p = none → Q (.ref p) (upd H p (.dK kvs))
theorem call_dictDo {X : Cx} : CallR X (.type "dict") rDictD := call_dictD
theorem w_dictD (hd : H d = some (.dK ks)) (q : ∀ p H', H p = none → Same H H' → H' p = some (.dK ks) → Q (.ref p) H') : rDictD [.ref d] H Q := ⟨d, ks, rfl, .inl hd, fun p np => q p _ np (same_new np) upd_same⟩
def rSortedD : List V → Hp → VK → Prop := fun xs H Q => ∃ (a : Addr) (kvs : List (Key × V)) (ks : List Int), xs = [.ref a] ∧ Rd H a (.dK kvs) ∧ kvs.map (·.1) = ks.map Sum.inl ∧ ks.length < 64 ∧
    ∀ (ys : List Int) (p : Addr), ys.Perm ks → ys.Pairwise (· ≤ ·) → H p = none → Q (.ref p) (upd H p (.lst (ys.map V.int)))
theorem call_sortedDo {X : Cx} (hcalm : X.calm = true) : CallR X (.builtin "sorted") rSortedD := call_sortedDI hcalm
theorem dget_of (hd : Rd H d (.dK ks)) (e : valV ks (.inl i) = some v) : DGet H d (.int i) (some v) := .inl ⟨ks, .inl i, hd, rfl, e.symm⟩
theorem dget_any (hd : Rd H d (.dK ks)) : DGet H d (.int i) (valV ks (.inl i)) := .inl ⟨ks, .inl i, hd, rfl, rfl⟩
theorem dput_of (hd : H d = some (.dK ks)) (hl : ks.length ≤ 1000) : DPut H d (.int i) v (upd H d (.dK (putK ks (.inl i) v))) := .inl ⟨ks, .inl i, hd, rfl, by rw [show sizeLine = 16777216 from sizeLine_eq]; omega, rfl⟩
end
end G
namespace G
open PySem PySem.Spec PyProof.Rows L2
theorem RpR.upd {C d : Addr} {H : Hp} {v : V} {x : Int × Int} {o o' : HO} (h : RpR C H v x) (hd : H d = some o) (n : ∀ dx fs, o ≠ .ins C dx fs) : RpR C (upd H d o') v x := by
  obtain ⟨r, e, dx, h⟩ := h
  exact ⟨r, e, dx, by rw [upd_ne (ne_of h hd (fun z => n _ _ z.symm))]; exact h⟩
theorem putX_new {xs : Amt} {k : Key} {x : Int × Int} (h : ∀ p ∈ xs, p.1 ≠ k) : putX xs k x = xs ++ [(k, x)] := by
  unfold putX
  rw [if_neg]
  intro z
  obtain ⟨p, hp, e⟩ := List.any_eq_true.mp z
  exact h p hp (of_decide_eq_true e)
theorem nd_take {ys : Amt} (nd : (ys.map (·.1)).Nodup) {i : Nat} {p : Key × (Int × Int)} (h : ys[i]? = some p) : ∀ q ∈ ys.take i, q.1 ≠ p.1 := by
  intro q hq e
  have s : ys.take i ++ [p] = ys.take (i + 1) := (take_snoc h).symm
  have nd' : ((ys.take (i + 1)).map (·.1)).Nodup := List.Nodup.sublist (List.Sublist.map _ (List.take_sublist _ _)) nd
  rw [← s, List.map_append, List.nodup_append] at nd'
  exact nd'.2.2 q.1 (List.mem_map.mpr ⟨q, hq, rfl⟩) p.1 (by simp) e
/-- {k: e for k, v in d.items()}, d locked meanwhile -/
theorem comp_items {C d : Addr} {σ : L2.St} {H : Hp} {Q : VK} {ks : List (Key × V)} {xs ys : Amt} {td tv : TE} {g : TG} {j : Nat} {vs : List Nat} (σs : Key → V → L2.St) (hd : H d = some (.dK ks)) (en : Ent (RpR C) H ks xs) (ly : xs.length = ys.length) (nd : (ys.map (·.1)).Nodup) (l8 : ys.length ≤ 1000)
    (hk : ∀ (i : Nat) (p q : Key × (Int × Int)), xs[i]? = some p → ys[i]? = some q → p.1 = q.1)
    (hv : ∀ (od : Obj) (R : V → Hp → Prop), R (.ref d) (upd H d (.frz od (.dK ks))) → td σ (upd H d (.frz od (.dK ks))) R) (hg : ∀ (T : Addr) (k : Key) (v : V) (H' : Hp) (R : L2.St → Hp → Prop), H' T = some (.tup [kV k, v]) → R (σs k v) H' → g (.ref T) (wipe σ vs) H' R) (hw : ∀ k v, wipe (σs k v) vs = wipe σ vs) (hj : ∀ k v, (σs k v)[j]? = some (some (kV k)))
    (hs : ∀ (od : Obj) (i : Nat) (k : Key) (v : V) (x y : Int × Int) (H' : Hp) (R : V → Hp → Prop), xs[i]? = some (k, x) → ys[i]? = some (k, y) → Same (upd H d (.frz od (.dK ks))) H' → RpR C H' v x → (∀ w H'', Same H' H'' → RpR C H'' w y → R w H'') → tv (σs k v) H' R)
    (q : ∀ D H' acc, H D = none → Same H H' → H' D = some (.dK acc) → Ent (RpR C) H' acc ys → Q (.ref D) H') : tLockE (tDc (iItems td) g tYes (tVar j) tv vs) σ H Q := by
  refine ⟨d, .dK ks, hd, True.intro, fun od => hv _ _ ⟨d, od, ks, rfl, upd_same, fun D nD => ⟨fun i m H' => m = ks.length - i ∧ i ≤ ks.length ∧ Same (upd H d (.frz od (.dK ks))) H' ∧ ∃ acc, H' D = some (.dK acc) ∧ Ent (RpR C) H' acc (ys.take i), ⟨ks.length, by omega, Nat.zero_le _, same_new nD, [], upd_same, .nil⟩, ?_⟩⟩⟩
  have lx := en.len
  have nD0 : H D = none := by
    cases h : H D with
    | none => rfl
    | some o =>
      have : D ≠ d := by
        intro z
        rw [z, upd_same] at nD
        cases nD
      rw [upd_ne this, h] at nD
      cases nD
  rintro i m H' ⟨rfl, hi, e, acc, hD, ea⟩
  have hl := same_locked e
  have dD : d ≠ D := ne_of_none upd_same nD
  by_cases lt : i < ks.length
  · refine .inr ⟨⟨hl, lt⟩, fun H' => Same (upd H d (.frz od (.dK ks))) H' ∧ ∃ acc, H' D = some (.dK acc) ∧ Ent (RpR C) H' acc (ys.take (i + 1)), fun H' ⟨a, b⟩ => ⟨ks.length - (i + 1), by omega, rfl, by omega, a, b⟩, ?_⟩
    rintro x H2 ⟨T, k, v, hki, rfl, hT, rfl⟩
    have e2 : Same H' (upd H' T (.tup [kV k, v])) := same_new hT
    refine hg T k v _ _ upd_same ⟨hw k v, w_yes (w_iteT rfl (w_var (hj k v) ?_))⟩
    obtain ⟨x, hx, r⟩ := (en.mono fun v x => still_R (C := C) H d od ks v x hd).get hki
    obtain ⟨y, hy⟩ : ∃ y, ys[i]? = some y := ⟨ys[i]'(by omega), by rw [List.getElem?_eq_getElem]⟩
    obtain ⟨k', y⟩ := y
    obtain rfl : k = k' := hk i _ _ hx hy
    refine hs od i k v x y _ _ hx hy (e.trans e2) (r.same (e.trans e2)) fun w H3 e3 rw_ => ?_
    have hD3 : H3 D = some (.dK acc) := e3 _ _ (e2 _ _ hD)
    have la := ea.len
    rw [List.length_take] at la
    refine ⟨acc, k, rfl, hD3, by rw [show sizeLine = 16777216 from sizeLine_eq]; omega, Fr.unseen nD ((e.trans e2).trans e3) Fr.at_, _, upd_same, ?_⟩
    rw [take_snoc hy, ← putX_new (nd_take nd hy)]
    exact Ent.put (ea.mono fun v x r => ((r.same e2).same e3).upd hD3 (fun _ _ z => nomatch z)) (rw_.upd hD3 (fun _ _ z => nomatch z))
  · obtain rfl : i = ks.length := by omega
    refine .inl ⟨⟨hl, Nat.le_refl _⟩, hl, ?_⟩
    rw [lx, ly, List.take_length] at ea
    refine q D _ acc nD0 (same_unlock hd e) ?_ (ea.mono fun v x r => r.upd hl (fun _ _ z => nomatch z))
    rw [upd_ne (Ne.symm dD)]
    exact hD
theorem lk_map (f : Int × Int → Int × Int) (xs : Amt) (k : Key) : lk (xs.map fun p => (p.1, f p.2)) k = (lk xs k).map f := by
  induction xs with
  | nil => rfl
  | cons p ps ih =>
    rw [List.map_cons]
    unfold lk at ih ⊢
    by_cases c : p.1 = k
    · rw [List.find?_cons_of_pos (by simpa using c), List.find?_cons_of_pos (by simpa using c)]; rfl
    · rw [List.find?_cons_of_neg (by simpa using c), List.find?_cons_of_neg (by simpa using c)]; exact ih
def mulF (xs : Amt) (r : Int × Int) : Amt := xs.map fun p => (p.1, jn 2 p.2 r)
theorem nf_mulF (xs : Amt) (r : Int × Int) : nf (mulF xs r) = mulM xs r := pick_congr fun i _ => lk_map (fun x => jn 2 x r) xs _
theorem mulF_keys (xs : Amt) (r : Int × Int) : (mulF xs r).map (·.1) = xs.map (·.1) := by unfold mulF; rw [List.map_map]; rfl
theorem am_mulF {n m : Nat} {xs : Amt} {r : Int × Int} (hx : Am n xs) (hr : Lp m r) (r0 : 0 < r.1) : Am (n + m + 1) (mulF xs r) := by
  refine ⟨fun p hp => ?_, fun p hp => ?_, fun p hp => ?_, by rw [mulF_keys]; exact hx.nd⟩
  · obtain ⟨q, hq, rfl⟩ := List.mem_map.mp hp
    exact hx.key q hq
  · obtain ⟨q, hq, rfl⟩ := List.mem_map.mp hp
    exact jn_lp (.inr (.inr rfl)) (hx.lp q hq) hr
  · obtain ⟨q, hq, rfl⟩ := List.mem_map.mp hp
    exact jn2_pos (hx.pos q hq) r0 (hx.lp q hq).1 hr.1
end G
namespace G
open PySem PySem.Spec PyProof.Rows L2
/-! ### dicts of pairs in the laws -/
theorem RpT.same {H H' : Hp} {v : V} {x : Int × Int} (h : RpT H v x) (e : Same H H') : RpT H' v x := let ⟨r, a, b⟩ := h; ⟨r, a, e _ _ b⟩
theorem RpT.fr {b : Nat} {a : Addr} {H H' : Hp} {v : V} {x : Int × Int} (h : RpT H v x) (s : Src b H a) (f : Fr a H H') : RpT H' v x := let ⟨r, a, b⟩ := h; ⟨r, a, tup_fr b s f⟩
theorem RpT.upd {d : Addr} {H : Hp} {v : V} {x : Int × Int} {o o' : HO} (h : RpT H v x) (hd : H d = some o) (n : ∀ xs, o ≠ .tup xs) : RpT (upd H d o') v x := by
  obtain ⟨r, e, h⟩ := h
  exact ⟨r, e, by rw [upd_ne (ne_of h hd (fun z => n _ z.symm))]; exact h⟩
theorem Ent.sameT {H H' : Hp} {ks : List (Key × V)} {xs : Amt} (h : Ent RpT H ks xs) (e : Same H H') : Ent RpT H' ks xs := h.mono fun _ _ r => r.same e
theorem Ent.frT {b : Nat} {a : Addr} {H H' : Hp} {ks : List (Key × V)} {xs : Amt} (h : Ent RpT H ks xs) (s : Src b H a) (f : Fr a H H') : Ent RpT H' ks xs := h.mono fun _ _ r => r.fr s f
theorem Ent.updT {d : Addr} {H : Hp} {ks : List (Key × V)} {xs : Amt} {o o' : HO} (h : Ent RpT H ks xs) (hd : H d = some o) (n : ∀ xs, o ≠ .tup xs) : Ent RpT (upd H d o') ks xs := h.mono fun _ _ r => r.upd hd n
theorem Ent.sameR {C : Addr} {H H' : Hp} {ks : List (Key × V)} {xs : Amt} (h : Ent (RpR C) H ks xs) (e : Same H H') : Ent (RpR C) H' ks xs := h.mono fun _ _ r => r.same e
theorem Ent.updR {C d : Addr} {H : Hp} {ks : List (Key × V)} {xs : Amt} {o o' : HO} (h : Ent (RpR C) H ks xs) (hd : H d = some o) (n : ∀ dx fs, o ≠ .ins C dx fs) : Ent (RpR C) (upd H d o') ks xs := h.mono fun _ _ r => r.upd hd n
theorem Fr.put {a l : Addr} {H H' : Hp} {o : HO} (f : Fr a H H') (n : H l = none) : Fr a H (upd H' l o) := fun c u nc h => by rw [upd_ne (ne_of_none h n)]; exact f c u nc h
theorem Src.upd {b : Nat} {a l : Addr} {H : Hp} {o : HO} (h : Src b H a) (n : a ≠ l) : Src b (upd H l o) a := h.fr n Fr.at_
theorem low_top {i j : Int} (hi : 0 < i) (h : 0 < j) : 0 < (low i j).1 := by
  have g := Int.gcd_pos_of_ne_zero_right i (show j ≠ 0 by omega)
  have d : (Int.gcd i j : Int) ∣ i := Int.gcd_dvd_left i j
  exact Int.ediv_pos_of_pos_of_dvd hi (by omega) d
theorem fr_unlock {H H' : Hp} {a d : Addr} {od : Obj} {ks : List (Key × V)} (ha : H d = some (.dK ks)) (e : Fr a (upd H d (.frz od (.dK ks))) H') : Fr a H (upd H' d (.dK ks)) := by
  intro b o n h
  by_cases c : b = d
  · subst c
    rw [ha] at h
    cases h
    exact upd_same
  · rw [upd_ne c]
    exact e _ _ n (by rw [upd_ne c]; exact h)
theorem w_rng {σ : L2.St} {H : Hp} {Q : VK} {n : Int} (h : 0 ≤ n ∧ n ≤ 1000) (q : ∀ l H', H l = none → Same H H' → H' l = some (.lst (rgV 0 n)) → Q (.ref l) H') : tLstRg (tRg1 (tC (.int n))) σ H Q :=
  ⟨n, rfl, RgOk.of_le (by decide) (by omega) (by decide) h.1, fun l nl => q l _ nl (same_new nl) upd_same⟩
theorem rg_mem {n : Int} {y : V} (h : y ∈ rgV 0 n) : ∃ j : Nat, (j : Int) < n ∧ y = .int (j : Int) := by
  unfold rgV at h
  obtain ⟨j, hj, rfl⟩ := List.mem_map.mp h
  have := List.mem_range.mp hj
  exact ⟨j, by omega, by rw [Int.zero_add]⟩
theorem w_g3 {K : PySem.W.Frag} {n i1 i2 i3 : Nat} {p : Addr} {u v w : V} {σ : L2.St} {H : Hp} {Q : L2.St → Hp → Prop} (h : SqT K H p [u, v, w]) (hn : n = 3) (q : Q (((σ.set i1 (some u)).set i2 (some v)).set i3 (some w)) H) :
    gTup K n (gCons (gName i1) (gCons (gName i2) (gCons (gName i3) gNil))) (.ref p) σ H Q := by
  subst hn
  exact ⟨p, _, rfl, h, rfl, u, [v, w], rfl, v, [w], rfl, w, [], rfl, rfl, q⟩
theorem seq_at {g : Int} {n : Nat} (h0 : 0 ≤ g) (h1 : g < n) : seqIndex? g n = some g.toNat := by
  unfold seqIndex?
  simp only [show ¬ g < 0 by omega, if_false]
  rw [if_pos (by simp; omega)]
section
variable {K : PySem.W.Frag} {M C p q : Addr} {H : Hp} {Q : VK} {E : XK} {xs ys : Amt} {y : V} {T : String}
theorem w_eqM (I : InsTy K M) (mx : Mix M C H p xs) (my : Mix M C H q ys) (k : Q (.bl (decide (xs = ys))) H) : rEqO K M (spMEq K M C) E (.ref p) (.ref q) H Q := by
  have mx0 := mx
  have my0 := my
  obtain ⟨dx, d, ks, hp, _⟩ := mx
  obtain ⟨dy, d', ls, hq, _⟩ := my
  exact ⟨p, dx, _, _, rfl, hp, I _ _ _ _ hq, by unfold PySem.W.notFirst; simp, .inl ⟨p, q, xs, ys, rfl, mx0, my0, k⟩⟩
theorem w_neM (I : InsTy K M) (mx : Mix M C H p xs) (my : Mix M C H q ys) (k : Q (.bl (!decide (xs = ys))) H) : rNeO K M (spMEq K M C) E (.ref p) (.ref q) H Q := by
  have mx0 := mx
  have my0 := my
  obtain ⟨dx, d, ks, hp, _⟩ := mx
  obtain ⟨dy, d', ls, hq, _⟩ := my
  exact ⟨p, dx, _, _, rfl, hp, I _ _ _ _ hq, by unfold PySem.W.notFirst; simp, .inl ⟨p, q, xs, ys, rfl, mx0, my0, _, rfl, k⟩⟩
end
def spAmounts : Sp := fun vs H Q _ => ∃ a b, vs = [.ref a] ∧ Src b H a ∧ b + 100 < 2 ^ 60 ∧ ∀ d ks xs H', H d = none → H' d = some (.dK ks) → Ent RpT H' ks xs → Am 104 xs → Src (b + 60) H' a → Fr a H H' → Q (.ref d) H'
def spMade (M C : Addr) : Sp := fun vs H Q _ => ∃ d ks xs n, vs = [.ref d] ∧ H d = some (.dK ks) ∧ Ent RpT H ks xs ∧ Am n xs ∧ n ≤ 3400 ∧ ∀ r H', H r = none → Same H H' → MixN H M C H' r (nf xs) → Q (.ref r) H'
def spBent : Sp := fun vs H Q _ => ∃ a d b ks xs, vs = [.ref a, .ref d] ∧ Src b H a ∧ b + 100 < 2 ^ 60 ∧ H d = some (.dK ks) ∧ Ent RpT H ks xs ∧ Am 104 xs ∧ ∀ e ls ys H', H e = none → H' e = some (.dK ls) → Ent RpT H' ls ys → Am 104 ys → Src (b + 20) H' a → Fr a H H' → Q (.ref e) H'
def spPR (M C : Addr) : Sp := fun vs H Q _ => ∃ p q xs ys b, vs = [.ref p, .ref q, .bl b] ∧ Mix M C H p xs ∧ Mix M C H q ys ∧ b = decide (xs = ys) ∧ ∀ H', Same H H' → Q (.bl true) H'
end G
namespace G
open PySem PySem.Spec PyProof.Rows L2
theorem w_par3 {i j l : Nat} {tr : TA} {D : Ends} {σ : L2.St} {H : Hp} (q : tr σ H fun vs H1 => ∃ u v w, vs = [u, v, w] ∧ D.nx (((σ.set i (some u)).set j (some v)).set l (some w)) H1) : tPar3 i j l tr D σ H := q
theorem w_three {a b c : V} {P : V → V → V → Prop} (q : P a b c) : ∃ u v w, [a, b, c] = [u, v, w] ∧ P u v w := ⟨a, b, c, rfl, q⟩
def BentI (b : Nat) (H : Hp) (a d e : Addr) (num way : Int) (o : Option V) (c : Nat) : L2.St → Hp → Prop := fun σ' H' => ∃ (t : Addr) (x : Int × Int) (ls : List (Key × V)) (ys : Amt),
  σ' = [some (.ref a), some (.ref d), some (.ref e), some (.int num), some (.int way), some (.ref t), o] ∧ H' t = some (.tup [.int x.1, .int x.2]) ∧ Lp 104 x ∧ 0 < x.1 ∧ H' e = some (.dK ls) ∧ Ent RpT H' ls ys ∧ Am 104 ys ∧ Src (b + c) H' a ∧ Fr a H H'
theorem isD_of {H : Hp} {a : Addr} {ks : List (Key × V)} (h : H a = some (.dK ks)) : IsD H a := .inl ⟨ks, .inl h⟩
end G
namespace G
open PySem PySem.Spec PyProof.Rows L2
section
variable {X : Cx} {k : Nat} {f C : Addr} {fd : FuncData} {ps : List Str} {sp : Sp} {E : XK}
/-- len(x) of one's own class -/
def rLenO (C : Addr) (sp : Sp) (E : XK) : List V → Hp → VK → Prop := fun xs H Q => ∃ a dx fs, xs = [.ref a] ∧ H a = some (.ins C dx fs) ∧ sp [.ref a] H (fun v H' => ∃ n : Nat, v = .int (n : Int) ∧ n < 2 ^ 62 ∧ Q (.int (n : Int)) H') E
theorem call_lenO {CX : CXT} (F : FnOk X.prog X.w X.K X.mg X.base CX k f fd ps sp) (hr : Room (k + 1) X.A) (hb : Binds X.K fd ps []) (hx : Passes CX X E) (m : OpM X.K C "__len__" f) : CallR X (.builtin "len") (rLenO C sp E) := by
  intro pins s σ H xs us Q I r h
  obtain ⟨a, dx, fs, rfl, ea, q⟩ := h
  obtain ⟨u, rfl, rx⟩ := vals1 r
  obtain rfl : u = Value.ref a := rx
  obtain ⟨mA, O, _⟩ := ins_get I.hok ea
  obtain ⟨od, J, _⟩ := O.look
  obtain ⟨mm, fr⟩ := I.fr
  refine PySem.W.len_K fr I.ok.mod.kin J m.at_ m.fn ?_
  refine wpAny_mono (run_in (A := X.A.in1) (us := [.ref a]) (vs := [.ref a]) F rfl hr.in1 hb hx I (.cons rfl .nil) q) (fun w s' hw => ?_) fun _ _ e => e
  obtain ⟨z, H', I', rz, n, ez, hn, qz⟩ := hw
  subst ez
  obtain ⟨t, rfl⟩ := (show ∃ t, w = Value.int n t from rz)
  exact ⟨⟨by omega, by omega⟩, .int n, H', I'.tok _, ⟨_, rfl⟩, qz⟩
end
end G
namespace G
open PySem PySem.Spec PyProof.Rows L2
def spMLen (M C : Addr) : Sp := fun vs H Q _ => ∃ p xs, vs = [.ref p] ∧ Mix M C H p xs ∧ Q (.int ((xs.length : Nat) : Int)) H
theorem w_lenD {H : Hp} {Q : VK} {d : Addr} {ks : List (Key × V)} (hd : H d = some (.dK ks)) (q : Q (.int ((ks.length : Nat) : Int)) H) : ∃ a kvs, [V.ref d] = [V.ref a] ∧ H a = some (.dK kvs) ∧ Q (.int ((kvs.length : Nat) : Int)) H := ⟨d, ks, rfl, hd, q⟩
theorem RpR.fr {C a : Addr} {b : Nat} {H H' : Hp} {v : V} {x : Int × Int} (h : RpR C H v x) (s : Src b H a) (f : Fr a H H') : RpR C H' v x := by
  obtain ⟨r, e, dx, h⟩ := h
  obtain ⟨_, _, _, h1, _⟩ := s
  exact ⟨r, e, dx, f _ _ (ne_of h h1 (by intro z; cases z)) h⟩
theorem Mix.fr {M C a p : Addr} {b : Nat} {H H' : Hp} {xs : Amt} (h : Mix M C H p xs) (s : Src b H a) (f : Fr a H H') : Mix M C H' p xs := by
  have s0 := s
  obtain ⟨dx, d, ks, hp, hd, en, asc⟩ := h
  obtain ⟨_, _, _, h1, _⟩ := s
  exact ⟨dx, d, ks, f _ _ (ne_of hp h1 (by intro z; cases z)) hp, f _ _ (ne_of hd h1 (by intro z; cases z)) hd, en.mono fun _ _ r => r.fr s0 f, asc⟩
theorem MixN.put {M C e p : Addr} {H0 H : Hp} {xs : Amt} {o : HO} {acc : List (Key × V)} {o' : HO} (h : MixN H0 M C H p xs) (h0 : H0 e = some o) (he : H e = some (.dK acc)) : MixN H0 M C (upd H e o') p xs := by
  obtain ⟨dx, d, ks, n, hp, hd, en, asc⟩ := h
  have de : d ≠ e := fun z => by rw [z, h0] at n; cases n
  exact ⟨dx, d, ks, n, by rw [upd_ne (ne_of hp he (by intro z; cases z))]; exact hp, by rw [upd_ne de]; exact hd, en.updR he (fun _ _ z => nomatch z), asc⟩
theorem MixN.same {M C p : Addr} {H0 H H' : Hp} {xs : Amt} (h : MixN H0 M C H p xs) (e : Same H H') : MixN H0 M C H' p xs :=
  let ⟨dx, d, ks, n, a, b, c, o⟩ := h; ⟨dx, d, ks, n, e _ _ a, e _ _ b, c.mono fun v x r => r.same e, o⟩
theorem RpT.frO {e : Addr} {H H' : Hp} {v : V} {x : Int × Int} {acc : List (Key × V)} (h : RpT H v x) (he : H e = some (.dK acc)) (f : Fr e H H') : RpT H' v x := let ⟨r, a, b⟩ := h; ⟨r, a, f _ _ (ne_of b he (by intro z; cases z)) b⟩
theorem w_sortedD {H : Hp} {Q : VK} {d : Addr} {ks : List (Key × V)} {is : List Int} (hd : H d = some (.dK ks)) (e : ks.map (·.1) = is.map Sum.inl) (l : is.length < 64) (q : ∀ (ys : List Int) (p : Addr) (H' : Hp), ys.Perm is → ys.Pairwise (· ≤ ·) → H p = none → Same H H' → H' p = some (.lst (ys.map V.int)) → Q (.ref p) H') : rSortedD [.ref d] H Q :=
  ⟨d, ks, is, rfl, .inl hd, e, l, fun ys p py sy np => q ys p _ py sy np (same_new np) upd_same⟩
theorem Ent.fst {R : RepP} {H : Hp} {ks : List (Key × V)} {xs : Amt} (h : Ent R H ks xs) : ks.map (·.1) = xs.map (·.1) := by
  unfold Ent at h
  induction h with
  | nil => rfl
  | cons a _ ih => rw [List.map_cons, List.map_cons, ih, a.1]
theorem sorted_facts {n : Nat} {xs : Amt} {is zs : List Int} (am : Am n xs) (e : xs.map (·.1) = is.map Sum.inl) (p : zs.Perm is) : zs.reverse.Nodup ∧ (∀ j, j ∈ zs.reverse ↔ (lk xs (.inl j)).isSome = true) ∧ is.length ≤ 8 := by
  have ln : is.length ≤ 8 := by
    have := am.len8
    have l := congrArg List.length e
    rw [List.length_map, List.length_map] at l
    omega
  have nd : is.Nodup := by
    have := am.nd
    rw [e] at this
    exact (List.pairwise_map.mp this).imp fun h z => h (by rw [z])
  refine ⟨(List.reverse_perm zs).nodup_iff.mpr (p.nodup_iff.mpr nd), fun j => ?_, ln⟩
  rw [List.mem_reverse, p.mem_iff, ← any_lk]
  constructor
  · intro h
    have : (Sum.inl j : Key) ∈ xs.map (·.1) := by rw [e]; exact List.mem_map.mpr ⟨j, h, rfl⟩
    obtain ⟨q, hq, eq⟩ := List.mem_map.mp this
    exact List.any_eq_true.mpr ⟨q, hq, decide_eq_true eq⟩
  · intro h
    obtain ⟨q, hq, eq⟩ := List.any_eq_true.mp h
    have : (Sum.inl j : Key) ∈ xs.map (·.1) := List.mem_map.mpr ⟨q, hq, of_decide_eq_true eq⟩
    rw [e] at this
    obtain ⟨z, hz, ez⟩ := List.mem_map.mp this
    rw [← Sum.inl.inj ez]
    exact hz
section
variable {K : PySem.W.Frag} {M C p q : Addr} {H : Hp} {Q : VK} {E : XK} {xs ys : Amt} {n : Nat}
theorem w_addM (mx : Mix M C H p xs) (my : Mix M C H q ys) (am : Am n xs) (am' : Am n ys) (hn : n ≤ 3400) (k : ∀ r H', H r = none → Same H H' → MixN H M C H' r (addM xs ys) → Q (.ref r) H') : rOwn M (spMAdd M C) E (.ref p) (.ref q) H Q := by
  have mx0 := mx
  have my0 := my
  obtain ⟨dx, d, ks, hp, _⟩ := mx
  obtain ⟨dy, d', ls, hq, _⟩ := my
  exact ⟨p, dx, _, q, dy, _, rfl, rfl, hp, hq, p, q, xs, ys, n, rfl, mx0, my0, am, am', hn, k⟩
theorem w_mulM {r : Int × Int} (mx : Mix M C H p xs) (R : Rat C H q r.1 r.2) (am : Am n xs) (lr : Lp n r) (r0 : 0 < r.1) (hn : n ≤ 3400) (k : ∀ z H', H z = none → Same H H' → MixN H M C H' z (mulM xs r) → Q (.ref z) H') : rOwn2 M C (spMMul M C) E (.ref p) (.ref q) H Q := by
  have mx0 := mx
  have R0 := R
  obtain ⟨dx, d, ks, hp, _⟩ := mx
  obtain ⟨dy, hq⟩ := R
  refine ⟨p, dx, _, q, dy, _, rfl, rfl, hp, hq, p, q, xs, r, n, rfl, mx0, R0, am, lr, by omega, hn, ?_⟩
  rw [if_neg (by omega)]
  exact k
end
theorem addM_nil {xs : Amt} (h : Asc 8 xs) : addM xs [] = xs := by
  refine Eq.trans ?_ h
  refine pick_congr fun i _ => ?_
  show jnO (lk xs _) none = _
  cases lk xs (.inl (i : Int)) <;> rfl
theorem mul_back {n : Nat} {xs : Amt} (am : Am n xs) (h : Asc 8 xs) : mulM (mulM xs (3, 1)) (1, 3) = xs := by
  refine Eq.trans ?_ h
  refine pick_congr fun i hi => ?_
  show (lk (mulM xs (3, 1)) _).map _ = _
  unfold mulM
  rw [lk_pick hi]
  cases e : lk xs (.inl (i : Int)) with
  | none => rfl
  | some x =>
    have lx := (am.at_ e).1
    have l3 : Lp 3 ((3 : Int), (1 : Int)) := ⟨by decide, by decide, by decide, by decide⟩
    have l4 : Lp 3 ((1 : Int), (3 : Int)) := ⟨by decide, by decide, by decide, by decide⟩
    have a := jn_lp (.inr (.inr rfl)) lx l3
    show some (jn 2 (jn 2 x (3, 1)) (1, 3)) = some x
    congr 1
    refine val_inj (jn_lp (.inr (.inr rfl)) a l4) lx ?_
    rw [val_jn2 a l4, val_jn2 lx l3]
    have e1 : val (3, 1) = 3 := by unfold val; decide +kernel
    have e2 : val (1, 3) * 3 = 1 := by unfold val; decide +kernel
    rw [e1]
    grind
theorem Am.ints {n : Nat} {xs : Amt} (h : Am n xs) : ∃ is : List Int, xs.map (·.1) = is.map Sum.inl := by
  obtain ⟨k, h1, h2, h3⟩ := h
  clear h1 h2 h3
  induction xs with
  | nil => exact ⟨[], rfl⟩
  | cons p ps ih =>
    obtain ⟨is, e⟩ := ih fun q hq => k q (List.mem_cons_of_mem _ hq)
    obtain ⟨i, _, ei⟩ := k p List.mem_cons_self
    exact ⟨(i : Int) :: is, by rw [List.map_cons, List.map_cons, e, ei]⟩
def sub (xs : Amt) (zs : List Int) : Amt := zs.map fun z => (Sum.inl z, gt0 xs (.inl z))
theorem lk_sub (xs : Amt) (j : Int) : ∀ zs : List Int, lk (sub xs zs) (.inl j) = if j ∈ zs then some (gt0 xs (.inl j)) else none
  | [] => by simp [sub, lk]
  | z :: zs => by
    have ih := lk_sub xs j zs
    unfold sub lk at ih ⊢
    rw [List.map_cons]
    by_cases c : z = j
    · subst c
      rw [List.find?_cons_of_pos (by simp)]
      simp
    · have c' : ¬ (Sum.inl z : Key) = .inl j := fun e => c (Sum.inl.inj e)
      rw [List.find?_cons_of_neg (by simpa using c'), ih]
      have c2 : ¬ j = z := fun e => c e.symm
      simp [c2]
theorem sub_snoc (xs : Amt) (zs : List Int) (z : Int) : sub xs (zs ++ [z]) = sub xs zs ++ [(Sum.inl z, gt0 xs (.inl z))] := by unfold sub; rw [List.map_append]; rfl
theorem am_sub {n : Nat} {xs : Amt} (am : Am n xs) {zs : List Int} (nd : zs.Nodup) (h : ∀ z ∈ zs, (lk xs (.inl z)).isSome = true) : Am n (sub xs zs) := by
  have g : ∀ z ∈ zs, lk xs (.inl z) = some (gt0 xs (.inl z)) := fun z hz => by
    have := h z hz
    unfold gt0
    cases e : lk xs (.inl z) with
    | none => rw [e] at this; cases this
    | some v => rfl
  refine ⟨fun p hp => ?_, fun p hp => ?_, fun p hp => ?_, ?_⟩
  · obtain ⟨z, hz, rfl⟩ := List.mem_map.mp hp
    exact am.key _ (lk_mem (g z hz))
  · obtain ⟨z, hz, rfl⟩ := List.mem_map.mp hp
    exact (am.at_ (g z hz)).1
  · obtain ⟨z, hz, rfl⟩ := List.mem_map.mp hp
    exact (am.at_ (g z hz)).2
  · unfold sub
    rw [List.map_map]
    exact List.Pairwise.map _ (fun a b (n : a ≠ b) e => n (Sum.inl.inj e)) nd
theorem nf_sub {xs : Amt} {zs : List Int} (h : ∀ j : Int, j ∈ zs ↔ (lk xs (.inl j)).isSome = true) : nf (sub xs zs) = nf xs := by
  refine nf_eq fun i hi => ?_
  rw [lk_sub]
  by_cases c : (i : Int) ∈ zs
  · rw [if_pos c]
    have := (h _).mp c
    unfold gt0
    cases e : lk xs (.inl (i : Int)) with
    | none => rw [e] at this; cases this
    | some v => rfl
  · rw [if_neg c]
    cases e : lk xs (.inl (i : Int)) with
    | none => rfl
    | some v => exact absurd ((h _).mpr (by rw [e]; rfl)) c
theorem sub_step {xs : Amt} {zs : List Int} {z : Int} (c : z ∉ zs) : addM (nf (sub xs zs)) (nf [(Sum.inl z, gt0 xs (.inl z))]) = nf (sub xs (zs ++ [z])) := by
  refine pick_congr fun i hi => ?_
  rw [lk_nf hi, lk_nf hi, lk_sub, lk_sub]
  by_cases e : (i : Int) = z
  · subst e
    rw [if_neg c, if_pos (by simp)]
    have : lk [((Sum.inl (i : Int) : Key), gt0 xs (.inl (i : Int)))] (.inl (i : Int)) = some (gt0 xs (.inl (i : Int))) := by unfold lk; rw [List.find?_cons_of_pos (by simp)]; rfl
    rw [this]
    rfl
  · have e' : ¬ (Sum.inl z : Key) = .inl (i : Int) := fun h => e (Sum.inl.inj h).symm
    have : lk [((Sum.inl z : Key), gt0 xs (.inl z))] (.inl (i : Int)) = none := by unfold lk; rw [List.find?_cons_of_neg (by simpa using e')]; rfl
    rw [this]
    by_cases m : (i : Int) ∈ zs
    · rw [if_pos m, if_pos (List.mem_append_left _ m)]; rfl
    · rw [if_neg m, if_neg (by simp [m, e])]; rfl
theorem w_dispI {trs : List (TE × TE)} {σ : L2.St} {H : Hp} {Q : VK} (q : ∀ p H1, H p = none → Same H H1 → H1 p = some (.dK []) → tPairs trs σ H1 fun ps H2 => H2 p = some (.dK []) ∧ ∃ kvs : List (Key × V), ps = kvs.map (fun kv => (kV kv.1, kv.2)) ∧ kvs.length ≤ 15 ∧ Q (.ref p) (upd H2 p (.dK (mergeK [] kvs)))) : tDisp trs σ H Q :=
  fun p np => q p _ np (same_new np) upd_same
theorem w_pairs1 {tk tv : TE} {σ : L2.St} {H : Hp} {R : List (V × V) → Hp → Prop} (q : tk σ H fun x H1 => tv σ H1 fun y H2 => R [(x, y)] H2) : tPairs [(tk, tv)] σ H R := q
theorem w_dispE {k : Int} {v : V} {p : Addr} {H : Hp} {Q : VK} (h : H p = some (.dK [])) (q : Q (.ref p) (upd H p (.dK [(Sum.inl k, v)]))) : H p = some (.dK []) ∧ ∃ kvs : List (Key × V), [(V.int k, v)] = kvs.map (fun kv => (kV kv.1, kv.2)) ∧ kvs.length ≤ 15 ∧ Q (.ref p) (upd H p (.dK (mergeK [] kvs))) :=
  ⟨h, [(Sum.inl k, v)], rfl, by show (1 : Nat) ≤ 15; decide, q⟩
end G
namespace G
open PySem PySem.Spec PyProof.Rows L2
theorem free_fr {e : Addr} {o : HO} {H0 H7 H Hd : Hp} (s : Same H0 H7) (f : Fr e H7 H) (he : H e = some o) (t : Same H Hd) : ∀ c, Hd c = none → H0 c = none := by
  intro c hc
  have h1 := t.free hc
  refine s.free ?_
  cases h : H7 c with
  | none => rfl
  | some u =>
    have ce : c ≠ e := fun z => by rw [z, he] at h1; cases h1
    rw [f _ _ ce h] at h1
    cases h1
theorem Am.one {n i : Nat} {x : Int × Int} (hi : i < 8) (hx : Lp n x) (x0 : 0 < x.1) : Am n [((Sum.inl (i : Int) : Key), x)] := Am.put (xs := []) Am.nil hi hx x0
end G
namespace G
open PySem PySem.Spec PyProof.Rows L2
theorem Src.neK {b : Nat} {H : Hp} {a d : Addr} {ks : List (Key × V)} (h : Src b H a) (hd : H d = some (.dK ks)) : d ≠ a := let ⟨_, _, _, h1, _⟩ := h; ne_of hd h1 (by intro z; cases z)
section
variable {K : PySem.W.Frag} {M C p r : Addr} {H : Hp} {Q : VK} {E E' : XK} {xs : Amt} {n : Nat} {y : V} {t : Value} {T : String} {x : Int × Int}
theorem w_eqMt (mx : Mix M C H p xs) (ty : TyX K H y t) (nf : PySem.W.notFirst K M t = true) (k : PySem.W.kitOne K t (.ref M) = some false) (w : Q (.bl false) H) : rEqO K M (spMEq K M C) E (.ref p) y H Q := by
  have mx0 := mx
  obtain ⟨dx, d, ks, hp, _⟩ := mx
  exact ⟨p, dx, _, t, rfl, hp, ty, nf, .inr ⟨p, xs, y, t, rfl, mx0, ty, k, w⟩⟩
theorem w_neMt (mx : Mix M C H p xs) (ty : TyX K H y t) (nf : PySem.W.notFirst K M t = true) (k : PySem.W.kitOne K t (.ref M) = some false) (w : Q (.bl true) H) : rNeO K M (spMEq K M C) E (.ref p) y H Q := by
  have mx0 := mx
  obtain ⟨dx, d, ks, hp, _⟩ := mx
  exact ⟨p, dx, _, t, rfl, hp, ty, nf, .inr ⟨p, xs, y, t, rfl, mx0, ty, k, false, rfl, w⟩⟩
theorem w_eqVp (mx : Mix M C H p xs) (h : Pl H y T) (k : PySem.W.kitOne K (.type T) (.ref M) = some false) (w : Q (.bl false) H) : rEqV K M C (spMEq K M C) (spEq K C) E E' y (.ref p) H Q := by
  have mx0 := mx
  obtain ⟨dx, d, ks, hp, _⟩ := mx
  exact .inl ⟨p, dx, _, T, rfl, hp, h, .inr ⟨p, xs, y, _, rfl, mx0, h.ty, k, w⟩⟩
theorem w_neVp (mx : Mix M C H p xs) (h : Pl H y T) (k : PySem.W.kitOne K (.type T) (.ref M) = some false) (w : Q (.bl true) H) : rNeV K M C (spMEq K M C) (spEq K C) E E' y (.ref p) H Q := by
  have mx0 := mx
  obtain ⟨dx, d, ks, hp, _⟩ := mx
  exact .inl ⟨p, dx, _, T, rfl, hp, h, .inr ⟨p, xs, y, _, rfl, mx0, h.ty, k, false, rfl, w⟩⟩
theorem w_eqVr (R : Rat C H r x.1 x.2) (ty : TyX K H (.ref p) (.ref M)) (nf : PySem.W.notFirst K C (.ref M) = true) (k : PySem.W.kitOne K (.ref M) (.ref C) = some false) (w : Q (.bl false) H) : rEqV K M C (spMEq K M C) (spEq K C) E E' (.ref r) (.ref p) H Q := by
  have R0 := R
  obtain ⟨dx, hr⟩ := R
  exact .inr ⟨r, dx, _, _, rfl, hr, ty, nf, .inr ⟨r, x, .ref p, _, rfl, R0, ty, k, w⟩⟩
theorem w_neVr (R : Rat C H r x.1 x.2) (ty : TyX K H (.ref p) (.ref M)) (nf : PySem.W.notFirst K C (.ref M) = true) (k : PySem.W.kitOne K (.ref M) (.ref C) = some false) (w : Q (.bl true) H) : rNeV K M C (spMEq K M C) (spEq K C) E E' (.ref r) (.ref p) H Q := by
  have R0 := R
  obtain ⟨dx, hr⟩ := R
  exact .inr ⟨r, dx, _, _, rfl, hr, ty, nf, .inr ⟨r, x, .ref p, _, rfl, R0, ty, k, false, rfl, w⟩⟩
theorem nf_of_sub {C D : Addr} (h : PySem.W.subIn K (.ref D) (.ref C) = some false) : PySem.W.notFirst K C (.ref D) = true := by
  unfold PySem.W.notFirst
  rw [h]
  simp
theorem Mix.ty (I : InsTy K M) (mx : Mix M C H p xs) : TyX K H (.ref p) (.ref M) := let ⟨_, _, _, hp, _⟩ := mx; I _ _ _ _ hp
/-- Mixture({k: Ratio(i, j)}) -/
theorem w_mix1 {σ : L2.St} {k : Nat} (hk : k < 8) {i j : Int} (hi : 0 < i) (hj : 0 < j) (bi : Bt 100 i) (bj : Bt 100 j) {dv vs : List V} {tr : TA} (ht : ∀ (H' : Hp) (R : List V → Hp → Prop), R vs H' → tr σ H' R) (hv : vs ++ dv = [.int i, .int j])
    (q : ∀ r H', H r = none → Same H H' → Mix M C H' r (nf [((Sum.inl (k : Int) : Key), low i j)]) → Q (.ref r) H') : tMake M (spMInit M C) [] E (tCons (tDisp [(tC (.int (k : Int)), tMake C (spInit C) dv E' tr)]) tNil) σ H Q := by
  refine w_make (w_cons (w_dispI fun p H1 np e1 h1 => w_pairs1 (w_c (w_make (ht _ _ ?_)))))
  rw [hv]
  refine ratio_of hj (bj.mono (by decide)) fun r H2 n2 e2 R => ⟨e2 _ _ h1, [(Sum.inl (k : Int), V.ref r)], rfl, (by show (1 : Nat) ≤ 15; decide), w_nil ?_⟩
  have hq : (upd H2 p (.dK (mergeK [] [(Sum.inl (k : Int), V.ref r)]))) p = some (.dK [(Sum.inl (k : Int), V.ref r)]) := upd_same
  have eq : Same H (upd H2 p (.dK (mergeK [] [(Sum.inl (k : Int), V.ref r)]))) := Fr.unseen np (e1.trans e2) Fr.at_
  have rr : RpR C (upd H2 p (.dK (mergeK [] [(Sum.inl (k : Int), V.ref r)]))) (.ref r) (low i j) := RpR.upd ⟨r, rfl, R⟩ (e2 _ _ h1) (fun _ _ z => nomatch z)
  generalize upd H2 p (.dK (mergeK [] [(Sum.inl (k : Int), V.ref r)])) = Hc at hq eq rr ⊢
  refine mix_of (xs := [((Sum.inl (k : Int) : Key), low i j)]) hq (.cons ⟨rfl, rr⟩ .nil) (Am.one hk (Lp.low hj bi bj) (low_top hi hj)) fun z H3 n3 e3 m3 => ?_
  exact q z H3 (eq.free n3) (eq.trans e3) m3.mix
end
end G

/-! What the laws show of mixtures. -/
namespace G
open PySem PySem.Spec PyProof.Rows L2
section
variable {X : Cx} {k : Nat} {f C : Addr} {fd : FuncData} {ps : List Str} {sp : Sp} {E : XK}
/-- x in an object of one's own class -/
def rInO (C : Addr) (sp : Sp) (E : XK) : R2 := fun x y H Q => ∃ a dx fs, y = .ref a ∧ H a = some (.ins C dx fs) ∧ sp [y, x] H (fun v H' => ∃ b, v = .bl b ∧ Q (.bl b) H') E
theorem op_inO {CX : CXT} (F : FnOk X.prog X.w X.K X.mg X.base CX k f fd ps sp) (hr : Room k X.A) (hb : Binds X.K fd ps []) (hx : Passes CX X E) (m : OpM X.K C "__contains__" f) : OpR X (compareOp .In) (rInO C sp E) := by
  intro pins s σ H x y v u Q I rx ry h
  obtain ⟨a, dx, fs, rfl, ea, q⟩ := h
  obtain rfl : u = Value.ref a := ry
  obtain ⟨mA, O, _⟩ := ins_get I.hok ea
  obtain ⟨od, J, _⟩ := O.look
  obtain ⟨mm, fr⟩ := I.fr
  refine PySem.W.in_K fr I.ok.mod.kin J m.at_ m.fn ?_
  refine wpAny_mono (run_fn (us := [.ref a, v]) (vs := [.ref a, x]) F hr hb .nil hx I (.cons rfl (.cons rx .nil)) q) (fun w s' hw => ?_) fun _ _ e => e
  obtain ⟨z, H', I', rz, b, ez, qz⟩ := hw
  subst ez
  cases (show w = Value.bool b from rz)
  exact wpAny_truthy_bool ⟨.bl b, H', I', rfl, qz⟩
end
/-- d != {} -/
def rNeE : R2 := fun x y H Q => ∃ a b ks, x = .ref a ∧ y = .ref b ∧ H a = some (.dK ks) ∧ H b = some (.dK []) ∧ Q (.bl (!ks.isEmpty)) H
theorem op_neE {X : Cx} (hu : X.A.units < cLine) : OpR X (compareOp .NotEq) rNeE := by
  intro pins s σ H x y v u Q I rx ry h
  obtain ⟨a, b, ks, rfl, rfl, ea, eb, q⟩ := h
  obtain rfl : v = Value.ref a := rx
  obtain rfl : u = Value.ref b := ry
  obtain ⟨_, ya, va, ra, da⟩ := (show ObjOk X.prog X.w H s.heap a (.dK ks) from I.hok a _ ea)
  obtain ⟨_, yb, vb, rb, db⟩ := (show ObjOk X.prog X.w H s.heap b (.dK []) from I.hok b _ eb)
  have l1 : ks.length = va.length := ra.length
  have l2 : ([] : List (Key × V)).length = vb.length := rb.length
  have l2 : vb.length = 0 := l2.symm
  refine PySem.W.keq_ne (knd := mixKind X.prog X.w) (r := true) ya yb da db hu (fun e => ?_) (fin_bl I q ?_)
  · have : va = [] := List.eq_nil_of_length_eq_zero (by omega)
    rw [this]
    exact .nil
  · rw [l2, ← l1]
    cases ks <;> rfl
/-! ### comprehensions -/
theorem kept_val {β : Type} {P : V → β → Prop} : Kept (fun _ v y => P v y) := ⟨fun h _ => h, fun h _ _ => h⟩
/-- [e for k in range(n)] -/
theorem w_lcRange {β : Type} {O : Hp → V → β → Prop} (KO : Kept O) {te : TE} {σ : L2.St} {Q : VK} {H1 : Hp} {j n : Nat} (ys : List β) (ly : ys.length = n) (hn : n ≤ 1000)
    (step : ∀ (k : Nat) y H' (R : VK), k < n → ys[k]? = some y → Same H1 H' → (∀ u H2, Same H' H2 → O H2 u y → R u H2) → te ((σ.set j none).set j (some (.int (k : Int)))) H' R)
    (q : ∀ L acc H', H1 L = none → Same H1 H' → H' L = some (.lst acc) → PL (O H') acc ys → Q (.ref L) H') : LcW (Itr 0 n) (gName j) tYes te [j] σ Q H1 := by
  intro L nL
  refine lc_range (fun i H' => Fills (fun L k acc H' => Same H1 H' ∧ PL (O H') acc (ys.take k) ∧ acc.length = k) L i H') ⟨[], upd_same, same_new nL, .nil, rfl⟩ ?_ ?_
  · rintro k H' hk ⟨acc, hL, e, ps, lk⟩
    obtain ⟨y, hy⟩ : ∃ y, ys[k]? = some y := ⟨ys[k]'(by omega), by rw [List.getElem?_eq_getElem]⟩
    refine ⟨?_, ?_⟩
    · show ((σ.set j none).set j (some (.int (0 + (k : Int))))).set j none = σ.set j none
      rw [List.set_set, List.set_set]
    · refine w_yes ?_
      refine w_iteT rfl ?_
      have z : ((0 : Int) + (k : Int)) = (k : Int) := Int.zero_add _
      rw [z]
      refine step k y H' _ hk hy e fun u H2 e2 o2 => ?_
      refine fills_more (Pv := fun L k acc H' => Same H1 H' ∧ PL (O H') acc (ys.take k) ∧ acc.length = k) (e2 _ _ hL) (by omega) fun H5 f5 h5 => ⟨Fr.unseen nL (e.trans e2) f5, ?_, by rw [List.length_append, lk]; rfl⟩
      rw [take_snoc hy]
      exact (ps.imp fun v y o => KO.fill (KO.same o e2) (e2 _ _ hL) f5).snoc (KO.fill o2 (e2 _ _ hL) f5)
  · rintro H' ⟨acc, hL, e, ps, _⟩
    rw [← ly, List.take_length] at ps
    exact q L acc H' nL e hL ps
/-- [e for x in a list if t], t never true -/
theorem w_lcNone {K : PySem.W.Frag} {tt : TT} {te : TE} {σ : L2.St} {Q : VK} {H1 : Hp} {t : Addr} {rs : List V} {j : Nat} (hl : H1 t = some (.lst rs))
    (step : ∀ (k : Nat) v H' (R : Bool → Hp → Prop), rs[k]? = some v → Same H1 H' → (∀ H2, Same H' H2 → R false H2) → tt ((σ.set j none).set j (some v)) H' R)
    (q : ∀ L H', H1 L = none → Same H1 H' → H' L = some (.lst []) → Q (.ref L) H') : LcW (Itl K t) (gName j) tt te [j] σ Q H1 := by
  intro L nL
  refine lc_list (K := K) (xs := rs) (fun i H' => Same H1 H' ∧ H' L = some (.lst [])) ⟨same_new nL, upd_same⟩ (fun i H' hi p => SqL.of (p.1 _ _ hl)) ?_ ?_
  · rintro k v H' hv ⟨e, hL⟩
    refine ⟨?_, ?_⟩
    · show ((σ.set j none).set j (some v)).set j none = σ.set j none
      rw [List.set_set, List.set_set]
    · refine step k v H' _ hv e fun H2 e2 => ?_
      rw [if_neg (by decide)]
      exact ⟨e.trans e2, e2 _ _ hL⟩
  · rintro H' ⟨e, hL⟩
    exact q L H' nL e hL
theorem PL.dps {β : Type} {K : PySem.W.Frag} {H : Hp} {O : V → β → Prop} {f : β → PyData} {vs : List V} {ys : List β} (h : PL O vs ys) (g : ∀ v y, O v y → Dp K H v (f y)) : DpAll K H vs (ys.map f) := by
  induction h with
  | nil => exact .nil
  | cons a _ ih => exact .cons (g _ _ a) ih
/-! ### the amounts in ascending order -/
theorem asc_unique : ∀ {l m : List Int}, l.Pairwise (· < ·) → m.Pairwise (· < ·) → (∀ x, x ∈ l ↔ x ∈ m) → l = m
  | [], [], _, _, _ => rfl
  | [], b :: m, _, _, h => by have := (h b).mpr List.mem_cons_self; cases this
  | a :: l, [], _, _, h => by have := (h a).mp List.mem_cons_self; cases this
  | a :: l, b :: m, hl, hm, h => by
    rw [List.pairwise_cons] at hl hm
    have ab : a = b := by
      have h1 := (h a).mp List.mem_cons_self
      have h2 := (h b).mpr List.mem_cons_self
      rcases List.mem_cons.mp h1 with h1 | h1
      · exact h1
      · rcases List.mem_cons.mp h2 with h2 | h2
        · exact h2.symm
        · have := hm.1 a h1
          have := hl.1 b h2
          omega
    subst ab
    congr 1
    refine asc_unique hl.2 hm.2 fun x => ?_
    constructor
    · intro hx
      have := hl.1 x hx
      rcases List.mem_cons.mp ((h x).mp (List.mem_cons_of_mem _ hx)) with e | e
      · omega
      · exact e
    · intro hx
      have := hm.1 x hx
      rcases List.mem_cons.mp ((h x).mpr (List.mem_cons_of_mem _ hx)) with e | e
      · omega
      · exact e
theorem pick_asc {α : Type} (f : Key → Option α) : ∀ n : Nat, ∃ js : List Int, (pick f n).map (·.1) = js.map Sum.inl ∧ js.Pairwise (· < ·) ∧ ∀ j ∈ js, 0 ≤ j ∧ j < n
  | 0 => ⟨[], rfl, .nil, nofun⟩
  | n + 1 => by
    obtain ⟨js, e, p, b⟩ := pick_asc f n
    rw [pick_succ, List.map_append, e]
    cases f (.inl (n : Int)) with
    | none => exact ⟨js, by simp, p, fun j hj => ⟨(b j hj).1, by have := (b j hj).2; omega⟩⟩
    | some v =>
      refine ⟨js ++ [(n : Int)], by simp, ?_, ?_⟩
      · rw [List.pairwise_append]
        refine ⟨p, by simp, fun a ha c hc => ?_⟩
        have := (b a ha).2
        simp at hc
        omega
      · intro j hj
        rcases List.mem_append.mp hj with hj | hj
        · have := b j hj; omega
        · simp at hj; omega
theorem sorted_nf {n : Nat} {xs : Amt} {is zs : List Int} (am : Am n xs) (e : xs.map (·.1) = is.map Sum.inl) (p : zs.Perm is) (s : zs.Pairwise (· ≤ ·)) : sub xs zs = nf xs := by
  obtain ⟨ndr, mem, _⟩ := sorted_facts am e p
  have nd : zs.Nodup := (List.reverse_perm zs).nodup_iff.mp ndr
  have lt : zs.Pairwise (· < ·) := (s.and nd).imp fun ⟨a, b⟩ => by omega
  obtain ⟨js, ej, pj, bj⟩ := pick_asc (lk xs) 8
  have ej : (nf xs).map (·.1) = js.map Sum.inl := ej
  have z : zs = js := by
    refine asc_unique lt pj fun x => ?_
    rw [← List.mem_reverse, mem]
    constructor
    · intro h
      cases c : lk xs (.inl x) with
      | none => rw [c] at h; cases h
      | some v =>
        obtain ⟨i, hi, ei⟩ := am.key _ (lk_mem c)
        have ei : (Sum.inl x : Key) = .inl (i : Int) := ei
        have m : ((Sum.inl x : Key), v) ∈ nf xs := mem_pick.mpr ⟨i, hi, ei, c⟩
        have : (Sum.inl x : Key) ∈ (nf xs).map (·.1) := List.mem_map.mpr ⟨_, m, rfl⟩
        rw [ej] at this
        obtain ⟨w, hw, ew⟩ := List.mem_map.mp this
        rw [← Sum.inl.inj ew]
        exact hw
    · intro h
      have : (Sum.inl x : Key) ∈ (nf xs).map (·.1) := by rw [ej]; exact List.mem_map.mpr ⟨x, h, rfl⟩
      obtain ⟨q, hq, eq⟩ := List.mem_map.mp this
      obtain ⟨i, hi, e1, e2⟩ := mem_pick.mp hq
      rw [← eq, e2]
      rfl
  rw [z]
  unfold sub
  have g : ∀ q ∈ nf xs, (q.1, gt0 xs q.1) = q := fun q hq => by
    obtain ⟨i, hi, e1, e2⟩ := mem_pick.mp hq
    unfold gt0
    rw [e2]
    rfl
  have h1 : js.map (fun z => ((Sum.inl z : Key), gt0 xs (.inl z))) = (js.map Sum.inl).map fun k => (k, gt0 xs k) := by rw [List.map_map]; rfl
  rw [h1, ← ej, List.map_map]
  conv => rhs; rw [← List.map_id (nf xs)]
  exact List.map_congr_left fun q hq => g q hq
/-! ### what is shown -/
def kD : Key → PyData
  | .inl i => .int i
  | .inr s => .str s
def shD (X : Amt) : PyData := .list [prd (tot (X.map (·.2))), .list (X.map fun p => kD p.1), .list ((List.range 8).map fun i : Nat => prd (gt0 X (.inl (i : Int)))), .int ((X.length : Nat) : Int), .list ((List.range 8).map fun i : Nat => .bool (lk X (.inl (i : Int))).isSome)]
theorem cntAll_le {m : Nat} : ∀ {ds : List PyData}, (∀ d ∈ ds, cnt d ≤ m) → cntAll ds ≤ m * ds.length
  | [], _ => by simp [cntAll]
  | d :: ds, h => by
    simp only [cntAll, List.length_cons]
    have h1 := h d List.mem_cons_self
    have h2 := cntAll_le fun e he => h e (List.mem_cons_of_mem _ he)
    rw [Nat.mul_succ]
    omega
end G
namespace G
open PySem PySem.Spec PyProof.Rows L2
theorem limAll_of : ∀ {ds : List PyData}, (∀ d ∈ ds, lim d) → limAll ds
  | [], _ => by simp only [limAll]
  | d :: ds, h => by
    simp only [limAll]
    exact ⟨h d List.mem_cons_self, limAll_of fun e he => h e (List.mem_cons_of_mem _ he)⟩
theorem depthAll_le {m : Nat} : ∀ {ds : List PyData}, (∀ d ∈ ds, d.depth ≤ m) → PyData.depthAll ds ≤ m
  | [], _ => by simp only [PyData.depthAll]; omega
  | d :: ds, h => by
    simp only [PyData.depthAll]
    have h1 := h d List.mem_cons_self
    have h2 := depthAll_le fun e he => h e (List.mem_cons_of_mem _ he)
    omega
theorem lim_list {ds : List PyData} (h : ∀ d ∈ ds, lim d) : lim (.list ds) := by simp only [lim]; exact limAll_of h
theorem lim_prd {n : Nat} {x : Int × Int} (h : Lp n x) (hn : n ≤ 1900) : lim (prd x) := h.lim (n := n) (decide_eq_true hn)
theorem gt0_lp {n : Nat} {X : Amt} (am : Am n X) (k : Key) : Lp (n + 1) (gt0 X k) := am.gt0 k
theorem tot_vals {n : Nat} {X : Amt} (am : Am n X) : Lp (9 * (n + 1)) (tot (X.map (·.2))) := by
  have lv := nf_vals X n am.lp
  refine (tot_lp lv).mono ?_
  rw [List.length_map]
  have := am.len8
  have := Nat.mul_le_mul_right (n + 1) this
  omega
theorem shD_lim {n : Nat} {X : Amt} (am : Am n X) (hn : 9 * (n + 1) ≤ 1900) : lim (shD X) := by
  unfold shD
  refine lim_list fun d hd => ?_
  simp only [List.mem_cons, List.not_mem_nil, or_false] at hd
  rcases hd with rfl | rfl | rfl | rfl | rfl
  · exact lim_prd (tot_vals am) hn
  · refine lim_list fun d hd => ?_
    obtain ⟨p, hp, rfl⟩ := List.mem_map.mp hd
    obtain ⟨i, hi, e⟩ := am.key p hp
    rw [e]
    simp only [kD, lim]
    exact Nat.lt_trans (show (i : Int).natAbs < 8 by omega) (by decide +kernel)
  · refine lim_list fun d hd => ?_
    obtain ⟨i, hi, rfl⟩ := List.mem_map.mp hd
    exact lim_prd (am.gt0 _) (by omega)
  · simp only [lim]
    have := am.len8
    exact Nat.lt_of_le_of_lt (show ((X.length : Nat) : Int).natAbs ≤ 8 by omega) (by decide +kernel)
  · refine lim_list fun d hd => ?_
    obtain ⟨i, hi, rfl⟩ := List.mem_map.mp hd
    simp only [lim]
theorem shD_cnt {n : Nat} {X : Amt} (am : Am n X) : decide (cnt (shD X) ≤ 8000) = true := by
  have l8 := am.len8
  have h1 : cnt (prd (tot (X.map (·.2)))) ≤ 4 := by simp only [prd, cnt, cntAll]; decide
  have h2 : cnt (.list (X.map fun p => kD p.1)) ≤ 9 := by
    simp only [cnt]
    have := cntAll_le (m := 1) (ds := X.map fun p => kD p.1) (fun d hd => by
      obtain ⟨p, hp, rfl⟩ := List.mem_map.mp hd
      obtain ⟨i, hi, e⟩ := am.key p hp
      rw [e]
      simp only [kD, cnt]
      decide)
    rw [List.length_map] at this
    omega
  have h3 : cnt (.list ((List.range 8).map fun i : Nat => prd (gt0 X (.inl (i : Int))))) ≤ 33 := by
    simp only [cnt]
    have := cntAll_le (m := 4) (ds := (List.range 8).map fun i : Nat => prd (gt0 X (.inl (i : Int)))) (fun d hd => by
      obtain ⟨i, hi, rfl⟩ := List.mem_map.mp hd
      simp only [prd, cnt, cntAll]; decide)
    rw [List.length_map, List.length_range] at this
    omega
  have h5 : cnt (.list ((List.range 8).map fun i : Nat => .bool (lk X (.inl (i : Int))).isSome)) ≤ 9 := by
    simp only [cnt]
    have := cntAll_le (m := 1) (ds := (List.range 8).map fun i : Nat => PyData.bool (lk X (.inl (i : Int))).isSome) (fun d hd => by
      obtain ⟨i, hi, rfl⟩ := List.mem_map.mp hd
      simp only [cnt]; decide)
    rw [List.length_map, List.length_range] at this
    omega
  refine decide_eq_true ?_
  have h4 : cnt (.int ((X.length : Nat) : Int)) = 1 := by simp only [cnt]
  unfold shD
  rw [show cnt (.list [prd (tot (X.map (·.2))), .list (X.map fun p => kD p.1), .list ((List.range 8).map fun i : Nat => prd (gt0 X (.inl (i : Int)))), .int ((X.length : Nat) : Int), .list ((List.range 8).map fun i : Nat => .bool (lk X (.inl (i : Int))).isSome)]) = cnt (prd (tot (X.map (·.2)))) + (cnt (.list (X.map fun p => kD p.1)) + (cnt (.list ((List.range 8).map fun i : Nat => prd (gt0 X (.inl (i : Int))))) + (cnt (.int ((X.length : Nat) : Int)) + (cnt (.list ((List.range 8).map fun i : Nat => .bool (lk X (.inl (i : Int))).isSome)) + 0)))) + 1 from by simp only [cnt, cntAll]]
  omega
theorem shD_depth {n : Nat} {X : Amt} (am : Am n X) : decide ((shD X).depth ≤ 40) = true := by
  refine decide_eq_true ?_
  unfold shD
  rw [show ∀ ds : List PyData, (PyData.list ds).depth = PyData.depthAll ds + 1 from fun ds => by simp only [PyData.depth]]
  refine Nat.succ_le_succ (depthAll_le (m := 39) fun d hd => ?_)
  simp only [List.mem_cons, List.not_mem_nil, or_false] at hd
  have hp : ∀ x : Int × Int, (prd x).depth ≤ 1 := fun x => by simp only [prd, PyData.depth, PyData.depthAll]; decide
  have hl : ∀ ds : List PyData, (∀ d ∈ ds, d.depth ≤ 1) → (PyData.list ds).depth ≤ 39 := fun ds h => by
    have := depthAll_le h
    simp only [PyData.depth]
    omega
  rcases hd with rfl | rfl | rfl | rfl | rfl
  · exact Nat.le_trans (hp _) (by decide)
  · refine hl _ fun d hd => ?_
    obtain ⟨p, hp, rfl⟩ := List.mem_map.mp hd
    obtain ⟨i, hi, e⟩ := am.key p hp
    rw [e]
    simp only [kD, PyData.depth]
    decide
  · refine hl _ fun d hd => ?_
    obtain ⟨i, hi, rfl⟩ := List.mem_map.mp hd
    exact hp _
  · simp only [PyData.depth]; decide
  · refine hl _ fun d hd => ?_
    obtain ⟨i, hi, rfl⟩ := List.mem_map.mp hd
    simp only [PyData.depth]
    decide
theorem w_reprSh {K : PySem.W.Frag} {H : Hp} {Q : VK} {a : Addr} {n : Nat} {X : Amt} (hd : Dp K H (.ref a) (shD X)) (am : Am n X) (hn : 9 * (n + 1) ≤ 1900) (q : Q (.str (shD X).shown) H) : rRepr K [.ref a] H Q := w_repr hd (shD_lim am hn) q (shD_cnt am) (shD_depth am)
/-! specs -/
def spMCont (M C : Addr) : Sp := fun vs H Q _ => ∃ (p : Addr) (i : Int) (xs : Amt) (n : Nat), vs = [.ref p, .int i] ∧ Mix M C H p xs ∧ Am n xs ∧ Q (.bl (lk xs (.inl i)).isSome) H
def spShown (K : PySem.W.Frag) (M C : Addr) : Sp := fun vs H Q _ => ∃ p xs n, vs = [.ref p] ∧ Mix M C H p xs ∧ Am n xs ∧ 9 * (n + 1) ≤ 1900 ∧ ∀ q H', H q = none → Same H H' → Dp K H' (.ref q) (shD xs) → Q (.ref q) H'
def spDue (K : PySem.W.Frag) : Sp := fun vs H Q _ => ∃ d ks xs n, vs = [.ref d] ∧ H d = some (.dK ks) ∧ Ent RpT H ks xs ∧ Am n xs ∧ 9 * (n + 1) ≤ 1900 ∧ ∀ q H', H q = none → Same H H' → Dp K H' (.ref q) (shD (nf xs)) → Q (.ref q) H'
end G
namespace G
open PySem PySem.Spec PyProof.Rows L2
/-! ### shares -/
theorem tot_pos_go {n : Nat} : ∀ (xs : List (Int × Int)) (m : Nat) (a : Int × Int), Lp m a → 0 < a.1 → (∀ x ∈ xs, Lp n x ∧ 0 < x.1) → 0 < (xs.foldl (jn 0) a).1
  | [], _, _, _, h, _ => h
  | x :: xs, m, a, la, h, hx => by
    have q := hx x List.mem_cons_self
    exact tot_pos_go xs (m + n + 1) (jn 0 a x) (jn_lp (.inl rfl) la q.1) (jn0_pos h q.2 la.1 q.1.1) fun y hy => hx y (List.mem_cons_of_mem _ hy)
theorem tot_pos {n : Nat} {X : Amt} (am : Am n X) (h : X ≠ []) : 0 < (tot (X.map (·.2))).1 := by
  cases X with
  | nil => exact absurd rfl h
  | cons p ps =>
    show 0 < ((ps.map (·.2)).foldl (jn 0) (jn 0 (0, 1) p.2)).1
    rw [jn0_zero (am.lp p List.mem_cons_self)]
    refine tot_pos_go (n := n) _ n p.2 (am.lp p List.mem_cons_self) (am.pos p List.mem_cons_self) fun x hx => ?_
    obtain ⟨q, hq, rfl⟩ := List.mem_map.mp hx
    exact ⟨am.lp q (List.mem_cons_of_mem _ hq), am.pos q (List.mem_cons_of_mem _ hq)⟩
def spMShare (M C : Addr) : Sp := fun vs H Q _ => ∃ (p : Addr) (i : Int) (xs : Amt) (n : Nat), vs = [.ref p, .int i] ∧ Mix M C H p xs ∧ Am n xs ∧ 9 * (n + 1) ≤ 3400 ∧ 0 ≤ i ∧ i ≤ 7 ∧ xs ≠ [] ∧
  ∀ r H', H r = none → Same H H' → Rat C H' r (qt (gt0 xs (.inl i)) (tot (xs.map (·.2)))).1 (qt (gt0 xs (.inl i)) (tot (xs.map (·.2)))).2 → Q (.ref r) H'
/-! ### products -/
theorem mulM_nf (xs : Amt) (r : Int × Int) : mulM (nf xs) r = mulM xs r := pick_congr fun i hi => by rw [lk_nf hi]
theorem lk_mulM {X : Amt} {r : Int × Int} {i : Nat} (hi : i < 8) : lk (mulM X r) (.inl (i : Int)) = (lk X (.inl (i : Int))).map fun x => jn 2 x r := lk_pick hi
theorem lk_addM {X Y : Amt} {i : Nat} (hi : i < 8) : lk (addM X Y) (.inl (i : Int)) = jnO (lk X (.inl (i : Int))) (lk Y (.inl (i : Int))) := lk_pick hi
theorem mulM_one {n : Nat} {X : Amt} (am : Am n X) (h : Asc 8 X) : mulM X (1, 1) = X := by
  refine Eq.trans ?_ h
  refine pick_congr fun i hi => ?_
  cases e : lk X (.inl (i : Int)) with
  | none => rfl
  | some x =>
    have lx := (am.at_ e).1
    show some (jn 2 x (1, 1)) = some x
    congr 1
    refine val_inj (jn_lp (.inr (.inr rfl)) lx lp_one) lx ?_
    rw [val_jn2 lx lp_one]
    have e1 : val (1, 1) = 1 := by unfold val; decide +kernel
    rw [e1]
    grind
theorem mulM_two {n : Nat} {X : Amt} (am : Am n X) : mulM X (2, 1) = addM X X := by
  refine pick_congr fun i hi => ?_
  cases e : lk X (.inl (i : Int)) with
  | none => rfl
  | some x =>
    have lx := (am.at_ e).1
    have l2 : Lp 3 ((2 : Int), (1 : Int)) := ⟨by decide, by decide, by decide, by decide⟩
    show some (jn 2 x (2, 1)) = some (jn 0 x x)
    congr 1
    refine val_inj (jn_lp (.inr (.inr rfl)) lx l2) (jn_lp (.inl rfl) lx lx) ?_
    rw [val_jn2 lx l2, val_jn0 lx lx]
    have e1 : val (2, 1) = 2 := by unfold val; decide +kernel
    rw [e1]
    grind
theorem mulM_addM {n : Nat} {X Y : Amt} {r : Int × Int} (ax : Am n X) (ay : Am n Y) (lr : Lp n r) : mulM (addM X Y) r = addM (mulM X r) (mulM Y r) := by
  refine pick_congr fun i hi => ?_
  rw [lk_addM hi, lk_mulM hi, lk_mulM hi]
  cases a : lk X (.inl (i : Int)) with
  | none => cases b : lk Y (.inl (i : Int)) <;> rfl
  | some x =>
    cases b : lk Y (.inl (i : Int)) with
    | none => rfl
    | some y =>
      have lx := (ax.at_ a).1
      have ly := (ay.at_ b).1
      show some (jn 2 (jn 0 x y) r) = some (jn 0 (jn 2 x r) (jn 2 y r))
      congr 1
      have l1 := jn_lp (.inl rfl) lx ly
      have l2 := jn_lp (.inr (.inr rfl)) lx lr
      have l3 := jn_lp (.inr (.inr rfl)) ly lr
      refine val_inj (jn_lp (.inr (.inr rfl)) l1 lr) (jn_lp (.inl rfl) l2 l3) ?_
      rw [val_jn2 l1 lr, val_jn0 l2 l3, val_jn0 lx ly, val_jn2 lx lr, val_jn2 ly lr]
      grind
theorem mulM_comm {n : Nat} {X : Amt} {r s : Int × Int} (ax : Am n X) (lr : Lp n r) (ls : Lp n s) : mulM (mulM X r) s = mulM (mulM X s) r := by
  refine pick_congr fun i hi => ?_
  rw [lk_mulM hi, lk_mulM hi]
  cases a : lk X (.inl (i : Int)) with
  | none => rfl
  | some x =>
    have lx := (ax.at_ a).1
    show some (jn 2 (jn 2 x r) s) = some (jn 2 (jn 2 x s) r)
    congr 1
    have l1 := jn_lp (.inr (.inr rfl)) lx lr
    have l2 := jn_lp (.inr (.inr rfl)) lx ls
    refine val_inj (jn_lp (.inr (.inr rfl)) l1 ls) (jn_lp (.inr (.inr rfl)) l2 lr) ?_
    rw [val_jn2 l1 ls, val_jn2 l2 lr, val_jn2 lx lr, val_jn2 lx ls]
    grind
theorem mulM_ne {X : Amt} {r : Int × Int} (h : Asc 8 X) (ne : X ≠ []) : mulM X r ≠ [] := by
  intro z
  have l : (mulM X r).length = (pick (lk X) 8).length := by
    unfold mulM pick
    simp only [List.length_filterMap_eq_countP]
    congr 1
    funext i
    cases lk X (.inl (i : Int)) <;> rfl
  rw [z, show pick (lk X) 8 = X from h] at l
  exact ne (List.eq_nil_of_length_eq_zero l.symm)
theorem vsum_map {n : Nat} {r : Int × Int} (lr : Lp n r) : ∀ xs : List (Int × Int), (∀ x ∈ xs, Lp n x) → vsum (xs.map fun x => jn 2 x r) = vsum xs * val r
  | [], _ => by
    show (0 : _root_.Rat) = 0 * val r
    grind
  | x :: xs, h => by
    show val (jn 2 x r) + vsum (xs.map fun x => jn 2 x r) = (val x + vsum xs) * val r
    rw [vsum_map lr xs fun y hy => h y (List.mem_cons_of_mem _ hy), val_jn2 (h x List.mem_cons_self) lr]
    grind
theorem mulM_eq {X : Amt} {r : Int × Int} (h : Asc 8 X) : mulM X r = mulF X r := by
  have e : mulM X r = (pick (lk X) 8).map fun p => (p.1, jn 2 p.2 r) := by
    unfold mulM pick
    rw [List.map_filterMap]
    congr 1
    funext i
    dsimp only
    cases lk X (.inl (i : Int)) <;> rfl
  rw [e, show pick (lk X) 8 = X from h]
  rfl
theorem tot_mulM {n : Nat} {X : Amt} {r : Int × Int} (am : Am n X) (h : Asc 8 X) (lr : Lp n r) : val (tot ((mulM X r).map (·.2))) = val (tot (X.map (·.2))) * val r := by
  rw [mulM_eq h]
  unfold mulF
  have e : (X.map fun p => (p.1, jn 2 p.2 r)).map (·.2) = (X.map (·.2)).map fun x => jn 2 x r := by rw [List.map_map, List.map_map]; rfl
  rw [e]
  have lv := nf_vals X n am.lp
  rw [tot_val (n := n + n + 1) (fun x hx => by
    obtain ⟨y, hy, rfl⟩ := List.mem_map.mp hx
    exact jn_lp (.inr (.inr rfl)) (lv y hy) lr), tot_val lv, vsum_map lr _ lv]
theorem share_mul {n : Nat} {X : Amt} {r : Int × Int} {i : Nat} (am : Am n X) (h : Asc 8 X) (lr : Lp n r) (r0 : 0 < r.1) (ne : X ≠ []) (hi : i < 8) :
    qt (gt0 (mulM X r) (.inl (i : Int))) (tot ((mulM X r).map (·.2))) = qt (gt0 X (.inl (i : Int))) (tot (X.map (·.2))) := by
  have ag := mulM_am am lr r0
  have t1 := tot_vals am
  have t2 := tot_vals ag
  have p1 := tot_pos am ne
  have p2 := tot_pos ag (mulM_ne h ne)
  have g1 := am.gt0 (.inl (i : Int))
  have g2 := ag.gt0 (.inl (i : Int))
  refine val_inj (qt_lp (g2.mono (Nat.le_refl _)) (t2.mono (Nat.le_refl _)) (by omega)) (qt_lp (g1.mono (Nat.le_refl _)) (t1.mono (Nat.le_refl _)) (by omega)) ?_
  rw [val_qt g2 t2 (by omega), val_qt g1 t1 (by omega), tot_mulM am h lr]
  have e : val (gt0 (mulM X r) (.inl (i : Int))) = val (gt0 X (.inl (i : Int))) * val r := by
    unfold gt0
    rw [lk_mulM hi]
    cases a : lk X (.inl (i : Int)) with
    | none =>
      show val (0, 1) = val (0, 1) * val r
      rw [val_zero]
      grind
    | some x => exact val_jn2 (am.at_ a).1 lr
  rw [e]
  have q1 := val_ne t1 (by omega)
  have q2 := val_ne lr (by omega)
  grind
end G
namespace G
open PySem PySem.Spec PyProof.Rows L2
theorem dp_keys {K : PySem.W.Frag} {H : Hp} : ∀ X : Amt, DpAll K H (X.map fun p => kV p.1) (X.map fun p => kD p.1)
  | [] => .nil
  | p :: ps => by
    refine .cons ?_ (dp_keys ps)
    obtain ⟨k, v⟩ := p
    cases k with
    | inl i => exact .int i
    | inr s => exact .str s
theorem sub_keys (xs : Amt) (zs : List Int) : (sub xs zs).map (fun p => kV p.1) = zs.map V.int := by unfold sub; rw [List.map_map]; rfl
theorem sub_vals (xs : Amt) (zs : List Int) : (sub xs zs).map (·.2) = zs.map fun z => gt0 xs (.inl z) := by unfold sub; rw [List.map_map]; rfl
theorem gt0_nf (xs : Amt) {i : Nat} (hi : i < 8) : gt0 (nf xs) (.inl (i : Int)) = gt0 xs (.inl (i : Int)) := by unfold gt0; rw [lk_nf hi]
end G
namespace G
open PySem PySem.Spec PyProof.Rows L2
def timesX (xs : Amt) (f : Int × Int) : Amt := if f.1 = 0 then [] else mulF xs f
def spTimes : Sp := fun vs H Q _ => ∃ (d t : Addr) (ks : List (Key × V)) (xs : Amt) (f : Int × Int) (n : Nat), vs = [.ref d, .ref t] ∧ H d = some (.dK ks) ∧ Ent RpT H ks xs ∧ Am n xs ∧ H t = some (.tup [.int f.1, .int f.2]) ∧ Lp n f ∧ 0 ≤ f.1 ∧ n ≤ 3000 ∧
  ∀ e ls H', H e = none → Same H H' → H' e = some (.dK ls) → Ent RpT H' ls (timesX xs f) → Q (.ref e) H'
theorem mulF_get {xs : Amt} {f : Int × Int} {i : Nat} {k : Key} {x : Int × Int} (h : xs[i]? = some (k, x)) : (mulF xs f)[i]? = some (k, jn 2 x f) := by
  unfold mulF
  rw [List.getElem?_map, h]
  rfl
theorem mulF_len (xs : Amt) (f : Int × Int) : (mulF xs f).length = xs.length := by unfold mulF; rw [List.length_map]
end G
namespace G
open PySem PySem.Spec PyProof.Rows L2
/-- a mixture times a ratio from 0 on -/
def mulP (X : Amt) (f : Int × Int) : Amt := if f.1 = 0 then [] else mulM X f
theorem mulP_am {n m : Nat} {X : Amt} {f : Int × Int} (am : Am n X) (lf : Lp m f) (f0 : 0 ≤ f.1) : Am (n + m + 1) (mulP X f) := by
  unfold mulP
  by_cases c : f.1 = 0
  · rw [if_pos c]; exact Am.nil
  · rw [if_neg c]; exact mulM_am am lf (by omega)
theorem mulP_asc {X : Amt} {f : Int × Int} : Asc 8 (mulP X f) := by
  unfold mulP
  by_cases c : f.1 = 0
  · rw [if_pos c]; rfl
  · rw [if_neg c]; exact asc_mulM
theorem mulP_pos {X : Amt} {f : Int × Int} (h : 0 < f.1) : mulP X f = mulM X f := by unfold mulP; rw [if_neg (by omega)]
theorem nf_times (xs : Amt) (f : Int × Int) : nf (timesX xs f) = mulP (nf xs) f := by
  unfold timesX mulP
  by_cases c : f.1 = 0
  · rw [if_pos c, if_pos c]; rfl
  · rw [if_neg c, if_neg c, nf_mulF, mulM_nf]
theorem am_times {n m : Nat} {X : Amt} {f : Int × Int} (am : Am n X) (lf : Lp m f) (f0 : 0 ≤ f.1) : Am (n + m + 1) (timesX X f) := by
  unfold timesX
  by_cases c : f.1 = 0
  · rw [if_pos c]; exact Am.nil
  · rw [if_neg c]; exact am_mulF am lf (by omega)
theorem mulP_addM {n : Nat} {X Y : Amt} {f : Int × Int} (ax : Am n X) (ay : Am n Y) (lf : Lp n f) : mulP (addM X Y) f = addM (mulP X f) (mulP Y f) := by
  unfold mulP
  by_cases c : f.1 = 0
  · rw [if_pos c, if_pos c, if_pos c]; rfl
  · rw [if_neg c, if_neg c, if_neg c]; exact mulM_addM ax ay lf
theorem mulP_comm {n : Nat} {X : Amt} {f s : Int × Int} (ax : Am n X) (lf : Lp n f) (ls : Lp n s) : mulM (mulP X f) s = mulP (mulM X s) f := by
  unfold mulP
  by_cases c : f.1 = 0
  · rw [if_pos c, if_pos c]; rfl
  · rw [if_neg c, if_neg c]; exact mulM_comm ax lf ls
section
variable {K : PySem.W.Frag} {M C p q : Addr} {H : Hp} {Q : VK} {E : XK} {xs ys : Amt} {n : Nat}
theorem w_mulP {r : Int × Int} (mx : Mix M C H p xs) (R : Rat C H q r.1 r.2) (am : Am n xs) (lr : Lp n r) (r0 : 0 ≤ r.1) (hn : n ≤ 3400) (k : ∀ z H', H z = none → Same H H' → MixN H M C H' z (mulP xs r) → Q (.ref z) H') : rOwn2 M C (spMMul M C) E (.ref p) (.ref q) H Q := by
  have mx0 := mx
  have R0 := R
  obtain ⟨dx, d, ks, hp, _⟩ := mx
  obtain ⟨dy, hq⟩ := R
  exact ⟨p, dx, _, q, dy, _, rfl, rfl, hp, hq, p, q, xs, r, n, rfl, mx0, R0, am, lr, r0, hn, k⟩
theorem w_eqMT (I : InsTy K M) (mx : Mix M C H p xs) (my : Mix M C H q ys) (e : xs = ys) (k : Q (.bl true) H) : rEqO K M (spMEq K M C) E (.ref p) (.ref q) H Q := w_eqM I mx my (by rw [decide_eq_true e]; exact k)
/-- len of a mixture -/
theorem w_lenM (mx : Mix M C H p xs) (am : Am n xs) (k : Q (.int ((xs.length : Nat) : Int)) H) : rLenO M (spMLen M C) E [.ref p] H Q := by
  have mx0 := mx
  obtain ⟨dx, d, ks, hp, _⟩ := mx
  exact ⟨p, dx, _, rfl, hp, p, xs, rfl, mx0, xs.length, rfl, Nat.lt_of_le_of_lt am.len8 (by decide), k⟩
theorem w_neEmp {a b : Addr} {ks : List (Key × V)} (ha : H a = some (.dK ks)) (hb : H b = some (.dK [])) (q : Q (.bl (!ks.isEmpty)) H) : rNeE (.ref a) (.ref b) H Q := ⟨a, b, ks, rfl, rfl, ha, hb, q⟩
end
theorem Rat.fr' {C p a : Addr} {b : Nat} {H H' : Hp} {i j : Int} (h : Rat C H p i j) (s : Src b H a) (f : Fr a H H') : Rat C H' p i j := by
  obtain ⟨dx, h⟩ := h
  obtain ⟨_, _, _, h1, _⟩ := s
  exact ⟨dx, f _ _ (ne_of h h1 (by intro z; cases z)) h⟩
end G
namespace G
open PySem PySem.Spec PyProof.Rows L2
theorem op_eqOK {X : Cx} {k : Nat} {f C : Addr} {fd : FuncData} {ps : List Str} {sp : Sp} {E : XK} {CX : CXT} {K : PySem.W.Frag} (hK : X.K = K) (F : FnOk X.prog X.w X.K X.mg X.base CX k f fd ps sp) (hr : Room k X.A) (hb : Binds X.K fd ps []) (hx : Passes CX X E) (m : OpM X.K C "__eq__" f) :
    OpR X (compareOp .Eq) (rEqO K C sp E) := by
  subst hK
  exact op_eqO F hr hb hx m
end G
namespace G
open PySem PySem.Spec PyProof.Rows L2
/-! ### any value -/
def NotW (K : PySem.W.Frag) (H : Hp) (x : V) : Prop := ∃ t c b, TyX K H x t ∧ PySem.W.kitOne K t (.type "int") = some c ∧ PySem.W.kitOne K t (.type "bool") = some b ∧ (c && !b) = false
def spWholeA (K : PySem.W.Frag) : Sp := fun vs H Q _ => ∃ x t c b, vs = [x] ∧ TyX K H x t ∧ PySem.W.kitOne K t (.type "int") = some c ∧ PySem.W.kitOne K t (.type "bool") = some b ∧ Q (.bl (c && !b)) H
def spWithinA (K : PySem.W.Frag) : Sp := fun vs H Q _ => ∃ (x : V) (l m : Int), vs = [x, .int l, .int m] ∧ ((∃ i : Int, x = .int i ∧ Q (.bl (decide (l ≤ i ∧ i ≤ m))) H) ∨ (NotW K H x ∧ Q (.bl false) H))
def spIsSubA (K : PySem.W.Frag) : Sp := fun vs H Q _ => ∃ x : V, vs = [x] ∧ ((∃ i : Int, x = .int i ∧ Q (.bl (decide (0 ≤ i ∧ i ≤ 7))) H) ∨ (NotW K H x ∧ Q (.bl false) H))
def spMContA (K : PySem.W.Frag) (M C : Addr) : Sp := fun vs H Q _ => ∃ (p : Addr) (x : V) (X : Amt) (n : Nat), vs = [.ref p, x] ∧ Mix M C H p X ∧ Am n X ∧ ((∃ i : Int, x = .int i ∧ Q (.bl (lk X (.inl i)).isSome) H) ∨ (NotW K H x ∧ Q (.bl false) H))
def spShares (K : PySem.W.Frag) (M C : Addr) : Sp := fun vs H Q _ => ∃ p d ks xs, vs = [.ref p, .ref d] ∧ Mix M C H p (nf xs) ∧ H d = some (.dK ks) ∧ Ent RpT H ks xs ∧ Am 104 xs ∧ xs ≠ [] ∧ ∀ H', Same H H' → Q (.bl true) H'
theorem lk_out {n : Nat} {X : Amt} (am : Am n X) {i : Int} (h : ¬ (0 ≤ i ∧ i ≤ 7)) : lk X (.inl i) = none := by
  cases e : lk X (.inl i) with
  | none => rfl
  | some v =>
    obtain ⟨j, hj, ej⟩ := am.key _ (lk_mem e)
    have := Sum.inl.inj ej
    omega
/-- what a shown list holds -/
theorem dp_fst {K : PySem.W.Frag} {H : Hp} {a : Addr} {d : PyData} {ds : List PyData} (h : Dp K H (.ref a) (.list (d :: ds))) : ∃ v vs, SqL K H a (v :: vs) ∧ Dp K H v d := by
  cases h with
  | lst hs hd =>
    cases hd with
    | cons h1 h2 => exact ⟨_, _, hs, h1⟩
theorem dp_prd {K : PySem.W.Frag} {H : Hp} {v : V} {x : Int × Int} (h : Dp K H v (prd x)) : ∃ a, v = .ref a ∧ SqT K H a [.int x.1, .int x.2] := by
  unfold prd at h
  cases h with
  | tup hs hd =>
    cases hd with
    | cons h1 h2 =>
      cases h2 with
      | cons h3 h4 =>
        cases h1
        cases h3
        cases h4
        exact ⟨_, rfl, hs⟩
theorem eqvAll_keys : ∀ X : Amt, PyData.eqvAll (X.map fun p => kD p.1) (X.map fun p => kD p.1) = true
  | [] => by simp only [List.map_nil, PyData.eqvAll]
  | p :: ps => by
    simp only [List.map_cons, PyData.eqvAll]
    rw [eqvAll_keys ps, Bool.and_true]
    cases p.1 <;> simp [kD, PyData.eqv]
theorem shaped_keys {n : Nat} {X : Amt} (am : Am n X) : SeqAt.shaped (.list (X.map fun p => kD p.1)) = true := by
  have key := am.key
  clear am
  have h1 : PyData.canLayAll0 (X.map fun p => kD p.1) = true := by
    induction X with
    | nil => simp only [List.map_nil, PyData.canLayAll0]
    | cons p ps ih =>
      simp only [List.map_cons, PyData.canLayAll0]
      rw [ih fun q hq => key q (List.mem_cons_of_mem _ hq), Bool.and_true]
      obtain ⟨i, _, e⟩ := key p List.mem_cons_self
      rw [e]
      simp only [kD, PyData.canLay0]
  have h2 : PyData.depthAll (X.map fun p => kD p.1) ≤ 0 := depthAll_le fun d hd => by
    obtain ⟨p, hp, rfl⟩ := List.mem_map.mp hd
    obtain ⟨i, _, e⟩ := key p hp
    rw [e]
    simp only [kD, PyData.depth]
    decide
  unfold SeqAt.shaped
  simp only [PyData.canLay0, PyData.depth, h1, Bool.true_and]
  exact decide_eq_true (by omega)
end G
namespace G
open PySem PySem.Spec PyProof.Rows L2
theorem atI_zero {v : V} {vs : List V} : atI (v :: vs) 0 = some v := by
  unfold atI ixN
  simp
theorem Same.seqT {K : PySem.W.Frag} {H H' : Hp} {a : Addr} {xs : List V} (e : Same H H') (h : SqT K H a xs) : SqT K H' a xs := by
  rcases h with (h | ⟨o, h⟩) | h
  · exact .inl (.inl (e _ _ h))
  · exact .inl (.inr ⟨o, e _ _ h⟩)
  · exact .inr h
end G
namespace G
open PySem PySem.Spec PyProof.Rows L2
theorem w_pairs2 {tk tv tk2 tv2 : TE} {σ : L2.St} {H : Hp} {R : List (V × V) → Hp → Prop} (q : tk σ H fun x H1 => tv σ H1 fun y H2 => tk2 σ H2 fun x2 H3 => tv2 σ H3 fun y2 H4 => R [(x, y), (x2, y2)] H4) : tPairs [(tk, tv), (tk2, tv2)] σ H R := q
/-- a value of these is not in a mixture -/
def OddV (H : Hp) (C mm : Addr) (v : V) : Prop := (∃ i : Int, v = .int i ∧ ¬ (0 ≤ i ∧ i ≤ 7)) ∨ (∃ t, Pl H v t ∧ t ≠ "int") ∨ v = .ref mm ∨ ∃ (r : Addr) (x : Int × Int), v = .ref r ∧ Rat C H r x.1 x.2
theorem OddV.same {H H' : Hp} {C mm : Addr} {v : V} (h : OddV H C mm v) (e : Same H H') : OddV H' C mm v := by
  rcases h with h | ⟨t, p, n⟩ | h | ⟨r, x, a, b⟩
  · exact .inl h
  · exact .inr (.inl ⟨t, p.same e, n⟩)
  · exact .inr (.inr (.inl h))
  · exact .inr (.inr (.inr ⟨r, x, a, b.same e⟩))
end G

/-! Lists of transfers. -/
namespace G
open PySem PySem.Spec PyProof.Rows L2
abbrev Tr := Int × Int × Int
/-- a tuple of three numbers -/
def T3 (H : Hp) (v : V) (x : Tr) : Prop := ∃ r, v = .ref r ∧ H r = some (.tup [.int x.1, .int x.2.1, .int x.2.2])
theorem T3.same {H H' : Hp} {v : V} {x : Tr} (h : T3 H v x) (e : Same H H') : T3 H' v x := let ⟨r, a, b⟩ := h; ⟨r, a, e _ _ b⟩
theorem T3.fr {H H' : Hp} {L : Addr} {zs : List V} {v : V} {x : Tr} (h : T3 H v x) (hL : H L = some (.lst zs)) (f : Fr L H H') : T3 H' v x := let ⟨r, a, b⟩ := h; ⟨r, a, f _ _ (ne_of b hL (by intro z; cases z)) b⟩
theorem kept_T3 : Kept T3 := ⟨fun h e => h.same e, fun h hL f => h.fr hL f⟩
/-- a transfer -/
structure Gd (x : Tr) : Prop where
  a : 0 ≤ x.1 ∧ x.1 < 8
  b : 0 ≤ x.2.1 ∧ x.2.1 < 8
  c : 1 ≤ x.2.2 ∧ x.2.2 ≤ 1000000
  n : x.1 ≠ x.2.1
abbrev Ts (H : Hp) (vs : List V) (ts : List Tr) : Prop := PL (T3 H) vs ts
theorem PL.len {β : Type} {O : V → β → Prop} {vs : List V} {ys : List β} (h : PL O vs ys) : vs.length = ys.length := by
  induction h with
  | nil => rfl
  | cons _ _ ih => rw [List.length_cons, List.length_cons, ih]
theorem PL.get {β : Type} {O : V → β → Prop} {vs : List V} {ys : List β} (h : PL O vs ys) : ∀ {k : Nat} {v : V}, vs[k]? = some v → ∃ y, ys[k]? = some y ∧ O v y := by
  induction h with
  | nil => intro k v e; cases e
  | cons a _ ih =>
    intro k v e
    cases k with
    | zero => cases e; exact ⟨_, rfl, a⟩
    | succ k => exact ih e
theorem PL.gety {β : Type} {O : V → β → Prop} {vs : List V} {ys : List β} (h : PL O vs ys) : ∀ {k : Nat} {y : β}, ys[k]? = some y → ∃ v, vs[k]? = some v ∧ O v y := by
  induction h with
  | nil => intro k v e; cases e
  | cons a _ ih =>
    intro k v e
    cases k with
    | zero => cases e; exact ⟨_, rfl, a⟩
    | succ k => exact ih e
theorem PL.take {β : Type} {O : V → β → Prop} {vs : List V} {ys : List β} (h : PL O vs ys) : ∀ k, PL O (vs.take k) (ys.take k) := by
  induction h with
  | nil => intro k; rw [List.take_nil, List.take_nil]; exact .nil
  | cons a _ ih =>
    intro k
    cases k with
    | zero => exact .nil
    | succ k => exact .cons a (ih k)
theorem PL.app {β : Type} {O : V → β → Prop} {vs ws : List V} {ys zs : List β} (h : PL O vs ys) (k : PL O ws zs) : PL O (vs ++ ws) (ys ++ zs) := by
  induction h with
  | nil => exact k
  | cons a _ ih => exact .cons a ih
theorem PL.rev {β : Type} {O : V → β → Prop} {vs : List V} {ys : List β} (h : PL O vs ys) : PL O vs.reverse ys.reverse := by
  induction h with
  | nil => exact .nil
  | cons a _ ih => rw [List.reverse_cons, List.reverse_cons]; exact ih.snoc a
theorem PL.set {β : Type} {O : V → β → Prop} {vs : List V} {ys : List β} (h : PL O vs ys) {v : V} {y : β} (a : O v y) : ∀ k, PL O (vs.set k v) (ys.set k y) := by
  induction h with
  | nil => intro k; exact .nil
  | cons b t ih =>
    intro k
    cases k with
    | zero => exact .cons a t
    | succ k => exact .cons b (ih k)
theorem PL.perm {β : Type} {O : V → β → Prop} {vs ws : List V} (p : ws.Perm vs) : ∀ {ys : List β}, PL O vs ys → ∃ zs, zs.Perm ys ∧ PL O ws zs := by
  induction p with
  | nil => intro ys h; exact ⟨ys, .refl _, h⟩
  | cons v _ ih =>
    intro ys h
    cases h with
    | cons a t =>
      obtain ⟨zs, p, q⟩ := ih t
      exact ⟨_ :: zs, p.cons _, .cons a q⟩
  | swap v w l =>
    intro ys h
    cases h with
    | cons a t =>
      cases t with
      | cons b t => exact ⟨_, .swap _ _ _, .cons b (.cons a t)⟩
  | trans _ _ i1 i2 =>
    intro ys h
    obtain ⟨zs, p, q⟩ := i2 h
    obtain ⟨us, p', q'⟩ := i1 q
    exact ⟨us, p'.trans p, q'⟩
theorem Ts.same {H H' : Hp} {vs : List V} {ts : List Tr} (h : Ts H vs ts) (e : Same H H') : Ts H' vs ts := h.imp fun _ _ o => o.same e
theorem Ts.fr {H H' : Hp} {L : Addr} {zs vs : List V} {ts : List Tr} (h : Ts H vs ts) (hL : H L = some (.lst zs)) (f : Fr L H H') : Ts H' vs ts := h.imp fun _ _ o => o.fr hL f
/-! ### free ones, layers -/
def fre (x y : Tr) : Bool := !decide (x.2.1 = y.1) && !decide (x.1 = y.2.1)
theorem fre_symm (x y : Tr) : fre x y = fre y x := by
  unfold fre
  rw [show decide (x.2.1 = y.1) = decide (y.1 = x.2.1) from decide_eq_decide.mpr eq_comm, show decide (x.1 = y.2.1) = decide (y.2.1 = x.1) from decide_eq_decide.mpr eq_comm, Bool.and_comm]
/-- those that are free with all ahead, and the others -/
def fsG : List Tr → List Tr → List Tr
  | _, [] => []
  | pre, x :: xs => if (pre.all fun y => fre y x) = true then x :: fsG (pre ++ [x]) xs else fsG (pre ++ [x]) xs
def rsG : List Tr → List Tr → List Tr
  | _, [] => []
  | pre, x :: xs => if (pre.all fun y => fre y x) = true then rsG (pre ++ [x]) xs else x :: rsG (pre ++ [x]) xs
def c3 (x : Tr) : Int := TS.code 1048576 [x.1, x.2.1, x.2.2]
def le3 (x y : Tr) : Bool := decide (c3 x ≤ c3 y)
def srt (ts : List Tr) : List Tr := ts.mergeSort le3
theorem le3_trans (a b c : Tr) : le3 a b = true → le3 b c = true → le3 a c = true := by
  unfold le3
  intro h k
  have h := of_decide_eq_true h
  have k := of_decide_eq_true k
  exact decide_eq_true (by omega)
theorem le3_total (a b : Tr) : (le3 a b || le3 b a) = true := by
  unfold le3
  rw [Bool.or_eq_true, decide_eq_true_eq, decide_eq_true_eq]
  omega
theorem c3_eq (x : Tr) : c3 x = x.1 * 1099511627776 + (x.2.1 * 1048576 + x.2.2) := by
  show x.1 * 1048576 ^ 2 + (x.2.1 * 1048576 ^ 1 + (x.2.2 * 1048576 ^ 0 + 0)) = _
  rw [show (1048576 : Int) ^ 2 = 1099511627776 from by decide, show (1048576 : Int) ^ 1 = 1048576 from by decide, show (1048576 : Int) ^ 0 = 1 from by decide]
  omega
theorem c3_inj {x y : Tr} (hx : Gd x) (hy : Gd y) (h : c3 x = c3 y) : x = y := by
  rw [c3_eq, c3_eq] at h
  obtain ⟨a1, b1, c1, _⟩ := hx
  obtain ⟨a2, b2, c2, _⟩ := hy
  have e1 : x.1 = y.1 := by omega
  have e2 : x.2.1 = y.2.1 := by omega
  have e3 : x.2.2 = y.2.2 := by omega
  exact Prod.ext e1 (Prod.ext e2 e3)
theorem srt_unique {ts us : List Tr} (g : ∀ x ∈ ts, Gd x) (p : us.Perm ts) (s : us.Pairwise fun x y => c3 x ≤ c3 y) : us = srt ts := by
  refine List.Perm.eq_of_pairwise (le := fun x y => le3 x y = true) (fun a b ha hb h1 h2 => ?_) (s.imp fun h => decide_eq_true h) (List.pairwise_mergeSort le3_trans le3_total ts) (p.trans (List.mergeSort_perm ts le3).symm)
  have ga := g a (p.subset ha)
  have gb := g b ((List.mergeSort_perm ts le3).subset hb)
  have h1 := of_decide_eq_true h1
  have h2 := of_decide_eq_true h2
  exact c3_inj ga gb (by omega)
theorem srt_perm {ts us : List Tr} (g : ∀ x ∈ ts, Gd x) (p : us.Perm ts) : srt us = srt ts := by
  refine srt_unique g ((List.mergeSort_perm us le3).trans p) ?_
  exact (List.pairwise_mergeSort le3_trans le3_total us).imp fun h => of_decide_eq_true h
theorem rsG_len : ∀ (ts pre : List Tr), (rsG pre ts).length ≤ ts.length
  | [], _ => Nat.le_refl _
  | x :: xs, pre => by
    unfold rsG
    have := rsG_len xs (pre ++ [x])
    split
    · rw [List.length_cons]; omega
    · rw [List.length_cons, List.length_cons]; omega
theorem rs_lt {x : Tr} {xs : List Tr} : (rsG [] (x :: xs)).length < (x :: xs).length := by
  unfold rsG
  rw [if_pos (by rfl)]
  have := rsG_len xs [x]
  rw [List.length_cons]
  exact Nat.lt_succ_of_le this
def lays : List Tr → List (List Tr)
  | [] => []
  | x :: xs => srt (fsG [] (x :: xs)) :: lays (rsG [] (x :: xs))
termination_by ts => ts.length
decreasing_by exact rs_lt
theorem fsG_mem : ∀ (ts pre : List Tr) (x : Tr), x ∈ fsG pre ts → x ∈ ts
  | [], _, _, h => h
  | y :: ys, pre, x, h => by
    unfold fsG at h
    split at h
    · rcases List.mem_cons.mp h with h | h
      · exact List.mem_cons.mpr (.inl h)
      · exact List.mem_cons_of_mem _ (fsG_mem ys _ x h)
    · exact List.mem_cons_of_mem _ (fsG_mem ys _ x h)
theorem rsG_mem : ∀ (ts pre : List Tr) (x : Tr), x ∈ rsG pre ts → x ∈ ts
  | [], _, _, h => h
  | y :: ys, pre, x, h => by
    unfold rsG at h
    split at h
    · exact List.mem_cons_of_mem _ (rsG_mem ys _ x h)
    · rcases List.mem_cons.mp h with h | h
      · exact List.mem_cons.mpr (.inl h)
      · exact List.mem_cons_of_mem _ (rsG_mem ys _ x h)
theorem G_congr : ∀ (ts : List Tr) {pre pre' : List Tr}, (∀ x, (pre.all fun y => fre y x) = pre'.all fun y => fre y x) → fsG pre ts = fsG pre' ts ∧ rsG pre ts = rsG pre' ts
  | [], _, _, _ => ⟨rfl, rfl⟩
  | x :: xs, pre, pre', h => by
    have ih := G_congr xs (pre := pre ++ [x]) (pre' := pre' ++ [x]) fun y => by rw [List.all_append, List.all_append, h y]
    unfold fsG rsG
    rw [h x, ih.1, ih.2]
    exact ⟨rfl, rfl⟩
/-- an exchange of two neighbors that are free -/
inductive Sw : List Tr → List Tr → Prop
  | refl (ts : List Tr) : Sw ts ts
  | step {p q : List Tr} {x y : Tr} {us : List Tr} : fre x y = true → Sw us (p ++ x :: y :: q) → Sw us (p ++ y :: x :: q)
theorem G_swap {x y : Tr} (h : fre x y = true) (q : List Tr) : ∀ (p pre : List Tr), (fsG pre (p ++ x :: y :: q)).Perm (fsG pre (p ++ y :: x :: q)) ∧
    (rsG pre (p ++ x :: y :: q) = rsG pre (p ++ y :: x :: q) ∨ ∃ p' q', rsG pre (p ++ x :: y :: q) = p' ++ x :: y :: q' ∧ rsG pre (p ++ y :: x :: q) = p' ++ y :: x :: q')
  | [], pre => by
    have hy : fre y x = true := by rw [fre_symm]; exact h
    have c := G_congr q (pre := (pre ++ [x]) ++ [y]) (pre' := (pre ++ [y]) ++ [x]) fun z => by simp only [List.all_append, List.all_cons, List.all_nil, Bool.and_true]; rw [Bool.and_assoc, Bool.and_assoc, Bool.and_comm (fre x z)]
    have ax : ((pre ++ [y]).all fun z => fre z x) = pre.all fun z => fre z x := by simp only [List.all_append, List.all_cons, List.all_nil, Bool.and_true, hy]
    have ay : ((pre ++ [x]).all fun z => fre z y) = pre.all fun z => fre z y := by simp only [List.all_append, List.all_cons, List.all_nil, Bool.and_true, h]
    show (fsG pre (x :: y :: q)).Perm (fsG pre (y :: x :: q)) ∧ (rsG pre (x :: y :: q) = rsG pre (y :: x :: q) ∨ ∃ p' q', rsG pre (x :: y :: q) = p' ++ x :: y :: q' ∧ rsG pre (y :: x :: q) = p' ++ y :: x :: q')
    simp only [fsG, rsG]
    rw [ax, ay, c.1, c.2]
    cases (pre.all fun z => fre z x) <;> cases (pre.all fun z => fre z y) <;> simp
    · exact .inr ⟨[], _, rfl, rfl⟩
    · exact .swap _ _ _
  | z :: p, pre => by
    obtain ⟨a, b⟩ := G_swap h q p (pre ++ [z])
    show (fsG pre (z :: (p ++ x :: y :: q))).Perm (fsG pre (z :: (p ++ y :: x :: q))) ∧ (rsG pre (z :: (p ++ x :: y :: q)) = rsG pre (z :: (p ++ y :: x :: q)) ∨ ∃ p' q', rsG pre (z :: (p ++ x :: y :: q)) = p' ++ x :: y :: q' ∧ rsG pre (z :: (p ++ y :: x :: q)) = p' ++ y :: x :: q')
    simp only [fsG, rsG]
    cases (pre.all fun u => fre u z) with
    | true => exact ⟨a.cons _, b⟩
    | false =>
      refine ⟨a, ?_⟩
      rcases b with b | ⟨p', q', b1, b2⟩
      · exact .inl (by simp [b])
      · exact .inr ⟨z :: p', q', by simp [b1], by simp [b2]⟩
theorem lays_swap : ∀ (n : Nat) (p q : List Tr) (x y : Tr), (p ++ x :: y :: q).length ≤ n → (∀ z ∈ p ++ x :: y :: q, Gd z) → fre x y = true → lays (p ++ x :: y :: q) = lays (p ++ y :: x :: q)
  | 0, p, q, x, y, hl, _, _ => by rw [List.length_append] at hl; simp at hl
  | n + 1, p, q, x, y, hl, g, h => by
    have hg : ∀ z ∈ p ++ y :: x :: q, Gd z := fun z hz => g z (by
      rcases List.mem_append.mp hz with hz | hz
      · exact List.mem_append_left _ hz
      · refine List.mem_append_right _ ?_
        simp only [List.mem_cons] at hz ⊢
        rcases hz with hz | hz | hz
        · exact .inr (.inl hz)
        · exact .inl hz
        · exact .inr (.inr hz))
    obtain ⟨a, b⟩ := G_swap h q p []
    have u : ∀ l : List Tr, l ≠ [] → lays l = srt (fsG [] l) :: lays (rsG [] l) := fun l hl => by
      cases l with
      | nil => exact absurd rfl hl
      | cons z zs => rw [lays]
    rw [u (p ++ x :: y :: q) (by simp), u (p ++ y :: x :: q) (by simp)]
    have e1 : srt (fsG [] (p ++ x :: y :: q)) = srt (fsG [] (p ++ y :: x :: q)) := srt_perm (fun z hz => hg z (fsG_mem _ _ z hz)) a
    rw [e1]
    congr 1
    rcases b with b | ⟨p', q', b1, b2⟩
    · rw [b]
    · rw [b1, b2]
      have l1 : (p' ++ x :: y :: q').length ≤ n := by
        rw [← b1]
        have : (rsG [] (p ++ x :: y :: q)).length < (p ++ x :: y :: q).length := by
          cases p with
          | nil => exact rs_lt
          | cons z zs => exact rs_lt
        omega
      exact lays_swap n p' q' x y l1 (fun z hz => g z (rsG_mem _ [] z (by rw [b1]; exact hz))) h
theorem Sw.len {ts us : List Tr} (h : Sw ts us) : us.length = ts.length := by
  induction h with
  | refl _ => rfl
  | step _ _ ih => rw [← ih]; simp
theorem Sw.mem {ts us : List Tr} (h : Sw ts us) : ∀ z, z ∈ us → z ∈ ts := by
  induction h with
  | refl _ => exact fun _ h => h
  | step _ _ ih =>
    intro z hz
    refine ih z ?_
    simp only [List.mem_append, List.mem_cons] at hz ⊢
    rcases hz with hz | hz | hz | hz
    · exact .inl hz
    · exact .inr (.inr (.inl hz))
    · exact .inr (.inl hz)
    · exact .inr (.inr (.inr hz))
theorem Sw.lays {ts us : List Tr} (h : Sw ts us) (g : ∀ x ∈ ts, Gd x) : G.lays us = G.lays ts := by
  induction h with
  | refl _ => rfl
  | step f s ih => rw [← ih g]; exact (lays_swap _ _ _ _ _ (Nat.le_refl _) (fun z hz => g z (s.mem z hz)) f).symm
end G
namespace G
open PySem PySem.Spec PyProof.Rows L2
section
variable {X : Cx} {K : PySem.W.Frag}
theorem pi_listK {tg l : Expr} {tl : TE} (hK : X.K = K) (hl : PE X l tl) : PI X tg l (iList K tl) := by rw [← hK]; exact pi_list hl
theorem pi_enumK {e : Expr} {ta : TA} {p pos tpos : Pos} {elts : List Expr} {kk : Nat} (hK : X.K = K) (hg : Gl X "enumerate") (hm : X.mg "enumerate" = none) (ha : PA X [e] ta) (hs : starEach [e] X.env = [(false, eval e X.env)] := by rfl) :
    PI X (.Tuple elts kk tpos) (.Call (.Name "enumerate" p) [e] [] pos) (iEnum K ta) := by rw [← hK]; exact pi_enum hg hm ha hs
theorem sl_listK (hK : X.K = K) : SlR X (rSlL K) := by rw [← hK]; exact sl_list
theorem cr_allK (hK : X.K = K) (hc : X.calm = true) : CallR X (.builtin "all") (rAll K) := by rw [← hK]; exact cr_all hc
theorem op_notInK (hK : X.K = K) : OpR X (compareOp .NotIn) (rIn K true) := by rw [← hK]; exact op_notIn_seq
end
/-- [e for i, x in enumerate(a list) if t] -/
theorem w_lcEnum {β : Type} {K : PySem.W.Frag} {O : Hp → V → β → Prop} (KO : Kept O) {g : TG} {tt : TT} {te : TE} {σ : L2.St} {Q : VK} {H1 : Hp} {t : Addr} {rs : List V} {vs : List Nat} (σs : Nat → V → L2.St) (cond : Nat → Bool) (f : Nat → β) (hl : H1 t = some (.lst rs)) (hn : rs.length ≤ 1000)
    (hg : ∀ (T : Addr) (k : Nat) (v : V) (H' : Hp) (R : L2.St → Hp → Prop), H' T = some (.tup [.int (k : Int), v]) → R (σs k v) H' → g (.ref T) (wipe σ vs) H' R) (hw : ∀ k v, wipe (σs k v) vs = wipe σ vs)
    (test : ∀ (k : Nat) v H' (R : Bool → Hp → Prop), rs[k]? = some v → Same H1 H' → (∀ H2, Same H' H2 → R (cond k) H2) → tt (σs k v) H' R)
    (elt : ∀ (k : Nat) v H' (R : VK), rs[k]? = some v → cond k = true → Same H1 H' → (∀ u H2, Same H' H2 → O H2 u (f k) → R u H2) → te (σs k v) H' R)
    (q : ∀ L acc H', H1 L = none → Same H1 H' → H' L = some (.lst acc) → PL (O H') acc (((List.range rs.length).filter cond).map f) → Q (.ref L) H') : LcW (Ite K t) g tt te vs σ Q H1 := by
  intro D nD
  refine ⟨fun i m H' => m = rs.length - i ∧ i ≤ rs.length ∧ Same H1 H' ∧ ∃ acc, H' D = some (.lst acc) ∧ acc.length ≤ i ∧ PL (O H') acc (((List.range i).filter cond).map f), ⟨rs.length, by omega, Nat.zero_le _, same_new nD, [], upd_same, Nat.zero_le _, .nil⟩, ?_⟩
  rintro i m H' ⟨rfl, hi, e, acc, hD, la, pa⟩
  have hlt' := e _ _ hl
  by_cases lt : i < rs.length
  · have hv : rs[i]? = some (rs[i]'lt) := by rw [List.getElem?_eq_getElem]
    refine .inr ⟨⟨rs, rs[i]'lt, SqL.of hlt', hv⟩, fun H' => Same H1 H' ∧ ∃ acc, H' D = some (.lst acc) ∧ acc.length ≤ i + 1 ∧ PL (O H') acc (((List.range (i + 1)).filter cond).map f), fun H' ⟨a, b⟩ => ⟨rs.length - (i + 1), by omega, rfl, by omega, a, b⟩, ?_⟩
    rintro x H2 ⟨T, v, rfl, hT, rfl, hx⟩
    have hvv := hx rs (SqL.of hlt')
    have e2 : Same H' (upd H' T (.tup [.int (i : Nat), v])) := same_new hT
    refine hg T i v _ _ upd_same ⟨hw i v, test i v _ _ hvv (e.trans e2) fun H3 e3 => ?_⟩
    have hD3 := e3 _ _ (e2 _ _ hD)
    have pa3 : PL (O H3) acc (((List.range i).filter cond).map f) := pa.imp fun _ _ o => KO.same (KO.same o e2) e3
    by_cases c : cond i = true
    · rw [if_pos c]
      refine elt i v _ _ hvv c ((e.trans e2).trans e3) fun u H4 e4 o => ?_
      have hD4 := e4 _ _ hD3
      refine ⟨acc, hD4, by rw [show sizeLine = 16777216 from sizeLine_eq]; omega, Fr.unseen nD (((e.trans e2).trans e3).trans e4) Fr.at_, _, upd_same, by rw [List.length_append]; show acc.length + 1 ≤ i + 1; omega, ?_⟩
      rw [List.range_succ, List.filter_append, List.map_append]
      have s1 : [i].filter cond = [i] := by simp [c]
      rw [s1]
      exact (pa3.imp fun _ _ o => KO.fill (KO.same o e4) hD4 Fr.at_).snoc (KO.fill o hD4 Fr.at_)
    · rw [if_neg c]
      refine ⟨(e.trans e2).trans e3, acc, hD3, by omega, ?_⟩
      rw [List.range_succ, List.filter_append, List.map_append]
      have s1 : [i].filter cond = [] := by simp [c]
      rw [s1]
      simpa using pa3
  · obtain rfl : i = rs.length := by omega
    exact .inl ⟨⟨rs, SqL.of hlt', Nat.le_refl _⟩, q D acc H' nD e hD pa⟩
theorem kept_int {β : Type} {P : V → β → Prop} : Kept (fun _ v y => P v y) := kept_val
def csc (st : Stmt) : Scope := match C8.fnBody st with
  | [.Return (some (.ListComp _ _ sc _)) _] => sc
  | _ => defScope st
/-! specs -/
def spListIn (K : PySem.W.Frag) : Sp := fun vs H Q _ => ∃ (a : Addr) (xs : List V) (l m : Int), vs = [.ref a, .int l, .int m] ∧ H a = some (.lst xs) ∧ xs.length ≤ 1000 ∧ Q (.bl (decide (l ≤ xs.length ∧ (xs.length : Int) ≤ m))) H
def spTr : Sp := fun vs H Q _ => ∃ v x, vs = [v] ∧ T3 H v x ∧ Gd x ∧ ∀ H', Same H H' → Q (.bl true) H'
def spTrs : Sp := fun vs H Q _ => ∃ a xs ts, vs = [.ref a] ∧ H a = some (.lst xs) ∧ Ts H xs ts ∧ (∀ x ∈ ts, Gd x) ∧ ts.length ≤ 24 ∧ ∀ H', Same H H' → Q (.bl true) H'
def spCheckT : Sp := fun vs H Q _ => ∃ a xs ts, vs = [.ref a] ∧ H a = some (.lst xs) ∧ Ts H xs ts ∧ (∀ x ∈ ts, Gd x) ∧ ts.length ≤ 24 ∧ ∀ H', Same H H' → Q .non H'
def spFree : Sp := fun vs H Q _ => ∃ u v x y, vs = [u, v] ∧ T3 H u x ∧ T3 H v y ∧ Q (.bl (fre x y)) H
/-- the places of those that are free with all ahead -/
def firstAt (ts : List Tr) (i : Nat) : Bool := match ts[i]? with
  | some x => (ts.take i).all fun y => fre y x
  | none => false
def spFirsts : Sp := fun vs H Q _ => ∃ a xs ts, vs = [.ref a] ∧ H a = some (.lst xs) ∧ Ts H xs ts ∧ ts.length ≤ 100 ∧ ∀ l H', H l = none → Same H H' → H' l = some (.lst (((List.range ts.length).filter (firstAt ts)).map fun i : Nat => V.int (i : Int))) → Q (.ref l) H'
end G
namespace G
open PySem PySem.Spec PyProof.Rows L2
theorem pl_bl {vs : List V} {bs : List Bool} (h : PL (fun v b => v = V.bl b) vs bs) : vs = bs.map V.bl := by
  induction h with
  | nil => rfl
  | cons a _ ih => rw [List.map_cons, a, ih]
theorem pl_id {vs ys : List V} (h : PL (fun v y => v = y) vs ys) : vs = ys := by
  induction h with
  | nil => rfl
  | cons a _ ih => rw [a, ih]
theorem cut_nat {vs : List V} {k : Nat} (h : k ≤ vs.length) : cutV vs none (some (k : Int)) = vs.take k := by rw [cut_take (by omega) (by omega), Int.toNat_natCast]
theorem firstAt_get {ts : List Tr} {k : Nat} {x : Tr} (h : ts[k]? = some x) : firstAt ts k = ((ts.take k).map fun y => fre y x).all id := by
  unfold firstAt
  rw [h, List.all_map]
  rfl
end G
namespace G
open PySem PySem.Spec PyProof.Rows L2
theorem w_lenT {K : PySem.W.Frag} {H : Hp} {p : Addr} {xs : List V} {R : Nat → Prop} (h : SqT K H p xs) (q : R xs.length) : ∃ x n, [V.ref p] = [x] ∧ LenV K x H n ∧ R n := ⟨_, _, rfl, .inr ⟨_, h, rfl⟩, q⟩
end G
namespace G
open PySem PySem.Spec PyProof.Rows L2
def t0 : Tr := (0, 0, 0)
theorem firstAt_mid (p q : List Tr) (x : Tr) : firstAt (p ++ x :: q) p.length = p.all fun y => fre y x := by
  unfold firstAt
  rw [List.getElem?_append_right (Nat.le_refl _), Nat.sub_self]
  simp
theorem getD_mid (p q : List Tr) (x : Tr) : (p ++ x :: q).getD p.length t0 = x := by
  rw [List.getD_eq_getElem?_getD, List.getElem?_append_right (Nat.le_refl _), Nat.sub_self]
  rfl
theorem G_idx : ∀ (q p : List Tr), fsG p q = ((List.range q.length).filter fun i => firstAt (p ++ q) (p.length + i)).map (fun i => (p ++ q).getD (p.length + i) t0) ∧
    rsG p q = ((List.range q.length).filter fun i => !firstAt (p ++ q) (p.length + i)).map (fun i => (p ++ q).getD (p.length + i) t0)
  | [], _ => ⟨rfl, rfl⟩
  | x :: q, p => by
    obtain ⟨a, b⟩ := G_idx q (p ++ [x])
    have e : (p ++ [x]) ++ q = p ++ x :: q := by simp
    rw [e] at a b
    have l : ∀ i, (p ++ [x]).length + i = p.length + (i + 1) := fun i => by rw [List.length_append]; show p.length + 1 + i = _; omega
    simp only [l] at a b
    have h0 : firstAt (p ++ x :: q) (p.length + 0) = p.all fun y => fre y x := firstAt_mid p q x
    have g0 : (p ++ x :: q).getD (p.length + 0) t0 = x := getD_mid p q x
    unfold fsG rsG
    rw [List.length_cons, List.range_succ_eq_map, List.filter_cons, List.filter_cons, h0, List.filter_map, List.filter_map]
    cases c : (p.all fun y => fre y x) with
    | true =>
      simp only [if_true, Bool.not_true, Bool.false_eq_true, if_false, List.map_cons, List.map_map]
      rw [g0]
      exact ⟨by rw [a]; rfl, b⟩
    | false =>
      simp only [if_true, Bool.not_false, Bool.false_eq_true, if_false, List.map_cons, List.map_map]
      rw [g0]
      exact ⟨a, by rw [b]; rfl⟩
def idx (ts : List Tr) : List Nat := (List.range ts.length).filter (firstAt ts)
theorem fs_idx (ts : List Tr) : fsG [] ts = (idx ts).map fun i => ts.getD i t0 := by
  have := (G_idx ts []).1
  simpa [idx] using this
theorem rs_idx (ts : List Tr) : rsG [] ts = ((List.range ts.length).filter fun i => !firstAt ts i).map fun i => ts.getD i t0 := by
  have := (G_idx ts []).2
  simpa using this
theorem idx_lt {ts : List Tr} {i : Nat} (h : i ∈ idx ts) : i < ts.length := List.mem_range.mp (List.mem_filter.mp h).1
theorem in_idx {ts : List Tr} {k : Nat} (h : k < ts.length) : inV (.int (k : Int)) ((idx ts).map fun i : Nat => V.int (i : Int)) = firstAt ts k := by
  unfold inV
  rw [List.any_map]
  cases c : firstAt ts k with
  | true =>
    refine List.any_eq_true.mpr ⟨k, List.mem_filter.mpr ⟨List.mem_range.mpr h, c⟩, ?_⟩
    show eqV (.int (k : Int)) (.int (k : Int)) = true
    simp [eqV]
  | false =>
    rw [List.any_eq_false]
    intro i hi e
    have e : eqV (.int (i : Int)) (.int (k : Int)) = true := e
    have : i = k := by
      simp [eqV] at e
      omega
    subst this
    rw [(List.mem_filter.mp hi).2] at c
    cases c
theorem flat_idx (ts : List Tr) : ((idx ts).map fun i : Nat => V.int (i : Int)).all flatV = true := by
  rw [List.all_map]
  exact List.all_eq_true.mpr fun _ _ => rfl
theorem tupI_of {K : PySem.W.Frag} {H : Hp} {v : V} {x : Tr} (h : T3 H v x) : TupI K H v [x.1, x.2.1, x.2.2] := let ⟨r, a, b⟩ := h; ⟨r, a, SqT.of b⟩
theorem pl_sorted {K : PySem.W.Frag} {H : Hp} {ys : List V} {zs : List Tr} (h : Ts H ys zs) (s : ys.Pairwise (fun x y => ∀ n m, TupI K H x n → TupI K H y m → TS.code 1048576 n ≤ TS.code 1048576 m)) : zs.Pairwise fun x y => c3 x ≤ c3 y := by
  induction h with
  | nil => exact .nil
  | @cons v z vs zs a t ih =>
    rw [List.pairwise_cons] at s ⊢
    refine ⟨fun w hw => ?_, ih s.2⟩
    obtain ⟨k, hk⟩ := List.mem_iff_getElem?.mp hw
    obtain ⟨u, hu, ou⟩ := t.gety hk
    exact s.1 u (List.mem_of_getElem? hu) _ _ (tupI_of a) (tupI_of ou)
/-- a layer: a list that was not there in H0 -/
def Lay (H0 H : Hp) (L : Addr) (v : V) (us : List Tr) : Prop := ∃ l ws, v = .ref l ∧ H0 l = none ∧ l ≠ L ∧ H l = some (.lst ws) ∧ Ts H ws us
theorem Lay.same {H0 H H' : Hp} {L : Addr} {v : V} {us : List Tr} (h : Lay H0 H L v us) (e : Same H H') : Lay H0 H' L v us := let ⟨l, ws, a, b, c, d, f⟩ := h; ⟨l, ws, a, b, c, e _ _ d, f.same e⟩
theorem Lay.fr {H0 H H' : Hp} {L : Addr} {zs : List V} {v : V} {us : List Tr} (h : Lay H0 H L v us) (hL : H L = some (.lst zs)) (f : Fr L H H') : Lay H0 H' L v us := let ⟨l, ws, a, b, c, d, t⟩ := h; ⟨l, ws, a, b, c, f _ _ c d, t.fr hL f⟩
def spLays : Sp := fun vs H Q _ => ∃ a xs ts, vs = [.ref a] ∧ H a = some (.lst xs) ∧ Ts H xs ts ∧ (∀ x ∈ ts, Gd x) ∧ ts.length ≤ 24 ∧ ∀ L vs H', H L = none → Same H H' → H' L = some (.lst vs) → PL (Lay H H' L) vs (lays ts) → Q (.ref L) H'
theorem lays_cons {ts : List Tr} (h : ts ≠ []) : lays ts = srt (fsG [] ts) :: lays (rsG [] ts) := by
  cases ts with
  | nil => exact absurd rfl h
  | cons x xs => rw [lays]
theorem rs_lt' {ts : List Tr} (h : ts ≠ []) : (rsG [] ts).length < ts.length := by
  cases ts with
  | nil => exact absurd rfl h
  | cons x xs => exact rs_lt
theorem Gd.bd {x : Tr} (h : Gd x) : TS.Bd 1048576 [x.1, x.2.1, x.2.2] := by
  obtain ⟨a, b, c, _⟩ := h
  intro m hm
  simp only [List.mem_cons, List.not_mem_nil, or_false] at hm
  rcases hm with rfl | rfl | rfl <;> omega
end G
namespace G
open PySem PySem.Spec PyProof.Rows L2
/-! ### the laws' own defs -/
def spPool (K : PySem.W.Frag) : Sp := fun vs H Q _ => ∃ (s : Addr) (ns : List Int) (k : Int), vs = [.ref s, .int k] ∧ SqL K H s (ns.map V.int) ∧ ns.length ≤ 63 ∧ 0 ≤ k ∧ Bt 60 k ∧ ∀ p H', H p = none → Same H H' → Src 0 H' p → Q (.ref p) H'
def spAny3 : Sp := fun vs H Q _ => ∃ (a : Addr) (m : Int) (b : Nat), vs = [.ref a, .int m] ∧ Src b H a ∧ b + 200 < 2 ^ 60 ∧ 0 ≤ m ∧ m ≤ 24 ∧
  ∀ l xs ts H', H l = none → H' l = some (.lst xs) → Ts H' xs ts → (ts.length : Int) = m → (∀ x ∈ ts, Gd x) → Src (b + 80) H' a → Fr a H H' → Q (.ref l) H'
def spShuf : Sp := fun vs H Q _ => ∃ (a l : Addr) (b : Nat) (xs : List V) (ts : List Tr), vs = [.ref a, .ref l] ∧ Src b H a ∧ b + 200 < 2 ^ 60 ∧ H l = some (.lst xs) ∧ Ts H xs ts ∧ ts.length ≤ 24 ∧ l ≠ a ∧
  ∀ l' ys us H', H l' = none → H' l' = some (.lst ys) → Ts H' ys us → Sw ts us → Src (b + 60) H' a → Fr a H H' → Q (.ref l') H'
def trD (x : Tr) : PyData := .tuple [.int x.1, .int x.2.1, .int x.2.2]
def lnD (ts : List Tr) : PyData := .list (ts.map trD)
def lyD (ls : List (List Tr)) : PyData := .list (ls.map lnD)
theorem T3.dp {K : PySem.W.Frag} {H : Hp} {v : V} {x : Tr} (h : T3 H v x) : Dp K H v (trD x) := by
  obtain ⟨r, rfl, h⟩ := h
  exact .tup (SqT.of h) (.cons (.int _) (.cons (.int _) (.cons (.int _) .nil)))
theorem Ts.dp {K : PySem.W.Frag} {H : Hp} {vs : List V} {ts : List Tr} (h : Ts H vs ts) : DpAll K H vs (ts.map trD) := h.dps fun _ _ o => o.dp
theorem ln_dp {K : PySem.W.Frag} {H : Hp} {a : Addr} {vs : List V} {ts : List Tr} (ha : H a = some (.lst vs)) (h : Ts H vs ts) : Dp K H (.ref a) (lnD ts) := .lst (SqL.of ha) h.dp
/-- a list of layers -/
def Lay1 (H : Hp) (v : V) (us : List Tr) : Prop := ∃ l ws, v = .ref l ∧ H l = some (.lst ws) ∧ Ts H ws us
theorem Lay1.same {H H' : Hp} {v : V} {us : List Tr} (h : Lay1 H v us) (e : Same H H') : Lay1 H' v us := let ⟨l, ws, a, b, c⟩ := h; ⟨l, ws, a, e _ _ b, Ts.same c e⟩
theorem Lay.one {H0 H : Hp} {L : Addr} {v : V} {us : List Tr} (h : Lay H0 H L v us) : Lay1 H v us := let ⟨l, ws, a, _, _, d, t⟩ := h; ⟨l, ws, a, d, t⟩
theorem ly_dp {K : PySem.W.Frag} {H : Hp} {a : Addr} {vs : List V} {ls : List (List Tr)} (ha : H a = some (.lst vs)) (h : PL (Lay1 H) vs ls) : Dp K H (.ref a) (lyD ls) := .lst (SqL.of ha) (h.dps fun v us ⟨l, ws, e, b, c⟩ => by rw [e]; exact ln_dp b c)
def spLaysL : Sp := fun vs H Q _ => ∃ a xs ts, vs = [.ref a] ∧ H a = some (.lst xs) ∧ Ts H xs ts ∧ (∀ x ∈ ts, Gd x) ∧ ts.length ≤ 24 ∧ ∀ L vs H', H L = none → Same H H' → H' L = some (.lst vs) → PL (Lay1 H') vs (lays ts) → Q (.ref L) H'
end G
namespace G
open PySem PySem.Spec PyProof.Rows L2
def rListOf (K : PySem.W.Frag) : List V → Hp → VK → Prop := fun xs H Q => ∃ p ys, xs = [.ref p] ∧ (SqL K H p ys ∨ SqT K H p ys) ∧ ∀ l, H l = none → Q (.ref l) (upd H l (.lst ys))
theorem call_listO {X : Cx} : CallR X (.type "list") (rListOf X.K) := call_list_of
theorem w_listOf {K : PySem.W.Frag} {H : Hp} {Q : VK} {p : Addr} {ys : List V} (h : SqL K H p ys) (q : ∀ l H', H l = none → Same H H' → H' l = some (.lst ys) → Q (.ref l) H') : rListOf K [.ref p] H Q := ⟨p, ys, rfl, .inl h, fun l hl => q l _ hl (same_new hl) upd_same⟩
theorem ix_nat {vs : List V} {k : Nat} {v : V} (h : vs[k]? = some v) : atI vs (k : Int) = some v := by
  have := (List.getElem?_eq_some_iff.mp h).1
  unfold atI ixN
  rw [if_pos (by omega), if_pos (by omega)]
  exact h
theorem ixN_nat {n k : Nat} (h : k < n) : ixN n (k : Int) = some k := by
  unfold ixN
  rw [if_pos (by omega), if_pos (by omega)]
  rfl
theorem swap_at : ∀ (us : List Tr) (k : Nat) (x y : Tr), us[k]? = some x → us[k + 1]? = some y → us = us.take k ++ x :: y :: us.drop (k + 2) ∧ (us.set k y).set (k + 1) x = us.take k ++ y :: x :: us.drop (k + 2)
  | [], _, _, _, h, _ => by cases h
  | u :: us, 0, x, y, h, k => by
    cases h
    cases us with
    | nil => cases k
    | cons w ws => cases k; exact ⟨rfl, rfl⟩
  | u :: us, k + 1, x, y, h, h2 => by
    obtain ⟨a, b⟩ := swap_at us k x y h h2
    constructor
    · show u :: us = u :: (us.take k ++ x :: y :: us.drop (k + 2))
      rw [← a]
    · show u :: ((us.set k y).set (k + 1) x) = u :: (us.take k ++ y :: x :: us.drop (k + 2))
      rw [b]
theorem sw_at {ts us : List Tr} {k : Nat} {x y : Tr} (s : Sw ts us) (hx : us[k]? = some x) (hy : us[k + 1]? = some y) (f : fre x y = true) : Sw ts ((us.set k y).set (k + 1) x) := by
  obtain ⟨a, b⟩ := swap_at us k x y hx hy
  rw [b]
  exact .step f (by rw [← a]; exact s)
/-- [e for x in a list if t] -/
theorem w_lcFil {β : Type} {K : PySem.W.Frag} {O : Hp → V → β → Prop} (KO : Kept O) {tt : TT} {te : TE} {σ : L2.St} {Q : VK} {H1 : Hp} {t : Addr} {rs : List V} {j : Nat} (cond : Nat → Bool) (f : Nat → β) (hl : H1 t = some (.lst rs)) (hn : rs.length ≤ 1000)
    (test : ∀ (k : Nat) v H' (R : Bool → Hp → Prop), rs[k]? = some v → Same H1 H' → (∀ H2, Same H' H2 → R (cond k) H2) → tt ((σ.set j none).set j (some v)) H' R)
    (elt : ∀ (k : Nat) v H' (R : VK), rs[k]? = some v → cond k = true → Same H1 H' → (∀ u H2, Same H' H2 → O H2 u (f k) → R u H2) → te ((σ.set j none).set j (some v)) H' R)
    (q : ∀ L acc H', H1 L = none → Same H1 H' → H' L = some (.lst acc) → PL (O H') acc (((List.range rs.length).filter cond).map f) → Q (.ref L) H') : LcW (Itl K t) (gName j) tt te [j] σ Q H1 := by
  intro L nL
  refine lc_list (K := K) (xs := rs) (fun i H' => Same H1 H' ∧ ∃ acc, H' L = some (.lst acc) ∧ acc.length ≤ i ∧ PL (O H') acc (((List.range i).filter cond).map f)) ⟨same_new nL, [], upd_same, Nat.zero_le _, .nil⟩ (fun i H' hi p => SqL.of (p.1 _ _ hl)) ?_ ?_
  · rintro k v H' hv ⟨e, acc, hL, la, pa⟩
    have kl : k < rs.length := (List.getElem?_eq_some_iff.mp hv).1
    refine ⟨?_, ?_⟩
    · show ((σ.set j none).set j (some v)).set j none = σ.set j none
      rw [List.set_set, List.set_set]
    · refine test k v H' _ hv e fun H3 e3 => ?_
      have hD3 := e3 _ _ hL
      have pa3 : PL (O H3) acc (((List.range k).filter cond).map f) := pa.imp fun _ _ o => KO.same o e3
      by_cases c : cond k = true
      · rw [if_pos c]
        refine elt k v _ _ hv c (e.trans e3) fun u H4 e4 o => ?_
        have hD4 := e4 _ _ hD3
        refine ⟨acc, hD4, by rw [show sizeLine = 16777216 from sizeLine_eq]; omega, Fr.unseen nL ((e.trans e3).trans e4) Fr.at_, _, upd_same, by rw [List.length_append]; show acc.length + 1 ≤ k + 1; omega, ?_⟩
        rw [List.range_succ, List.filter_append, List.map_append]
        have s1 : [k].filter cond = [k] := by simp [c]
        rw [s1]
        exact (pa3.imp fun _ _ o => KO.fill (KO.same o e4) hD4 Fr.at_).snoc (KO.fill o hD4 Fr.at_)
      · rw [if_neg c]
        refine ⟨e.trans e3, acc, hD3, by omega, ?_⟩
        rw [List.range_succ, List.filter_append, List.map_append]
        have s1 : [k].filter cond = [] := by simp [c]
        rw [s1]
        simpa using pa3
  · rintro H' ⟨e, acc, hL, la, pa⟩
    exact q L acc H' nL e hL pa
def Fr2 (a b : Addr) (H H' : Hp) : Prop := ∀ c o, c ≠ a → c ≠ b → H c = some o → H' c = some o
theorem Fr2.refl (a b : Addr) (H : Hp) : Fr2 a b H H := fun _ _ _ _ h => h
theorem Fr2.same {a b : Addr} {H H1 H2 : Hp} (f : Fr2 a b H H1) (e : Same H1 H2) : Fr2 a b H H2 := fun c o n m h => e _ _ (f c o n m h)
theorem Fr2.fa {a b : Addr} {H H1 H2 : Hp} (f : Fr2 a b H H1) (e : Fr a H1 H2) : Fr2 a b H H2 := fun c o n m h => e _ _ n (f c o n m h)
theorem Fr2.fb {a b : Addr} {H H1 H2 : Hp} (f : Fr2 a b H H1) (e : Fr b H1 H2) : Fr2 a b H H2 := fun c o n m h => e _ _ m (f c o n m h)
theorem Fr2.unseen {a b : Addr} {H0 H H1 : Hp} (f : Fr2 a b H H1) (s : Same H0 H) (na : H0 a = none) (nb : H0 b = none) : Same H0 H1 := fun c o h => f c o (ne_of_none h na) (ne_of_none h nb) (s _ _ h)
theorem trD_lay : ∀ ts : List Tr, PyData.canLayAll0 (ts.map trD) = true
  | [] => by simp only [List.map_nil, PyData.canLayAll0]
  | x :: xs => by
    simp only [List.map_cons, PyData.canLayAll0, trD_lay xs, Bool.and_true]
    simp only [trD, PyData.canLay0, PyData.canLayAll0, Bool.and_self]
theorem trD_depth (x : Tr) : (trD x).depth ≤ 1 := by simp only [trD, PyData.depth, PyData.depthAll]; decide
theorem lnD_depth (ts : List Tr) : (lnD ts).depth ≤ 2 := by
  have := depthAll_le (m := 1) (ds := ts.map trD) fun d hd => by obtain ⟨x, _, rfl⟩ := List.mem_map.mp hd; exact trD_depth x
  simp only [lnD, PyData.depth]
  omega
theorem lnD_shaped (ts : List Tr) : SeqAt.shaped (lnD ts) = true := by
  have h1 := trD_lay ts
  have h2 := lnD_depth ts
  unfold SeqAt.shaped
  have h3 : PyData.canLay0 (lnD ts) = true := by simp only [lnD, PyData.canLay0, h1]
  rw [h3, Bool.true_and]
  exact decide_eq_true (by omega)
theorem ln_nil (ts : List Tr) : PyData.eqv (lnD ts) (.list []) = ts.isEmpty := by
  cases ts with
  | nil => simp only [lnD, List.map_nil, PyData.eqv, PyData.eqvAll]; rfl
  | cons x xs => simp only [lnD, List.map_cons, PyData.eqv, PyData.eqvAll]; rfl
end G
namespace G
open PySem PySem.Spec PyProof.Rows L2
theorem fil_empty {us : List Tr} {k : Nat} {y : Tr} (h : us[k]? = some y) (f : Nat → Tr) : (((List.range k).filter fun j => !fre (us.getD j t0) y).map f).isEmpty = firstAt us k := by
  have kl := (List.getElem?_eq_some_iff.mp h).1
  unfold firstAt
  rw [h]
  have e1 : ((((List.range k).filter fun j => !fre (us.getD j t0) y).map f).isEmpty = true) ↔ ∀ j, j < k → fre (us.getD j t0) y = true := by
    rw [List.isEmpty_iff, List.map_eq_nil_iff, List.filter_eq_nil_iff]
    constructor
    · intro z j hj
      have := z j (List.mem_range.mpr hj)
      simpa using this
    · intro z j hj
      have := z j (List.mem_range.mp hj)
      rw [this]
      decide
  have e2 : (((us.take k).all fun z => fre z y) = true) ↔ ∀ j, j < k → fre (us.getD j t0) y = true := by
    rw [List.all_eq_true]
    constructor
    · intro z j hj
      have hj' : us[j]? = some (us[j]'(by omega)) := by rw [List.getElem?_eq_getElem]
      rw [List.getD_eq_getElem?_getD, hj']
      refine z _ (List.mem_of_getElem? (i := j) ?_)
      rw [List.getElem?_take_of_lt hj]
      exact hj'
    · intro z x hx
      obtain ⟨j, hj⟩ := List.mem_iff_getElem?.mp hx
      have jk : j < k := by
        have := (List.getElem?_eq_some_iff.mp hj).1
        rw [List.length_take] at this
        omega
      rw [List.getElem?_take_of_lt jk] at hj
      have := z j jk
      rw [List.getD_eq_getElem?_getD, hj] at this
      exact this
  exact Bool.eq_iff_iff.mpr (e1.trans e2.symm)
def pA (us : List Tr) (k : Nat) : List Tr := ((List.range k).filter (firstAt us)).map fun i => us.getD i t0
def pB (us : List Tr) (k : Nat) : List Tr := ((List.range k).filter fun i => !firstAt us i).map fun i => us.getD i t0
theorem pA_succ (us : List Tr) (k : Nat) : pA us (k + 1) = if firstAt us k = true then pA us k ++ [us.getD k t0] else pA us k := by
  unfold pA
  rw [List.range_succ, List.filter_append, List.map_append]
  cases c : firstAt us k <;> simp [c]
theorem pB_succ (us : List Tr) (k : Nat) : pB us (k + 1) = if firstAt us k = true then pB us k else pB us k ++ [us.getD k t0] := by
  unfold pB
  rw [List.range_succ, List.filter_append, List.map_append]
  cases c : firstAt us k <;> simp [c]
theorem pA_all (us : List Tr) : pA us us.length = fsG [] us := (fs_idx us).symm
theorem pB_all (us : List Tr) : pB us us.length = rsG [] us := (rs_idx us).symm
theorem getD_at {us : List Tr} {k : Nat} {y : Tr} (h : us[k]? = some y) : us.getD k t0 = y := by rw [List.getD_eq_getElem?_getD, h]; rfl
end G
namespace G
open PySem PySem.Spec PyProof.Rows L2
theorem lays_ok : ∀ (n : Nat) (ts : List Tr), ts.length ≤ n → (lays ts).length ≤ ts.length ∧ ∀ l ∈ lays ts, l.length ≤ ts.length ∧ ∀ x ∈ l, x ∈ ts
  | _, [], _ => by rw [lays]; exact ⟨Nat.le_refl _, nofun⟩
  | 0, x :: xs, h => by simp at h
  | n + 1, x :: xs, h => by
    have lt := @rs_lt x xs
    obtain ⟨a, b⟩ := lays_ok n (rsG [] (x :: xs)) (by omega)
    rw [lays]
    refine ⟨by rw [List.length_cons]; omega, fun l hl => ?_⟩
    rcases List.mem_cons.mp hl with rfl | hl
    · constructor
      · unfold srt
        rw [List.length_mergeSort, fs_idx, List.length_map]
        have := List.length_filter_le (firstAt (x :: xs)) (List.range (x :: xs).length)
        rw [List.length_range] at this
        exact this
      · exact fun y hy => fsG_mem _ _ y ((List.mergeSort_perm _ le3).subset hy)
    · obtain ⟨c, d⟩ := b l hl
      exact ⟨by omega, fun y hy => rsG_mem _ _ y (d y hy)⟩
theorem trD_lim {x : Tr} (h : Gd x) : lim (trD x) := by
  obtain ⟨a, b, c, _⟩ := h
  have big : (2000000 : Nat) < 2 ^ 1900 := by decide +kernel
  simp only [trD, lim, limAll]
  exact ⟨Nat.lt_trans (by omega : x.1.natAbs < 2000000) big, Nat.lt_trans (by omega : x.2.1.natAbs < 2000000) big, Nat.lt_trans (by omega : x.2.2.natAbs < 2000000) big, trivial⟩
theorem lnD_lim {ts : List Tr} (h : ∀ x ∈ ts, Gd x) : lim (lnD ts) := lim_list fun d hd => by
  obtain ⟨x, hx, rfl⟩ := List.mem_map.mp hd
  exact trD_lim (h x hx)
theorem lyD_lim {ls : List (List Tr)} (h : ∀ l ∈ ls, ∀ x ∈ l, Gd x) : lim (lyD ls) := lim_list fun d hd => by
  obtain ⟨l, hl, rfl⟩ := List.mem_map.mp hd
  exact lnD_lim (h l hl)
theorem lnD_cnt {ts : List Tr} (h : ts.length ≤ 24) : cnt (lnD ts) ≤ 97 := by
  simp only [lnD, cnt]
  have := cntAll_le (m := 4) (ds := ts.map trD) fun d hd => by
    obtain ⟨x, _, rfl⟩ := List.mem_map.mp hd
    simp only [trD, cnt, cntAll]
    decide
  rw [List.length_map] at this
  omega
theorem lyD_cnt {ls : List (List Tr)} (h : ls.length ≤ 24) (g : ∀ l ∈ ls, l.length ≤ 24) : cnt (lyD ls) ≤ 2400 := by
  simp only [lyD, cnt]
  have := cntAll_le (m := 97) (ds := ls.map lnD) fun d hd => by
    obtain ⟨l, hl, rfl⟩ := List.mem_map.mp hd
    exact lnD_cnt (g l hl)
  rw [List.length_map] at this
  have := Nat.mul_le_mul_left 97 h
  omega
theorem lyD_depth (ls : List (List Tr)) : (lyD ls).depth ≤ 3 := by
  have := depthAll_le (m := 2) (ds := ls.map lnD) fun d hd => by obtain ⟨x, _, rfl⟩ := List.mem_map.mp hd; exact lnD_depth x
  simp only [lyD, PyData.depth]
  omega
theorem lyD_shaped (ls : List (List Tr)) : SeqAt.shaped (lyD ls) = true := by
  have h1 : PyData.canLayAll0 (ls.map lnD) = true := by
    induction ls with
    | nil => simp only [List.map_nil, PyData.canLayAll0]
    | cons l r ih =>
      simp only [List.map_cons, PyData.canLayAll0, ih, Bool.and_true]
      simp only [lnD, PyData.canLay0, trD_lay]
  have h2 := lyD_depth ls
  unfold SeqAt.shaped
  have h3 : PyData.canLay0 (lyD ls) = true := by simp only [lyD, PyData.canLay0, h1]
  rw [h3, Bool.true_and]
  exact decide_eq_true (by omega)
theorem eqvAll_tr : ∀ ts : List Tr, PyData.eqvAll (ts.map trD) (ts.map trD) = true
  | [] => by simp only [List.map_nil, PyData.eqvAll]
  | x :: xs => by
    simp only [List.map_cons, PyData.eqvAll, eqvAll_tr xs, Bool.and_true]
    simp [trD, PyData.eqv, PyData.eqvAll]
theorem eqvAll_ln : ∀ ls : List (List Tr), PyData.eqvAll (ls.map lnD) (ls.map lnD) = true
  | [] => by simp only [List.map_nil, PyData.eqvAll]
  | l :: ls => by
    simp only [List.map_cons, PyData.eqvAll, eqvAll_ln ls, Bool.and_true]
    simp only [lnD, PyData.eqv, eqvAll_tr]
theorem eqv_ly (ls : List (List Tr)) : PyData.eqv (lyD ls) (lyD ls) = true := by simp only [lyD, PyData.eqv, eqvAll_ln]
theorem w_reprLn {K : PySem.W.Frag} {H : Hp} {Q : VK} {a : Addr} {ts : List Tr} (hd : Dp K H (.ref a) (lnD ts)) (g : ∀ x ∈ ts, Gd x) (hl : ts.length ≤ 24) (q : Q (.str (lnD ts).shown) H) : rRepr K [.ref a] H Q :=
  w_repr hd (lnD_lim g) q (decide_eq_true (by have := lnD_cnt hl; omega)) (decide_eq_true (by have := lnD_depth ts; omega))
theorem lays_lim {ts : List Tr} (g : ∀ x ∈ ts, Gd x) : lim (lyD (lays ts)) := lyD_lim fun l hl x hx => g x (((lays_ok _ ts (Nat.le_refl _)).2 l hl).2 x hx)
theorem lays_cnt {ts : List Tr} (hl : ts.length ≤ 24) : cnt (lyD (lays ts)) ≤ 2400 := by
  obtain ⟨a, b⟩ := lays_ok _ ts (Nat.le_refl _)
  exact lyD_cnt (by omega) fun l h => by have := (b l h).1; omega
theorem w_reprLy {K : PySem.W.Frag} {H : Hp} {Q : VK} {a : Addr} {ts : List Tr} (hd : Dp K H (.ref a) (lyD (lays ts))) (g : ∀ x ∈ ts, Gd x) (hl : ts.length ≤ 24) (q : Q (.str (lyD (lays ts)).shown) H) : rRepr K [.ref a] H Q :=
  w_repr hd (lays_lim g) q (decide_eq_true (by have := lays_cnt hl; omega)) (decide_eq_true (by have := lyD_depth (lays ts); omega))
theorem w_reprLy2 {K : PySem.W.Frag} {H : Hp} {Q : VK} {a : Addr} {ts : List Tr} (hd : Dp K H (.ref a) (.list [lyD (lays ts), lyD (lays ts)])) (g : ∀ x ∈ ts, Gd x) (hl : ts.length ≤ 24) (q : Q (.str (PyData.list [lyD (lays ts), lyD (lays ts)]).shown) H) : rRepr K [.ref a] H Q :=
  w_repr hd (lim_two (lays_lim g) (lays_lim g)) q (decide_eq_true (by
    have := lays_cnt hl
    rw [show cnt (.list [lyD (lays ts), lyD (lays ts)]) = cnt (lyD (lays ts)) + (cnt (lyD (lays ts)) + 0) + 1 from by simp only [cnt, cntAll]]
    omega)) (decide_eq_true (by
    have := depthAll_le (m := 3) (ds := [lyD (lays ts), lyD (lays ts)]) fun d hd => by
      simp only [List.mem_cons, List.not_mem_nil, or_false] at hd
      rcases hd with rfl | rfl <;> exact lyD_depth _
    simp only [PyData.depth]
    omega))
def spRight : Sp := fun vs H Q _ => ∃ l xs ts, vs = [.ref l] ∧ H l = some (.lst xs) ∧ Ts H xs ts ∧ (∀ x ∈ ts, Gd x) ∧ ts.length ≤ 24 ∧ ∀ H', Same H H' → Q (.bl true) H'
theorem w_gen {t : TE} {σ : L2.St} {H : Hp} {Q : VK} (C : Int → Hp → Prop) (h : ∀ Q' : VK, (∀ m H', C m H' → Q' (.int m) H') → t σ H Q') (k : ∀ m H', C m H' → Q (.int m) H') : t σ H Q := h Q k
end G

/-! Plans for all vessels: marks, possible transfers. -/
namespace G
open PySem PySem.Spec PyProof.Rows L2
/-! ### what the vessels hold, by marks -/
def mrk0 (n : Nat) : List (List Bool) := (List.range n).map fun s => (List.range n).map fun p => decide (s = p)
def mrk1 (now : List (List Bool)) (x : Tr) : List (List Bool) :=
  now.take x.2.1.toNat ++ [List.zipWith (fun a b => a || b) (now.getD x.2.1.toNat []) (now.getD x.1.toNat [])] ++ now.drop (x.2.1.toNat + 1)
def mrk (n : Nat) (line : List Tr) : List (List Bool) := line.foldl mrk1 (mrk0 n)
def pln (n : Nat) : List Tr := ((List.range (n - 1)).map fun k : Nat => ((k : Int), ((k : Int) + 1, (1 : Int)))) ++ ((List.range (n - 1)).map fun k : Nat => ((k : Int) + 1, ((k : Int), (1 : Int)))).reverse
theorem pln_all : ∀ n, n ∈ List.range 9 → (mrk n (pln n)).all (fun r => r.all id) = true := by decide +kernel
def prs (n : Nat) : List Tr := (List.range n).flatMap fun g : Nat => (List.range (n - 1)).map fun s : Nat => ((g : Int), (((g : Int) + (1 + (s : Int))) % (n : Int), (1 : Int)))
def lns (n : Nat) : Nat → List (List Tr)
  | 0 => [[]]
  | k + 1 => (lns n k).flatMap fun l => (prs n).map fun p => l ++ [p]
def short (n k : Nat) : Bool := (lns n k).all fun l => (mrk n l).any fun r => r.any not
theorem short2 : short 2 1 = true := by decide +kernel
theorem short31 : short 3 1 = true := by decide +kernel
theorem short32 : short 3 2 = true := by decide +kernel
theorem short33 : short 3 3 = true := by decide +kernel
/-! ### possible transfers -/
def vol1 (now : List Int) (x : Tr) : List Int := (now.set x.1.toNat (now.getD x.1.toNat 0 - x.2.2)).set x.2.1.toNat (now.getD x.2.1.toNat 0 + x.2.2)
def psb1 (now : List Int) (x : Tr) : Bool := decide (0 ≤ x.1 ∧ x.1 < now.length ∧ 0 ≤ x.2.1 ∧ x.2.1 < now.length ∧ x.1 ≠ x.2.1 ∧ 0 < x.2.2 ∧ x.2.2 < now.getD x.1.toNat 0)
def psb : List Int → List Tr → Bool
  | _, [] => true
  | now, x :: r => psb1 now x && psb (vol1 now x) r
theorem psb_pln : ∀ (vs : List Int), vs.length ≤ 8 → (∀ v ∈ vs, 2 ≤ v) → psb vs (pln vs.length) = true
  | [], _, _ => rfl
  | [a], _, _ => rfl
  | [a, b], _, h => by
    simp only [List.mem_cons, List.not_mem_nil, or_false, forall_eq_or_imp, forall_eq] at h
    simp [pln, psb, psb1, vol1, List.range, List.range.loop]
    omega
  | [a, b, c], _, h => by
    simp only [List.mem_cons, List.not_mem_nil, or_false, forall_eq_or_imp, forall_eq] at h
    simp [pln, psb, psb1, vol1, List.range, List.range.loop]
    omega
  | [a, b, c, d], _, h => by
    simp only [List.mem_cons, List.not_mem_nil, or_false, forall_eq_or_imp, forall_eq] at h
    simp [pln, psb, psb1, vol1, List.range, List.range.loop]
    omega
  | [a, b, c, d, e], _, h => by
    simp only [List.mem_cons, List.not_mem_nil, or_false, forall_eq_or_imp, forall_eq] at h
    simp [pln, psb, psb1, vol1, List.range, List.range.loop]
    omega
  | [a, b, c, d, e, f], _, h => by
    simp only [List.mem_cons, List.not_mem_nil, or_false, forall_eq_or_imp, forall_eq] at h
    simp [pln, psb, psb1, vol1, List.range, List.range.loop]
    omega
  | [a, b, c, d, e, f, g], _, h => by
    simp only [List.mem_cons, List.not_mem_nil, or_false, forall_eq_or_imp, forall_eq] at h
    simp [pln, psb, psb1, vol1, List.range, List.range.loop]
    omega
  | [a, b, c, d, e, f, g, i], _, h => by
    simp only [List.mem_cons, List.not_mem_nil, or_false, forall_eq_or_imp, forall_eq] at h
    simp [pln, psb, psb1, vol1, List.range, List.range.loop]
    omega
  | _ :: _ :: _ :: _ :: _ :: _ :: _ :: _ :: _ :: _, h, _ => by simp at h
end G
namespace G
open PySem PySem.Spec PyProof.Rows L2
/-- a comprehension over anything of n items; `item` is what is known of the item that it gives -/
theorem w_lcGen {β : Type} {J : It} {O : Hp → V → β → Prop} (KO : Kept O) {g : TG} {tt : TT} {te : TE} {σ : L2.St} {Q : VK} {H1 : Hp} {vs : List Nat} (n : Nat) (item : Nat → V → Hp → Prop) (cond : Nat → Bool) (f : Nat → β) (hn : n ≤ 1000)
    (go : ∀ i H', i < n → Same H1 H' → J.go i H') (stop : ∀ H', Same H1 H' → J.stop n H')
    (yld : ∀ i H' x H2, i < n → Same H1 H' → J.yld i H' x H2 → Same H' H2 ∧ item i x H2)
    (body : ∀ (i : Nat) x H2 (Re : VK) (Rn : Hp → Prop), i < n → Same H1 H2 → item i x H2 → (cond i = false → ∀ H', Same H2 H' → Rn H') → (cond i = true → ∀ u H', Same H2 H' → O H' u (f i) → Re u H') →
      g x (wipe σ vs) H2 fun σ2 H3 => wipe σ2 vs = wipe σ vs ∧ tt σ2 H3 fun b H4 => if b = true then te σ2 H4 Re else Rn H4)
    (q : ∀ L acc H', H1 L = none → Same H1 H' → H' L = some (.lst acc) → PL (O H') acc (((List.range n).filter cond).map f) → Q (.ref L) H') : LcW J g tt te vs σ Q H1 := by
  intro D nD
  refine ⟨fun i m H' => m = n - i ∧ i ≤ n ∧ Same H1 H' ∧ ∃ acc, H' D = some (.lst acc) ∧ acc.length ≤ i ∧ PL (O H') acc (((List.range i).filter cond).map f), ⟨n, by omega, Nat.zero_le _, same_new nD, [], upd_same, Nat.zero_le _, .nil⟩, ?_⟩
  rintro i m H' ⟨rfl, hi, e, acc, hD, la, pa⟩
  by_cases lt : i < n
  · refine .inr ⟨go i H' lt e, fun H' => Same H1 H' ∧ ∃ acc, H' D = some (.lst acc) ∧ acc.length ≤ i + 1 ∧ PL (O H') acc (((List.range (i + 1)).filter cond).map f), fun H' ⟨a, b⟩ => ⟨n - (i + 1), by omega, rfl, by omega, a, b⟩, ?_⟩
    intro x H2 hx
    obtain ⟨e2, it⟩ := yld i H' x H2 lt e hx
    refine body i x H2 _ _ lt (e.trans e2) it (fun c H3 e3 => ?_) fun c u H4 e4 o => ?_
    · have e23 := e2.trans e3
      refine ⟨e.trans e23, acc, e23 _ _ hD, by omega, ?_⟩
      rw [List.range_succ, List.filter_append, List.map_append]
      have s1 : [i].filter cond = [] := by simp [c]
      rw [s1]
      have := pa.imp fun _ _ o => KO.same o e23
      simpa using this
    · have e24 := e2.trans e4
      have hD4 := e24 _ _ hD
      refine ⟨acc, hD4, by rw [show sizeLine = 16777216 from sizeLine_eq]; omega, Fr.unseen nD (e.trans e24) Fr.at_, _, upd_same, by rw [List.length_append]; show acc.length + 1 ≤ i + 1; omega, ?_⟩
      rw [List.range_succ, List.filter_append, List.map_append]
      have s1 : [i].filter cond = [i] := by simp [c]
      rw [s1]
      exact (pa.imp fun _ _ o => KO.fill (KO.same o e24) hD4 Fr.at_).snoc (KO.fill o hD4 Fr.at_)
  · obtain rfl : i = n := by omega
    exact .inl ⟨stop H' e, q D acc H' nD e hD pa⟩
structure KeptD {β : Type} (D : Addr) (O : Hp → V → β → Prop) : Prop where
  same : ∀ {H H' : Hp} {v : V} {y : β}, O H v y → Same H H' → O H' v y
  fill : ∀ {H H' : Hp} {zs : List V} {v : V} {y : β}, O H v y → H D = some (.lst zs) → Fr D H H' → O H' v y
/-- the same with values that may be lists: O is told the list that is made; `item` is what is known of the item that it gives -/
theorem w_lcGenD {β : Type} {J : It} {O : Addr → Hp → V → β → Prop} (KO : ∀ D, KeptD D (O D)) {g : TG} {tt : TT} {te : TE} {σ : L2.St} {Q : VK} {H1 : Hp} {vs : List Nat} (n : Nat) (item : Nat → V → Hp → Prop) (cond : Nat → Bool) (f : Nat → β) (hn : n ≤ 1000)
    (go : ∀ i H', i < n → Same H1 H' → J.go i H') (stop : ∀ H', Same H1 H' → J.stop n H')
    (yld : ∀ i H' x H2, i < n → Same H1 H' → J.yld i H' x H2 → Same H' H2 ∧ item i x H2)
    (body : ∀ (i : Nat) x H2 (Re : VK) (Rn : Hp → Prop), i < n → Same H1 H2 → item i x H2 → (cond i = false → ∀ H', Same H2 H' → Rn H') → (∃ D zs, H1 D = none ∧ H2 D = some (.lst zs) ∧ (cond i = true → ∀ u H', Same H2 H' → O D H' u (f i) → Re u H')) →
      g x (wipe σ vs) H2 fun σ2 H3 => wipe σ2 vs = wipe σ vs ∧ tt σ2 H3 fun b H4 => if b = true then te σ2 H4 Re else Rn H4)
    (q : ∀ L acc H', H1 L = none → Same H1 H' → H' L = some (.lst acc) → PL (O L H') acc (((List.range n).filter cond).map f) → Q (.ref L) H') : LcW J g tt te vs σ Q H1 := by
  intro D nD
  refine ⟨fun i m H' => m = n - i ∧ i ≤ n ∧ Same H1 H' ∧ ∃ acc, H' D = some (.lst acc) ∧ acc.length ≤ i ∧ PL (O D H') acc (((List.range i).filter cond).map f), ⟨n, by omega, Nat.zero_le _, same_new nD, [], upd_same, Nat.zero_le _, .nil⟩, ?_⟩
  rintro i m H' ⟨rfl, hi, e, acc, hD, la, pa⟩
  by_cases lt : i < n
  · refine .inr ⟨go i H' lt e, fun H' => Same H1 H' ∧ ∃ acc, H' D = some (.lst acc) ∧ acc.length ≤ i + 1 ∧ PL (O D H') acc (((List.range (i + 1)).filter cond).map f), fun H' ⟨a, b⟩ => ⟨n - (i + 1), by omega, rfl, by omega, a, b⟩, ?_⟩
    intro x H2 hx
    obtain ⟨e2, it⟩ := yld i H' x H2 lt e hx
    refine body i x H2 _ _ lt (e.trans e2) it (fun c H3 e3 => ?_) ⟨D, acc, nD, e2 _ _ hD, fun c u H4 e4 o => ?_⟩
    · have e23 := e2.trans e3
      refine ⟨e.trans e23, acc, e23 _ _ hD, by omega, ?_⟩
      rw [List.range_succ, List.filter_append, List.map_append]
      have s1 : [i].filter cond = [] := by simp [c]
      rw [s1]
      have := pa.imp fun _ _ o => (KO D).same o e23
      simpa using this
    · have e24 := e2.trans e4
      have hD4 := e24 _ _ hD
      refine ⟨acc, hD4, by rw [show sizeLine = 16777216 from sizeLine_eq]; omega, Fr.unseen nD (e.trans e24) Fr.at_, _, upd_same, by rw [List.length_append]; show acc.length + 1 ≤ i + 1; omega, ?_⟩
      rw [List.range_succ, List.filter_append, List.map_append]
      have s1 : [i].filter cond = [i] := by simp [c]
      rw [s1]
      exact (pa.imp fun _ _ o => (KO D).fill ((KO D).same o e24) hD4 Fr.at_).snoc ((KO D).fill o hD4 Fr.at_)
  · obtain rfl : i = n := by omega
    exact .inl ⟨stop H' e, q D acc H' nD e hD pa⟩
theorem w_lcRangeD {β : Type} {O : Addr → Hp → V → β → Prop} (KO : ∀ D, KeptD D (O D)) {te : TE} {σ : L2.St} {Q : VK} {H1 : Hp} {j n : Nat} (f : Nat → β) (hn : n ≤ 1000)
    (step : ∀ (k : Nat) H2 (R : VK) D zs, k < n → Same H1 H2 → H2 D = some (.lst zs) → (∀ u H', Same H2 H' → O D H' u (f k) → R u H') → te ((σ.set j none).set j (some (.int (k : Int)))) H2 R)
    (q : ∀ L acc H', H1 L = none → Same H1 H' → H' L = some (.lst acc) → PL (O L H') acc ((List.range n).map f) → Q (.ref L) H') : LcW (Itr 0 n) (gName j) tYes te [j] σ Q H1 := by
  refine w_lcGenD KO n (fun i x _ => x = .int (i : Int)) (fun _ => true) f hn (fun i H' h e => h) (fun H' e => Nat.le_refl _) (fun i H' x H2 h e hy => ?_) (fun i x H2 Re Rn h e it _ ⟨D, zs, _, hD, re⟩ => ?_) fun L acc H' nL e hL ps => q L acc H' nL e hL ?_
  · obtain ⟨rfl, rfl⟩ := hy
    exact ⟨Same.refl _, by rw [Int.zero_add]⟩
  · subst it
    refine w_gn ⟨?_, w_yes (w_iteT rfl (step i H2 Re D zs h e hD fun u H' e' o => re rfl u H' e' o))⟩
    show ((σ.set j none).set j _).set j none = σ.set j none
    rw [List.set_set, List.set_set]
  · rw [List.filter_eq_self.mpr fun _ _ => rfl] at ps
    exact ps
def RowD (D : Addr) : Hp → V → List Bool → Prop := fun H v bs => ∃ r, v = .ref r ∧ r ≠ D ∧ H r = some (.lst (bs.map V.bl))
theorem kept_RowD (D : Addr) : KeptD D (RowD D) := ⟨fun ⟨r, a, n, b⟩ e => ⟨r, a, n, e _ _ b⟩, fun ⟨r, a, n, b⟩ _ f => ⟨r, a, n, f _ _ n b⟩⟩
/-- over a list -/
theorem w_lcG {β : Type} {K : PySem.W.Frag} {O : Hp → V → β → Prop} (KO : Kept O) {g : TG} {tt : TT} {te : TE} {σ : L2.St} {Q : VK} {H1 : Hp} {vs : List Nat} {a : Addr} {rs : List V} (cond : Nat → Bool) (f : Nat → β) (ha : SqL K H1 a rs) (hn : rs.length ≤ 1000)
    (body : ∀ (i : Nat) x H2 (Re : VK) (Rn : Hp → Prop), rs[i]? = some x → Same H1 H2 → (cond i = false → ∀ H', Same H2 H' → Rn H') → (cond i = true → ∀ u H', Same H2 H' → O H' u (f i) → Re u H') →
      g x (wipe σ vs) H2 fun σ2 H3 => wipe σ2 vs = wipe σ vs ∧ tt σ2 H3 fun b H4 => if b = true then te σ2 H4 Re else Rn H4)
    (q : ∀ L acc H', H1 L = none → Same H1 H' → H' L = some (.lst acc) → PL (O H') acc (((List.range rs.length).filter cond).map f) → Q (.ref L) H') : LcW (Itl K a) g tt te vs σ Q H1 := by
  have gt : ∀ i, i < rs.length → rs[i]? = some (rs.getD i .non) := fun i h => by rw [List.getD_eq_getElem?_getD, List.getElem?_eq_getElem h]; rfl
  refine w_lcGen KO rs.length (fun i x H2 => rs[i]? = some x) cond f hn (fun i H' h e => ⟨rs, _, e.seq ha, gt i h⟩) (fun H' e => ⟨rs, e.seq ha, Nat.le_refl _⟩) (fun i H' x H2 h e hy => ?_) (fun i x H2 Re Rn h e it => body i x H2 Re Rn it e) q
  obtain ⟨rfl, hx⟩ := hy
  exact ⟨Same.refl _, hx _ (e.seq ha)⟩
/-- over the items of a list, from the last one on -/
theorem w_lcRev {β : Type} {K : PySem.W.Frag} {O : Hp → V → β → Prop} (KO : Kept O) {g : TG} {tt : TT} {te : TE} {σ : L2.St} {Q : VK} {H1 : Hp} {vs : List Nat} {a : Addr} {rs : List V} (cond : Nat → Bool) (f : Nat → β) (ha : SqL K H1 a rs) (hn : rs.length ≤ 1000)
    (body : ∀ (i : Nat) x H2 (Re : VK) (Rn : Hp → Prop), i < rs.length → rs[rs.length - 1 - i]? = some x → Same H1 H2 → (cond i = false → ∀ H', Same H2 H' → Rn H') → (cond i = true → ∀ u H', Same H2 H' → O H' u (f i) → Re u H') →
      g x (wipe σ vs) H2 fun σ2 H3 => wipe σ2 vs = wipe σ vs ∧ tt σ2 H3 fun b H4 => if b = true then te σ2 H4 Re else Rn H4)
    (q : ∀ L acc H', H1 L = none → Same H1 H' → H' L = some (.lst acc) → PL (O H') acc (((List.range rs.length).filter cond).map f) → Q (.ref L) H') : LcW (Itv K a rs.length) g tt te vs σ Q H1 := by
  have gt : ∀ i, i < rs.length → rs[i]? = some (rs.getD i .non) := fun i h => by rw [List.getD_eq_getElem?_getD, List.getElem?_eq_getElem h]; rfl
  refine w_lcGen KO rs.length (fun i x H2 => rs[rs.length - 1 - i]? = some x) cond f hn (fun i H' h e => ⟨h, rs, _, e.seq ha, gt _ (by omega)⟩) (fun H' e => Nat.le_refl _) (fun i H' x H2 h e hy => ?_) (fun i x H2 Re Rn h e it => body i x H2 Re Rn h it e) q
  obtain ⟨rfl, hx⟩ := hy
  exact ⟨Same.refl _, hx _ (e.seq ha)⟩
/-- over two lists of one length, side by side -/
theorem w_lcZip {β : Type} {K : PySem.W.Frag} {O : Hp → V → β → Prop} (KO : Kept O) {g : TG} {tt : TT} {te : TE} {σ : L2.St} {Q : VK} {H1 : Hp} {vs : List Nat} {a b : Addr} {rs ss : List V} (cond : Nat → Bool) (f : Nat → β) (ha : SqL K H1 a rs) (hb : SqL K H1 b ss) (hl : rs.length = ss.length) (hn : rs.length ≤ 1000)
    (body : ∀ (i : Nat) T x y H2 (Re : VK) (Rn : Hp → Prop), rs[i]? = some x → ss[i]? = some y → H2 T = some (.tup [x, y]) → Same H1 H2 → (cond i = false → ∀ H', Same H2 H' → Rn H') → (cond i = true → ∀ u H', Same H2 H' → O H' u (f i) → Re u H') →
      g (.ref T) (wipe σ vs) H2 fun σ2 H3 => wipe σ2 vs = wipe σ vs ∧ tt σ2 H3 fun b H4 => if b = true then te σ2 H4 Re else Rn H4)
    (q : ∀ L acc H', H1 L = none → Same H1 H' → H' L = some (.lst acc) → PL (O H') acc (((List.range rs.length).filter cond).map f) → Q (.ref L) H') : LcW (Itz K a b) g tt te vs σ Q H1 := by
  have gt : ∀ (rs : List V) i, i < rs.length → rs[i]? = some (rs.getD i .non) := fun rs i h => by rw [List.getD_eq_getElem?_getD, List.getElem?_eq_getElem h]; rfl
  refine w_lcGen KO rs.length (fun i v H2 => ∃ T x y, v = .ref T ∧ rs[i]? = some x ∧ ss[i]? = some y ∧ H2 T = some (.tup [x, y])) cond f hn (fun i H' h e => ⟨rs, ss, _, _, e.seq ha, e.seq hb, gt rs i h, gt ss i (by omega)⟩) (fun H' e => ⟨rs, ss, e.seq ha, e.seq hb, .inl (Nat.le_refl _)⟩) (fun i H' v H2 h e hy => ?_) (fun i v H2 Re Rn h e it => ?_) q
  · obtain ⟨T, x, y, rfl, nT, rfl, hx, hy⟩ := hy
    exact ⟨same_new nT, T, x, y, rfl, hx _ (e.seq ha), hy _ (e.seq hb), upd_same⟩
  · obtain ⟨T, x, y, rfl, hx, hy, hT⟩ := it
    exact body i T x y H2 Re Rn hx hy hT e
section
variable {X : Cx} {K : PySem.W.Frag}
theorem pi_zipK {e e2 : Expr} {ta : TA} {p pos tpos : Pos} {elts : List Expr} {kk : Nat} (hK : X.K = K) (hg : Gl X "zip") (hm : X.mg "zip" = none) (ha : PA X [e, e2] ta)
    (hs : starEach [e, e2] X.env = (false, eval e X.env) :: starEach [e2] X.env := by rfl) (hpl : (backTo pos (starEach [e2] X.env)).any (·.1) = false := by rfl) :
    PI X (.Tuple elts kk tpos) (.Call (.Name "zip" p) [e, e2] [] pos) (iZip K ta) := by rw [← hK]; exact pi_zip hg hm ha hs hpl
theorem pi_revK {tg e : Expr} {ta : TA} {p pos : Pos} (hK : X.K = K) (hg : Gl X "reversed") (hm : X.mg "reversed" = none) (ha : PA X [e] ta) (hs : starEach [e] X.env = [(false, eval e X.env)] := by rfl) : PI X tg (.Call (.Name "reversed" p) [e] [] pos) (iRev K ta) := by
  rw [← hK]; exact pi_reversed hg hm ha hs
end
end G
namespace G
open PySem PySem.Spec PyProof.Rows L2
def T2 (H : Hp) (v : V) (x : Int × Int) : Prop := ∃ r, v = .ref r ∧ H r = some (.tup [.int x.1, .int x.2])
theorem kept_T2 : Kept T2 := ⟨fun ⟨r, a, b⟩ e => ⟨r, a, e _ _ b⟩, fun ⟨r, a, b⟩ hL f => ⟨r, a, f _ _ (ne_of b hL (by intro z; cases z)) b⟩⟩
theorem filter_yes (n : Nat) : (List.range n).filter (fun _ => true) = List.range n := List.filter_eq_self.mpr fun _ _ => rfl
theorem rev_range {β : Type} (g : Nat → β) (m : Nat) : (List.range m).map (fun i => g (m - 1 - i)) = ((List.range m).map g).reverse := by
  refine List.ext_getElem (by simp) fun i h1 h2 => ?_
  simp only [List.length_map, List.length_range] at h1
  rw [List.getElem_reverse]
  simp only [List.getElem_map, List.getElem_range, List.length_map, List.length_range]
/-- volumes of at least two drops -/
structure Vol (H : Hp) (a : Addr) (ns : List Int) : Prop where
  at_ : H a = some (.lst (ns.map V.int))
  pos : 1 ≤ ns.length
  few : ns.length ≤ 8
  bd : ∀ n ∈ ns, 2 ≤ n ∧ n ≤ 1000000
theorem Vol.same {H H' : Hp} {a : Addr} {ns : List Int} (h : Vol H a ns) (e : Same H H') : Vol H' a ns := ⟨e _ _ h.at_, h.pos, h.few, h.bd⟩
def spVol : Sp := fun vs H Q _ => ∃ a ns, vs = [.ref a] ∧ Vol H a ns ∧ ∀ H', Same H H' → Q (.bl true) H'
def spChkV : Sp := fun vs H Q _ => ∃ a ns, vs = [.ref a] ∧ Vol H a ns ∧ ∀ H', Same H H' → Q .non H'
def spFew : Sp := fun vs H Q _ => ∃ n, vs = [.int n] ∧ 1 ≤ n ∧ n ≤ 8 ∧ Q (.int (2 * n - 2)) H
def spPlan : Sp := fun vs H Q _ => ∃ a ns, vs = [.ref a] ∧ Vol H a ns ∧ ∀ l xs H', H l = none → Same H H' → H' l = some (.lst xs) → Ts H' xs (pln ns.length) → Q (.ref l) H'
end G
namespace G
open PySem PySem.Spec PyProof.Rows L2
theorem w_iRev {K : PySem.W.Frag} {ta : TA} {σ : L2.St} {H : Hp} {R : It → Hp → Prop} (q : ta σ H fun vs H1 => ∃ (a : Addr) (xs : List V), vs = [.ref a] ∧ SqL K H1 a xs ∧ R (Itv K a xs.length) H1) : iRev K ta σ H R := q
theorem w_iZip {K : PySem.W.Frag} {ta : TA} {σ : L2.St} {H : Hp} {R : It → Hp → Prop} (q : ta σ H fun vs H1 => ∃ a b xs ys, vs = [.ref a, .ref b] ∧ SqL K H1 a xs ∧ SqL K H1 b ys ∧ R (Itz K a b) H1) : iZip K ta σ H R := q
end G
namespace G
open PySem PySem.Spec PyProof.Rows L2
theorem Fr.seq {K : PySem.W.Frag} {H H' : Hp} {a c : Addr} {xs : List V} (f : Fr a H H') (n : c ≠ a) (h : SqL K H c xs) : SqL K H' c xs := by
  rcases h with (h | ⟨o, h⟩) | h
  · exact .inl (.inl (f _ _ n h))
  · exact .inl (.inr ⟨o, f _ _ n h⟩)
  · exact .inr h
/-- _law_vols: one to eight numbers from 1 to a million -/
def spVols (K : PySem.W.Frag) : Sp := fun vs H Q _ => ∃ (a c : Addr) (b : Nat) (ns : List Int), vs = [.ref a, .ref c] ∧ Src b H a ∧ b + 200 < 2 ^ 60 ∧ (∀ H', Fr a H H' → SqL K H' c (ns.map V.int)) ∧
  ∀ (l : Addr) (ms : List Int) (H' : Hp), H l = none → H' l = some (.lst (ms.map V.int)) → 1 ≤ ms.length → ms.length ≤ 8 → (∀ m ∈ ms, 1 ≤ m ∧ m ≤ 1000000) → Src (b + 60) H' a → Fr a H H' → Q (.ref l) H'
end G
namespace G
open PySem PySem.Spec PyProof.Rows L2
/-- a list of bools -/
def Row (H : Hp) (v : V) (bs : List Bool) : Prop := ∃ r, v = .ref r ∧ H r = some (.lst (bs.map V.bl))
theorem Row.same {H H' : Hp} {v : V} {bs : List Bool} (h : Row H v bs) (e : Same H H') : Row H' v bs := let ⟨r, a, b⟩ := h; ⟨r, a, e _ _ b⟩
/-- a row that is not the list at L -/
def RowN (L : Addr) (H : Hp) (v : V) (bs : List Bool) : Prop := ∃ r, v = .ref r ∧ r ≠ L ∧ H r = some (.lst (bs.map V.bl))
def Tab (H : Hp) (a : Addr) (rs : List (List Bool)) : Prop := ∃ vs, H a = some (.lst vs) ∧ PL (Row H) vs rs
theorem Tab.same {H H' : Hp} {a : Addr} {rs : List (List Bool)} (h : Tab H a rs) (e : Same H H') : Tab H' a rs := let ⟨vs, b, c⟩ := h; ⟨vs, e _ _ b, c.imp fun _ _ o => o.same e⟩
/-- vessels below n -/
def Bel (n : Nat) (x : Tr) : Prop := 0 ≤ x.1 ∧ x.1 < n ∧ 0 ≤ x.2.1 ∧ x.2.1 < n
def spSpread : Sp := fun vs H Q _ => ∃ (n : Nat) (l : Addr) (xs : List V) (ts : List Tr), vs = [.int (n : Int), .ref l] ∧ n ≤ 8 ∧ H l = some (.lst xs) ∧ Ts H xs ts ∧ (∀ x ∈ ts, Bel n x) ∧ ts.length ≤ 24 ∧
  ∀ f ws z H', H f = none → Same H H' → H' f = some (.lst (ws ++ [.ref z])) → Tab H' z (mrk n ts) → Q (.ref f) H'
end G
namespace G
open PySem PySem.Spec PyProof.Rows L2
theorem Row.fr {H H' : Hp} {F : Addr} {ws : List V} {z : Addr} {v : V} {bs : List Bool} (h : Row H v bs) (hF : H F = some (.lst (ws ++ [.ref z]))) (f : Fr F H H') : Row H' v bs := by
  obtain ⟨r, a, b⟩ := h
  refine ⟨r, a, f _ _ (ne_of b hF fun e => ?_) b⟩
  have e' : bs.map V.bl = ws ++ [.ref z] := HO.lst.inj e
  have m : V.ref z ∈ bs.map V.bl := by rw [e']; exact List.mem_append_right _ (List.mem_singleton.mpr rfl)
  obtain ⟨b, _, hb⟩ := List.mem_map.mp m
  cases hb
theorem Row.fr' {H H' : Hp} {L : Addr} {zs : List V} {v : V} {bs : List Bool} (h : Row H v bs) (hL : H L = some (.lst zs)) (n : v ≠ .ref L) (f : Fr L H H') : Row H' v bs := by
  obtain ⟨r, rfl, b⟩ := h
  exact ⟨r, rfl, f _ _ (fun e => n (by rw [e])) b⟩
end G
namespace G
open PySem PySem.Spec PyProof.Rows L2
/-- for over a list, any target -/
theorem w_walkG {σ : L2.St} {H : Hp} {K : PySem.W.Frag} {D : Ends} {a : Addr} {tb : TS} {g : TG} {xs : List V} (hl : SqL K H a xs) (Pv : Nat → L2.St → Hp → Prop) (h0 : Pv 0 σ H) (hk : ∀ i σ' H', i ≤ xs.length → Pv i σ' H' → SqL K H' a xs)
    (hs : ∀ (i : Nat) x σ' H', xs[i]? = some x → Pv i σ' H' → g x σ' H' fun σ2 H2 => tb { nx := Pv (i + 1), rt := D.rt, ct := Pv (i + 1), bk := D.nx } σ2 H2) (hd : ∀ σ' H', Pv xs.length σ' H' → D.nx σ' H') :
    ∃ b, V.ref a = .ref b ∧ (∃ xs, SqL K H b xs) ∧ ForW (Itl K b) g tb D σ H := ⟨a, rfl, ⟨_, hl⟩, for_list Pv h0 hk hs hd⟩
/-! ### the table's size -/
def Sq (n : Nat) (M : List (List Bool)) : Prop := M.length = n ∧ ∀ r ∈ M, r.length = n
theorem sq0 (n : Nat) : Sq n (mrk0 n) := by
  unfold mrk0
  refine ⟨by rw [List.length_map, List.length_range], fun r hr => ?_⟩
  obtain ⟨s, _, rfl⟩ := List.mem_map.mp hr
  rw [List.length_map, List.length_range]
theorem sq1 {n : Nat} {M : List (List Bool)} {x : Tr} (h : Sq n M) (b : Bel n x) : Sq n (mrk1 M x) := by
  obtain ⟨a0, a1, b0, b1⟩ := b
  have tl : x.2.1.toNat < M.length := by rw [h.1]; omega
  have gl : x.1.toNat < M.length := by rw [h.1]; omega
  unfold mrk1
  constructor
  · simp only [List.length_append, List.length_take, List.length_drop, List.length_cons, List.length_nil]
    have := h.1
    omega
  · intro r hr
    rcases List.mem_append.mp hr with hr | hr
    · rcases List.mem_append.mp hr with hr | hr
      · exact h.2 r (List.mem_of_mem_take hr)
      · rw [List.mem_singleton.mp hr, List.length_zipWith, List.getD_eq_getElem?_getD, List.getD_eq_getElem?_getD, List.getElem?_eq_getElem tl, List.getElem?_eq_getElem gl]
        have h1 := h.2 _ (List.getElem_mem tl)
        have h2 := h.2 _ (List.getElem_mem gl)
        show min (M[x.2.1.toNat]'tl).length (M[x.1.toNat]'gl).length = n
        omega
    · exact h.2 r (List.mem_of_mem_drop hr)
theorem sqk {n : Nat} : ∀ {ts : List Tr}, (∀ x ∈ ts, Bel n x) → ∀ k, Sq n (mrk n (ts.take k)) := fun {ts} h k => by
  unfold mrk
  have : ∀ (us : List Tr) (M : List (List Bool)), Sq n M → (∀ x ∈ us, Bel n x) → Sq n (us.foldl mrk1 M) := by
    intro us
    induction us with
    | nil => exact fun M s _ => s
    | cons u us ih => exact fun M s b => ih _ (sq1 s (b u (List.mem_cons_self ..))) fun x hx => b x (List.mem_cons_of_mem _ hx)
  exact this _ _ (sq0 n) fun x hx => h x (List.mem_of_mem_take hx)
theorem mrk_succ {n k : Nat} {ts : List Tr} {x : Tr} (h : ts[k]? = some x) : mrk n (ts.take (k + 1)) = mrk1 (mrk n (ts.take k)) x := by
  unfold mrk
  rw [take_snoc h, List.foldl_append]
  rfl
end G
namespace G
open PySem PySem.Spec PyProof.Rows L2
theorem PL.drop {β : Type} {O : V → β → Prop} {vs : List V} {ys : List β} (h : PL O vs ys) : ∀ k, PL O (vs.drop k) (ys.drop k) := by
  induction h with
  | nil => intro k; rw [List.drop_nil, List.drop_nil]; exact .nil
  | cons a t ih =>
    intro k
    cases k with
    | zero => exact .cons a t
    | succ k => exact ih k
theorem zip_row {rt rg : List Bool} (h : rt.length = rg.length) : (List.range rt.length).map (fun i => rt.getD i false || rg.getD i false) = List.zipWith (fun a b => a || b) rt rg := by
  refine List.ext_getElem (by rw [List.length_map, List.length_range, List.length_zipWith]; omega) fun i h1 h2 => ?_
  rw [List.length_map, List.length_range] at h1
  rw [List.getElem_zipWith, List.getElem_map, List.getElem_range, List.getD_eq_getElem?_getD, List.getD_eq_getElem?_getD, List.getElem?_eq_getElem h1, List.getElem?_eq_getElem (h ▸ h1)]
  rfl
theorem mrk1_at {M : List (List Bool)} {y : Tr} {ti gi : Nat} {rt rg : List Bool} (ht : y.2.1 = (ti : Int)) (hg : y.1 = (gi : Int)) (h1 : M[ti]? = some rt) (h2 : M[gi]? = some rg) :
    mrk1 M y = M.take ti ++ [List.zipWith (fun a b => a || b) rt rg] ++ M.drop (ti + 1) := by
  unfold mrk1
  rw [ht, hg, Int.toNat_natCast, Int.toNat_natCast, List.getD_eq_getElem?_getD, List.getD_eq_getElem?_getD, h1, h2]
  rfl
end G
namespace G
open PySem PySem.Spec PyProof.Rows L2
/-- over a tuple, nothing taken -/
theorem w_lcNoT {K : PySem.W.Frag} {g : TG} {tt : TT} {te : TE} {σ : L2.St} {Q : VK} {H1 : Hp} {vs : List Nat} {a : Addr} {rs : List V} (ha : SqT K H1 a rs) (hn : rs.length ≤ 1000)
    (body : ∀ (i : Nat) x H2 (Re : VK) (Rn : Hp → Prop), rs[i]? = some x → Same H1 H2 → (∀ H', Same H2 H' → Rn H') →
      g x (wipe σ vs) H2 fun σ2 H3 => wipe σ2 vs = wipe σ vs ∧ tt σ2 H3 fun b H4 => if b = true then te σ2 H4 Re else Rn H4)
    (q : ∀ L H', H1 L = none → Same H1 H' → H' L = some (.lst []) → Q (.ref L) H') : LcW (Itt K a) g tt te vs σ Q H1 := by
  have gt : ∀ i, i < rs.length → rs[i]? = some (rs.getD i .non) := fun i h => by rw [List.getD_eq_getElem?_getD, List.getElem?_eq_getElem h]; rfl
  refine w_lcGen (O := fun _ v (y : V) => v = y) kept_val rs.length (fun i x H2 => rs[i]? = some x) (fun _ => false) (fun _ => V.non) hn (fun i H' h e => ⟨rs, _, Same.seqT e ha, gt i h⟩) (fun H' e => ⟨rs, Same.seqT e ha, Nat.le_refl _⟩) (fun i H' x H2 h e hy => ?_) (fun i x H2 Re Rn h e it rn _ => body i x H2 Re Rn it e (rn rfl)) fun L acc H' nL e hL ps => q L H' nL e ?_
  · obtain ⟨rfl, hx⟩ := hy
    exact ⟨Same.refl _, hx _ (Same.seqT e ha)⟩
  · rw [List.filter_eq_nil_iff.mpr fun _ _ h => by cases h] at ps
    cases ps
    exact hL
def spPoss : Sp := fun vs H Q _ => ∃ (a l : Addr) (ns : List Int) (xs : List V) (ts : List Tr), vs = [.ref a, .ref l] ∧ H a = some (.lst (ns.map V.int)) ∧ ns.length ≤ 8 ∧ H l = some (.lst xs) ∧ Ts H xs ts ∧ ts.length ≤ 24 ∧ psb ns ts = true ∧ ∀ H', Same H H' → Q (.bl true) H'
theorem vol1_len {ns : List Int} {x : Tr} : (vol1 ns x).length = ns.length := by
  unfold vol1
  rw [List.length_set, List.length_set]
theorem nil_nil : PyData.eqv (.list []) (.list []) = true := by simp only [PyData.eqv, PyData.eqvAll]
theorem sh_nil : SeqAt.shaped (.list []) = true := shaped_ints []
theorem map_set' {ns : List Int} {k : Nat} {z : Int} : (ns.map V.int).set k (.int z) = (ns.set k z).map V.int := by
  rw [List.map_set]
theorem getD_int {ns : List Int} {k : Nat} (h : k < ns.length) : (ns.map V.int)[k]? = some (.int (ns.getD k 0)) := by
  rw [List.getElem?_map, List.getD_eq_getElem?_getD, List.getElem?_eq_getElem h]
  rfl
end G
namespace G
open PySem PySem.Spec PyProof.Rows L2
theorem call_isiK {X : Cx} {K : PySem.W.Frag} (hK : X.K = K) : CallR X (.builtin "isinstance") (rIsi K) := by rw [← hK]; exact call_isi
end G
namespace G
open PySem PySem.Spec PyProof.Rows L2
theorem w_chn {r r' : R2} {ta tb tc : TE} {σ : L2.St} {H : Hp} {Q : VK} (q : ta σ H fun x H1 => tb σ H1 fun y H2 => r x y H2 fun z H3 => ∃ k, z = .bl k ∧ (if k = true then tc σ H3 fun w' H4 => r' y w' H4 Q else Q (.bl false) H3)) : tChain r r' ta tb tc σ H Q := q
end G
namespace G
open PySem PySem.Spec PyProof.Rows L2
theorem op_inK {X : Cx} {K : PySem.W.Frag} (hK : X.K = K) : OpR X (compareOp .In) (rIn K false) := by rw [← hK]; exact op_in_seq
theorem dp_vol {K : PySem.W.Frag} {H : Hp} {a : Addr} {ns : List Int} (h : Vol H a ns) : Dp K H (.ref a) (.list (ns.map .int)) := dp_ints (SqL.of h.at_)
theorem w_reprV {K : PySem.W.Frag} {H : Hp} {Q : VK} {a : Addr} {ns : List Int} (h : Vol H a ns) (q : Q (.str (PyData.list (ns.map .int)).shown) H) : rRepr K [.ref a] H Q := by
  have big : (2000000 : Nat) < 2 ^ 1900 := by decide +kernel
  refine w_repr (dp_vol h) (lim_list fun d hd => ?_) q (decide_eq_true ?_) (decide_eq_true ?_)
  · obtain ⟨n, hn, rfl⟩ := List.mem_map.mp hd
    have := h.bd n hn
    simp only [lim]
    exact Nat.lt_trans (by omega : n.natAbs < 2000000) big
  · simp only [cnt]
    have := cntAll_le (m := 1) (ds := ns.map PyData.int) fun d hd => by
      obtain ⟨n, _, rfl⟩ := List.mem_map.mp hd
      simp only [cnt]
      omega
    rw [List.length_map] at this
    have := h.few
    omega
  · have := depthAll_le (m := 0) (ds := ns.map PyData.int) fun d hd => by
      obtain ⟨n, _, rfl⟩ := List.mem_map.mp hd
      simp only [PyData.depth]
      omega
    simp only [PyData.depth]
    omega
def gdB (x : Tr) : Bool := decide (0 ≤ x.1 ∧ x.1 < 8 ∧ 0 ≤ x.2.1 ∧ x.2.1 < 8 ∧ 1 ≤ x.2.2 ∧ x.2.2 ≤ 1000000 ∧ x.1 ≠ x.2.1)
theorem gdB_all : ((List.range 9).all fun n => (pln n).all gdB) = true := by decide +kernel
theorem pln_gd {n : Nat} (h : n ≤ 8) : ∀ x ∈ pln n, Gd x := fun x hx => by
  have := List.all_eq_true.mp (List.all_eq_true.mp gdB_all n (List.mem_range.mpr (by omega))) x hx
  obtain ⟨a, b, c, d, e, f, g⟩ := of_decide_eq_true this
  exact ⟨⟨a, b⟩, ⟨c, d⟩, ⟨e, f⟩, g⟩
theorem pln_len (n : Nat) : (pln n).length = (n - 1) + (n - 1) := by
  unfold pln
  rw [List.length_append, List.length_reverse, List.length_map, List.length_map, List.length_range]
def belB (n : Nat) (x : Tr) : Bool := decide (0 ≤ x.1 ∧ x.1 < n ∧ 0 ≤ x.2.1 ∧ x.2.1 < n ∧ x.2.2 = 1)
theorem belB_all : ((List.range 9).all fun n => (pln n).all (belB n)) = true := by decide +kernel
theorem pln_bel {n : Nat} (h : n ≤ 8) : ∀ x ∈ pln n, Bel n x ∧ x.2.2 = 1 := fun x hx => by
  have := List.all_eq_true.mp (List.all_eq_true.mp belB_all n (List.mem_range.mpr (by omega))) x hx
  obtain ⟨a, b, c, d, e⟩ := of_decide_eq_true this
  exact ⟨⟨a, b, c, d⟩, e⟩
theorem at_last {ws : List V} {z : V} : atI (ws ++ [z]) (-1) = some z := by
  unfold atI ixN
  rw [if_neg (by decide), List.length_append, List.length_singleton, if_pos (by omega), show ((-1 : Int) + ((ws.length + 1 : Nat) : Int)).toNat = ws.length by omega]
  show (ws ++ [z])[ws.length]? = some z
  rw [List.getElem?_append_right (Nat.le_refl _), Nat.sub_self]
  rfl
theorem in_bl {bs : List Bool} : inV (.bl false) (bs.map V.bl) = bs.any not := by
  unfold inV
  rw [List.any_map]
  congr 1
  funext c
  cases c <;> rfl
theorem flat_bl {bs : List Bool} : (bs.map V.bl).all flatV = true := by
  rw [List.all_map]
  exact List.all_eq_true.mpr fun _ _ => rfl
def spRightV : Sp := fun vs H Q _ => ∃ a ns, vs = [.ref a] ∧ Vol H a ns ∧ ∀ H', Same H H' → Q (.bl true) H'
end G
namespace G
open PySem PySem.Spec PyProof.Rows L2
theorem w_eqSS {K : PySem.W.Frag} {H : Hp} {Q : VK} {a b : Addr} {x : Str} (ha : SqL K H a [.str x, .str x]) (hb : SqL K H b [.str x, .str x]) (q : Q (.bl true) H) : L2.rEqV K (.ref a) (.ref b) H Q :=
  ⟨1, by decide, .inl ⟨a, b, _, _, rfl, rfl, ha, hb, .cons (.inl ⟨rfl, rfl⟩) (.cons (.inl ⟨rfl, rfl⟩) .nil)⟩, q⟩
end G
namespace G
open PySem PySem.Spec PyProof.Rows L2
/-- over a list, where the values are lists -/
theorem w_lcGD {β : Type} {K : PySem.W.Frag} {O : Addr → Hp → V → β → Prop} (KO : ∀ D, KeptD D (O D)) {g : TG} {tt : TT} {te : TE} {σ : L2.St} {Q : VK} {H1 : Hp} {vs : List Nat} {a : Addr} {rs : List V} (cond : Nat → Bool) (f : Nat → β) (ha : SqL K H1 a rs) (hn : rs.length ≤ 1000)
    (body : ∀ (i : Nat) x H2 (Re : VK) (Rn : Hp → Prop), rs[i]? = some x → Same H1 H2 → (cond i = false → ∀ H', Same H2 H' → Rn H') → (∃ D zs, H1 D = none ∧ H2 D = some (.lst zs) ∧ (cond i = true → ∀ u H', Same H2 H' → O D H' u (f i) → Re u H')) →
      g x (wipe σ vs) H2 fun σ2 H3 => wipe σ2 vs = wipe σ vs ∧ tt σ2 H3 fun b H4 => if b = true then te σ2 H4 Re else Rn H4)
    (q : ∀ L acc H', H1 L = none → Same H1 H' → H' L = some (.lst acc) → PL (O L H') acc (((List.range rs.length).filter cond).map f) → Q (.ref L) H') : LcW (Itl K a) g tt te vs σ Q H1 := by
  have gt : ∀ i, i < rs.length → rs[i]? = some (rs.getD i .non) := fun i h => by rw [List.getD_eq_getElem?_getD, List.getElem?_eq_getElem h]; rfl
  refine w_lcGenD KO rs.length (fun i x H2 => rs[i]? = some x) cond f hn (fun i H' h e => ⟨rs, _, e.seq ha, gt i h⟩) (fun H' e => ⟨rs, e.seq ha, Nat.le_refl _⟩) (fun i H' x H2 h e hy => ?_) (fun i x H2 Re Rn h e it => body i x H2 Re Rn it e) q
  obtain ⟨rfl, hx⟩ := hy
  exact ⟨Same.refl _, hx _ (e.seq ha)⟩
/-- a list of transfers, as a value -/
def LnV (H : Hp) (v : V) (ts : List Tr) : Prop := ∃ l xs, v = .ref l ∧ H l = some (.lst xs) ∧ Ts H xs ts
def LnD (D : Addr) (H : Hp) (v : V) (ts : List Tr) : Prop := ∃ l xs, v = .ref l ∧ l ≠ D ∧ H l = some (.lst xs) ∧ Ts H xs ts
theorem LnV.same {H H' : Hp} {v : V} {ts : List Tr} (h : LnV H v ts) (e : Same H H') : LnV H' v ts := let ⟨l, xs, a, b, c⟩ := h; ⟨l, xs, a, e _ _ b, Ts.same c e⟩
theorem LnD.fr {D : Addr} {H H' : Hp} {zs : List V} {v : V} {ts : List Tr} (h : LnD D H v ts) (hD : H D = some (.lst zs)) (f : Fr D H H') : LnD D H' v ts := let ⟨l, xs, a, n, b, c⟩ := h; ⟨l, xs, a, n, f _ _ n b, Ts.fr c hD f⟩
theorem kept_LnD (D : Addr) : KeptD D (LnD D) := ⟨fun ⟨l, xs, a, n, b, c⟩ e => ⟨l, xs, a, n, e _ _ b, Ts.same c e⟩, fun h hD f => h.fr hD f⟩
theorem LnD.v {D : Addr} {H : Hp} {v : V} {ts : List Tr} (h : LnD D H v ts) : LnV H v ts := let ⟨l, xs, a, _, b, c⟩ := h; ⟨l, xs, a, b, c⟩
end G
namespace G
open PySem PySem.Spec PyProof.Rows L2
def spShort : Sp := fun vs H Q _ => ∃ n : Nat, vs = [.int (n : Int)] ∧ 2 ≤ n ∧ n ≤ 3 ∧ (∀ k, 1 ≤ k → k ≤ 2 * n - 3 → short n k = true) ∧ ∀ H', Same H H' → Q (.bl true) H'
end G
namespace G
open PySem PySem.Spec PyProof.Rows L2
theorem op_eqDK {X : Cx} {K : PySem.W.Frag} (hK : X.K = K) (hu : X.A.units + 64 < cLine) : OpR X (compareOp .Eq) (rEqD K) := by rw [← hK]; exact op_eqD hu
end G
namespace G
open PySem PySem.Spec PyProof.Rows L2
theorem op_catLK {X : Cx} {K : PySem.W.Frag} (hK : X.K = K) : OpR X (binaryOp .Add) (rCatL K) := by rw [← hK]; exact op_catL
end G
namespace G
open PySem PySem.Spec PyProof.Rows L2
/-- over range(lo, ..) -/
theorem w_lcRange2 {β : Type} {O : Hp → V → β → Prop} (KO : Kept O) {te : TE} {σ : L2.St} {Q : VK} {H1 : Hp} {j n : Nat} {lo : Int} (f : Nat → β) (hn : n ≤ 1000)
    (step : ∀ (k : Nat) H2 (R : VK), k < n → Same H1 H2 → (∀ u H', Same H2 H' → O H' u (f k) → R u H') → te ((σ.set j none).set j (some (.int (lo + (k : Int))))) H2 R)
    (q : ∀ L acc H', H1 L = none → Same H1 H' → H' L = some (.lst acc) → PL (O H') acc ((List.range n).map f) → Q (.ref L) H') : LcW (Itr lo n) (gName j) tYes te [j] σ Q H1 := by
  refine w_lcGen KO n (fun i x _ => x = .int (lo + (i : Int))) (fun _ => true) f hn (fun i H' h e => h) (fun H' e => Nat.le_refl _) (fun i H' x H2 h e hy => ?_) (fun i x H2 Re Rn h e it _ re => ?_) fun L acc H' nL e hL ps => q L acc H' nL e hL ?_
  · obtain ⟨rfl, rfl⟩ := hy
    exact ⟨Same.refl _, rfl⟩
  · subst it
    refine w_gn ⟨?_, w_yes (w_iteT rfl (step i H2 Re h e fun u H' e' o => re rfl u H' e' o))⟩
    show ((σ.set j none).set j _).set j none = σ.set j none
    rw [List.set_set, List.set_set]
  · rw [filter_yes] at ps
    exact ps
end G
namespace G
open PySem PySem.Spec PyProof.Rows L2
/-! ### all lists of so many transfers -/
/-- a list of transfers that is not at X, nor at D -/
def LnX (X D : Addr) (H : Hp) (v : V) (ts : List Tr) : Prop := ∃ l xs, v = .ref l ∧ l ≠ X ∧ l ≠ D ∧ H l = some (.lst xs) ∧ Ts H xs ts
theorem kept_LnX (X D : Addr) : KeptD D (LnX X D) := ⟨fun ⟨l, xs, a, m, n, b, c⟩ e => ⟨l, xs, a, m, n, e _ _ b, Ts.same c e⟩, fun ⟨l, xs, a, m, n, b, c⟩ hD f => ⟨l, xs, a, m, n, f _ _ n b, Ts.fr c hD f⟩⟩
theorem LnX.same {X D : Addr} {H H' : Hp} {v : V} {ts : List Tr} (h : LnX X D H v ts) (e : Same H H') : LnX X D H' v ts := let ⟨l, xs, a, m, n, b, c⟩ := h; ⟨l, xs, a, m, n, e _ _ b, Ts.same c e⟩
theorem LnX.d {X D : Addr} {H : Hp} {v : V} {ts : List Tr} (h : LnX X D H v ts) : LnD X H v ts := let ⟨l, xs, a, m, _, b, c⟩ := h; ⟨l, xs, a, m, b, c⟩
theorem LnD.same {D : Addr} {H H' : Hp} {v : V} {ts : List Tr} (h : LnD D H v ts) (e : Same H H') : LnD D H' v ts := let ⟨l, xs, a, n, b, c⟩ := h; ⟨l, xs, a, n, e _ _ b, Ts.same c e⟩
theorem PL.mem {β : Type} {O : V → β → Prop} {vs : List V} {ys : List β} (h : PL O vs ys) : ∀ {v : V}, v ∈ vs → ∃ y ∈ ys, O v y := fun {v} hv => by
  obtain ⟨k, hk⟩ := List.mem_iff_getElem?.mp hv
  obtain ⟨y, hy, o⟩ := h.get hk
  exact ⟨y, List.mem_of_getElem? hy, o⟩
def prK (n i : Nat) : List Tr := (List.range i).flatMap fun g : Nat => (List.range (n - 1)).map fun s : Nat => ((g : Int), (((g : Int) + (1 + (s : Int))) % (n : Int), (1 : Int)))
theorem prK_all (n : Nat) : prK n n = prs n := rfl
theorem prK_succ (n i : Nat) : prK n (i + 1) = prK n i ++ (List.range (n - 1)).map fun s : Nat => ((i : Int), (((i : Int) + (1 + (s : Int))) % (n : Int), (1 : Int))) := by
  unfold prK
  rw [List.range_succ, List.flatMap_append]
  simp
def lnK (n k j : Nat) : List (List Tr) := ((lns n k).take j).flatMap fun l => (prs n).map fun p => l ++ [p]
theorem lnK_all (n k : Nat) : lnK n k (lns n k).length = lns n (k + 1) := by
  unfold lnK
  rw [List.take_length]
  rfl
theorem lnK_succ {n k j : Nat} {l : List Tr} (h : (lns n k)[j]? = some l) : lnK n k (j + 1) = lnK n k j ++ (prs n).map fun p => l ++ [p] := by
  unfold lnK
  rw [take_snoc h, List.flatMap_append]
  simp
theorem map_at {β : Type} (ts : List Tr) (g : Tr → β) : (List.range ts.length).map (fun i => g (ts.getD i t0)) = ts.map g := by
  refine List.ext_getElem (by simp) fun i h1 h2 => ?_
  simp only [List.length_map, List.length_range] at h1
  rw [List.getElem_map, List.getElem_map, List.getElem_range, List.getD_eq_getElem?_getD, List.getElem?_eq_getElem h1]
  rfl
def lnsOk (n k : Nat) : Bool := decide ((lns n k).length ≤ 300) && ((lns n k).all fun l => decide (l.length ≤ 24) && l.all fun x => decide (0 ≤ x.1 ∧ x.1 < n ∧ 0 ≤ x.2.1 ∧ x.2.1 < n))
theorem lnsOk2 : ((List.range 2).all fun k => lnsOk 2 k) = true := by decide +kernel
theorem lnsOk3 : ((List.range 4).all fun k => lnsOk 3 k) = true := by decide +kernel
theorem lns_ok {n k : Nat} (h2 : 2 ≤ n) (h3 : n ≤ 3) (hk : k ≤ 2 * n - 3) : (lns n k).length ≤ 300 ∧ ∀ l ∈ lns n k, l.length ≤ 24 ∧ ∀ x ∈ l, Bel n x := by
  have a : lnsOk n k = true := by
    have c : n = 2 ∨ n = 3 := by omega
    rcases c with rfl | rfl
    · exact List.all_eq_true.mp lnsOk2 k (List.mem_range.mpr (by omega))
    · exact List.all_eq_true.mp lnsOk3 k (List.mem_range.mpr (by omega))
  obtain ⟨b, c⟩ := Bool.and_eq_true_iff.mp a
  refine ⟨of_decide_eq_true b, fun l hl => ?_⟩
  obtain ⟨d, e⟩ := Bool.and_eq_true_iff.mp (List.all_eq_true.mp c l hl)
  exact ⟨of_decide_eq_true d, fun x hx => by
    have w := List.all_eq_true.mp e x hx
    simp only [decide_eq_true_eq] at w
    exact w⟩
theorem prs_len {n : Nat} (h2 : 2 ≤ n) (h3 : n ≤ 3) : (prs n).length ≤ 6 := by
  have c : n = 2 ∨ n = 3 := by omega
  rcases c with rfl | rfl <;> decide
theorem Row.dp {K : PySem.W.Frag} {H : Hp} {v : V} {bs : List Bool} (h : Row H v bs) : Dp K H v (.list (bs.map PyData.bool)) := by
  obtain ⟨r, rfl, h⟩ := h
  refine .lst (SqL.of h) ?_
  clear h
  induction bs with
  | nil => exact .nil
  | cons b bs ih => exact .cons (.bl b) ih
end G
namespace G
open PySem PySem.Spec PyProof.Rows L2
theorem w_iRng2 {ta : TA} {σ : L2.St} {H : Hp} {R : It → Hp → Prop} (q : ta σ H fun vs H1 => ∃ i j : Int, vs = [.int i, .int j] ∧ (-(2 ^ 62) ≤ i ∧ i < 2 ^ 62 ∧ -(2 ^ 62) ≤ j ∧ j < 2 ^ 62) ∧ R (Itr i (j - i).toNat) H1) : iRng2 ta σ H R := q
theorem prK_len (n : Nat) : ∀ i, (prK n i).length = i * (n - 1)
  | 0 => by unfold prK; simp
  | i + 1 => by
    rw [prK_succ, List.length_append, prK_len n i, List.length_map, List.length_range, Nat.add_mul, Nat.one_mul]
def rwD (bs : List Bool) : PyData := .list (bs.map PyData.bool)
def tbD (rs : List (List Bool)) : PyData := .list (rs.map rwD)
theorem rw_lay : ∀ bs : List Bool, PyData.canLayAll0 (bs.map PyData.bool) = true
  | [] => by simp only [List.map_nil, PyData.canLayAll0]
  | b :: bs => by simp only [List.map_cons, PyData.canLayAll0, PyData.canLay0, rw_lay bs, Bool.and_self]
theorem tb_lay : ∀ rs : List (List Bool), PyData.canLayAll0 (rs.map rwD) = true
  | [] => by simp only [List.map_nil, PyData.canLayAll0]
  | r :: rs => by
    simp only [List.map_cons, PyData.canLayAll0, tb_lay rs, Bool.and_true]
    simp only [rwD, PyData.canLay0, rw_lay]
theorem rw_depth (bs : List Bool) : (rwD bs).depth ≤ 1 := by
  have := depthAll_le (m := 0) (ds := bs.map PyData.bool) fun d hd => by
    obtain ⟨n, _, rfl⟩ := List.mem_map.mp hd
    simp only [PyData.depth]
    omega
  simp only [rwD, PyData.depth]
  omega
theorem tb_shaped (rs : List (List Bool)) : SeqAt.shaped (tbD rs) = true := by
  have h2 : (tbD rs).depth ≤ 2 := by
    have := depthAll_le (m := 1) (ds := rs.map rwD) fun d hd => by obtain ⟨x, _, rfl⟩ := List.mem_map.mp hd; exact rw_depth x
    simp only [tbD, PyData.depth]
    omega
  unfold SeqAt.shaped
  have h3 : PyData.canLay0 (tbD rs) = true := by simp only [tbD, PyData.canLay0, tb_lay]
  rw [h3, Bool.true_and]
  exact decide_eq_true (by omega)
theorem tb_nil {rs : List (List Bool)} (h : rs ≠ []) : PyData.eqv (tbD rs) (.list []) = false := by
  cases rs with
  | nil => exact absurd rfl h
  | cons r rs => simp only [tbD, List.map_cons, PyData.eqv, PyData.eqvAll]
theorem RowD.row {D : Addr} {H : Hp} {v : V} {bs : List Bool} (h : RowD D H v bs) : Row H v bs := let ⟨r, a, _, b⟩ := h; ⟨r, a, b⟩
theorem tb_dp {K : PySem.W.Frag} {H : Hp} {a : Addr} {vs : List V} {rs : List (List Bool)} (ha : H a = some (.lst vs)) (h : PL (Row H) vs rs) : Dp K H (.ref a) (tbD rs) := .lst (SqL.of ha) (h.dps fun _ _ o => o.dp)
theorem row_at {M : List (List Bool)} {i : Nat} {r : List Bool} (h : M[i]? = some r) : M.getD i [] = r := by rw [List.getD_eq_getElem?_getD, h]; rfl
theorem rows_some {M : List (List Bool)} (h : M.any (fun r => r.any not) = true) : ((List.range M.length).filter fun i => (M.getD i []).any not).map (fun i => M.getD i []) ≠ [] := by
  obtain ⟨r, hr, hn⟩ := List.any_eq_true.mp h
  obtain ⟨i, hi⟩ := List.mem_iff_getElem?.mp hr
  intro e
  have e := List.filter_eq_nil_iff.mp (List.map_eq_nil_iff.mp e) i (List.mem_range.mpr (List.getElem?_eq_some_iff.mp hi).1)
  rw [row_at hi] at e
  exact e hn
end G
namespace G
open PySem PySem.Spec PyProof.Rows L2
theorem SqL.keep {K : PySem.W.Frag} {H H1 : Hp} {c p : Addr} {xs : List V} (h : SqL K H c xs) (n : H p = none) (e : Same H H1) : ∀ H', Fr p H1 H' → SqL K H' c xs := fun H' f => by
  rcases h with (h | ⟨o, h⟩) | h
  · exact .inl (.inl (f _ _ (ne_of_none h n) (e _ _ h)))
  · exact .inl (.inr ⟨o, f _ _ (ne_of_none h n) (e _ _ h)⟩)
  · exact .inr h
end G
namespace G
open PySem PySem.Spec PyProof.Rows L2
theorem pl_int {vs : List V} {ns : List Int} (h : PL (fun v n => v = V.int n) vs ns) : vs = ns.map V.int := by
  induction h with
  | nil => rfl
  | cons a _ ih => rw [List.map_cons, a, ih]
theorem eqv_ints : ∀ ns : List Int, PyData.eqv (.list (ns.map PyData.int)) (.list (ns.map PyData.int)) = true
  | [] => nil_nil
  | n :: ns => by
    have := eqv_ints ns
    simp only [PyData.eqv] at this
    simp [List.map_cons, PyData.eqv, PyData.eqvAll, this]
end G

/-! What vessels hold: whole numbers over one bottom. -/
namespace G
open PySem PySem.Spec PyProof.Rows L2
section
variable {X : Cx}
/-! ### a range as a value -/
def rRng1 : List V → Hp → VK → Prop := fun vs H Q => ∃ n, vs = [V.int n] ∧ ∀ p H', H p = none → Same H H' → H' p = some (.rng 0 n) → Q (.ref p) H'
theorem cr_rng1 : CallR X (.type "range") rRng1 := by
  intro pins s σ H vs us Q I r h
  obtain ⟨n, rfl, q⟩ := h
  obtain ⟨u, rfl, ru⟩ := r.one
  obtain ⟨t, rfl⟩ := ru
  refine call_range_1 ⟨.ref s.heap.objs.size, upd H s.heap.objs.size (.rng 0 n), I.laid (t' := s.toks + 1 + 1) (fun b o e => Heap.get?_push_of_some _ e) (Nat.le_refl _) ?_, rfl, q _ _ (I.hok.fresh (Nat.le_refl _)) (same_new (I.hok.fresh (Nat.le_refl _))) upd_same⟩
  exact ⟨s.toks, t, s.toks + 1, Heap.get?_push_size _ rfl⟩
def iRngV (te : TE) : TI := fun σ H R => te σ H fun x H1 => ∃ a lo hi, x = .ref a ∧ H1 a = some (.rng lo hi) ∧ (-(2 ^ 62) ≤ lo ∧ lo < 2 ^ 62 ∧ -(2 ^ 62) ≤ hi ∧ hi < 2 ^ 62) ∧ R (Itr lo (hi - lo).toNat) H1
theorem pi_rng {tg l : Expr} {te : TE} (hl : PE X l te) : PI X tg l (iRngV te) := by
  refine ⟨fun pins s σ H R I h => ?_⟩
  refine thn (hl.run pins s σ H _ I h) fun v s1 ⟨x, H1, I1, r1, q1⟩ => ?_
  obtain ⟨a, lo, hi, e, ha, ⟨h1, h2, h3, h4⟩, q⟩ := q1
  subst e
  cases r1
  obtain ⟨t1, t2, t3, ho⟩ := I1.hok a _ ha
  refine wpAny_pyIter_range (t := t1) (u := t2) (v := t3) ho (small_one h1 h2 h3 h4) ?_
  refine ⟨s1.heap.objs.size, [s1.heap.objs.size], _, _, H1, rfl, I1.kept (t' := s1.toks) fun b o e => Heap.get?_push_of_some _ e, turn_range _ lo (hi - lo).toNat, ?_, fun b hb => ?_, q⟩
  · have e1 : lo + ((0 : Nat) : Int) * 1 = lo := by simp
    have e2 : (((hi - lo).toNat : Nat) : Int) - ((0 : Nat) : Int) = Builtin.Range.rangeSize lo hi 1 := by rw [rangeSize_one]; split <;> omega
    show IsRangeIter _ _ (lo + ((0 : Nat) : Int) * 1) ((((hi - lo).toNat : Nat) : Int) - ((0 : Nat) : Int)) 1
    rw [e1, e2]
    exact Heap.get?_push_size _ rfl
  · have e : b = s1.heap.objs.size := by simpa using hb
    subst e
    exact I1.fpOk (Nat.le_refl _) (I1.hok.fresh (Nat.le_refl _))
theorem pi_rngK {K : PySem.W.Frag} {tg l : Expr} {te : TE} (hK : X.K = K) (hl : PE X l te) : PI X tg l (iRngV te) := pi_rng hl
end
theorem w_iRngV {te : TE} {σ : L2.St} {H : Hp} {R : It → Hp → Prop} (q : te σ H fun x H1 => ∃ a lo hi, x = .ref a ∧ H1 a = some (.rng lo hi) ∧ (-(2 ^ 62) ≤ lo ∧ lo < 2 ^ 62 ∧ -(2 ^ 62) ≤ hi ∧ hi < 2 ^ 62) ∧ R (Itr lo (hi - lo).toNat) H1) : iRngV te σ H R := q
/-! ### sums -/
def sm (n : Nat) (f : Nat → Int) : Int := ((List.range n).map f).sum
theorem sm_succ (n : Nat) (f : Nat → Int) : sm (n + 1) f = sm n f + f n := by
  unfold sm
  rw [List.range_succ, List.map_append, List.sum_append]
  simp
theorem sm_zero (f : Nat → Int) : sm 0 f = 0 := rfl
theorem sm_congr {n : Nat} {f g : Nat → Int} (h : ∀ i, i < n → f i = g i) : sm n f = sm n g := by
  unfold sm
  congr 1
  exact List.map_congr_left fun i hi => h i (List.mem_range.mp hi)
theorem sm_add (n : Nat) (f g : Nat → Int) : sm n (fun i => f i + g i) = sm n f + sm n g := by
  induction n with
  | zero => rfl
  | succ n ih => rw [sm_succ, sm_succ, sm_succ, ih]; omega
theorem sm_mul (n : Nat) (c : Int) (f : Nat → Int) : sm n (fun i => c * f i) = c * sm n f := by
  induction n with
  | zero => simp [sm_zero]
  | succ n ih => rw [sm_succ, sm_succ, ih, Int.mul_add]
theorem sm_zeros (n : Nat) : sm n (fun _ => 0) = 0 := by
  induction n with
  | zero => rfl
  | succ n ih => rw [sm_succ, ih]; rfl
theorem sm_one {n g : Nat} (hg : g < n) (c : Int) : sm n (fun i => if i = g then c else 0) = c := by
  induction n with
  | zero => omega
  | succ n ih =>
    rw [sm_succ]
    by_cases e : n = g
    · subst e
      rw [if_pos rfl, show sm n (fun i => if i = n then c else 0) = sm n (fun _ => 0) from sm_congr fun i hi => if_neg (by omega), sm_zeros]
      omega
    · rw [if_neg e, ih (by omega)]
      omega
/-! ### the contents -/
abbrev Mx := Nat → Nat → Int
def mx0 (v : Nat → Int) : Mx := fun i j => if j = i then v i else 0
def mx1 (M : Mx) (own a : Int) (g t : Nat) : Mx := fun i j => if i = g then (own - a) * M g j else own * M i j + (if i = t then a else 0) * M g j
theorem mx1_row {n : Nat} {M : Mx} {D own a : Int} {v : Nat → Int} {g t : Nat} (hg : g < n) (ho : own = v g) (ngt : g ≠ t) (h : ∀ i, i < n → sm n (M i) = D * v i) (i : Nat) (hi : i < n) :
    sm n (mx1 M own a g t i) = D * own * (if i = g then v g - a else if i = t then v t + a else v i) := by
  unfold mx1
  by_cases e : i = g
  · subst e
    simp only [if_true]
    rw [sm_mul, h i hi, ← ho, Int.mul_comm (own - a) (D * own)]
  · simp only [if_neg e]
    rw [sm_add, sm_mul, sm_mul, h i hi, h g hg, ← ho]
    by_cases e2 : i = t
    · subst e2
      simp only [if_true]
      rw [Int.mul_add, ← Int.mul_assoc, Int.mul_comm own D, Int.mul_comm a]
    · simp only [if_neg e2]
      rw [Int.zero_mul, Int.add_zero, ← Int.mul_assoc, Int.mul_comm own D]
theorem mx1_col {n : Nat} {M : Mx} {D own a : Int} {v : Nat → Int} {g t : Nat} (hg : g < n) (ht : t < n) (ngt : g ≠ t) (h : ∀ j, j < n → sm n (fun i => M i j) = D * v j) (j : Nat) (hj : j < n) :
    sm n (fun i => mx1 M own a g t i j) = D * own * v j := by
  have e : sm n (fun i => mx1 M own a g t i j) = sm n (fun i => own * M i j + ((if i = g then -a else 0) * M g j + (if i = t then a else 0) * M g j)) := sm_congr fun i _ => by
    unfold mx1
    by_cases e : i = g
    · subst e
      rw [if_pos rfl, if_pos rfl, if_neg (show i ≠ t from ngt), Int.sub_mul, Int.neg_mul]
      omega
    · rw [if_neg e, if_neg e]
      omega
  rw [e, sm_add, sm_add, sm_mul, h j hj]
  have f : ∀ (c : Int) (k : Nat), k < n → sm n (fun i => (if i = k then c else 0) * M g j) = c * M g j := fun c k hk => by
    rw [show (fun i => (if i = k then c else 0) * M g j) = fun i => if i = k then c * M g j else 0 from funext fun i => by split <;> simp]
    exact sm_one hk _
  rw [f _ _ hg, f _ _ ht, Int.neg_mul, ← Int.mul_assoc, Int.mul_comm own D]
  omega
theorem bt_le {n m : Nat} {x : Int} (h : Bt n x) (k : n ≤ m) : Bt m x := Bt.mono h k
/-- sizes of what is within -/
theorem mx1_bt {M : Mx} {own a : Int} {g t b : Nat} (ho : 0 ≤ own ∧ own < 2 ^ 25) (ha : 0 ≤ a ∧ a ≤ own) (h : ∀ i j, Bt b (M i j)) (i j : Nat) : Bt (b + 26) (mx1 M own a g t i j) := by
  unfold mx1
  have bo : Bt 25 own := by unfold Bt; omega
  have ba : Bt 25 a := by unfold Bt; omega
  have bd : Bt 25 (own - a) := by unfold Bt; omega
  split
  · exact Bt.mono (Bt.mul bd (h g j)) (by omega)
  · have bm : Bt 25 (if i = t then a else 0) := by
      split
      · exact ba
      · decide
    exact Bt.mono (Bt.add (Bt.mul bo (h i j)) (Bt.mul bm (h g j))) (by omega)
end G
namespace G
open PySem PySem.Spec PyProof.Rows L2
/-! ### pairs over one bottom -/
theorem lp_some {i j : Int} (h : 0 < j) : ∃ n, Lp n (low i j) := by
  refine ⟨i.natAbs + j.natAbs + 1, Lp.low h ?_ ?_⟩
  · unfold Bt
    exact Nat.lt_of_le_of_lt (by omega) Nat.lt_two_pow_self
  · unfold Bt
    exact Nat.lt_of_le_of_lt (by omega) Nat.lt_two_pow_self
theorem low_eq {i j k l : Int} (hj : 0 < j) (hl : 0 < l) (h : (i : _root_.Rat) / j = (k : _root_.Rat) / l) : low i j = low k l := by
  obtain ⟨a, ha⟩ := lp_some (i := i) hj
  obtain ⟨b, hb⟩ := lp_some (i := k) hl
  exact val_inj ha hb (by rw [val_low hj, val_low hl]; exact h)
theorem low_scale {i j c : Int} (hj : 0 < j) (hc : 0 < c) : low (i * c) (j * c) = low i j := by
  refine low_eq (Int.mul_pos hj hc) hj ?_
  have q1 := cast_ne (show j ≠ 0 by omega)
  have q2 := cast_ne (show c ≠ 0 by omega)
  push_cast
  grind
theorem val_one (x : Int × Int) (n : Nat) (h : Lp n x) : val x = val x := rfl
theorem jn_lows {w : Int} (hw : w = 0 ∨ w = 1 ∨ w = 2) {a b d e : Int} (hd : 0 < d) (he : 0 < e) : jn w (low a d) (low b e) = if w = 2 then low (a * b) (d * e) else low (a * e + (1 - 2 * w) * b * d) (d * e) := by
  obtain ⟨n, hn⟩ := lp_some (i := a) hd
  obtain ⟨m, hm⟩ := lp_some (i := b) he
  have hp := Int.mul_pos hd he
  have q1 := cast_ne (show d ≠ 0 by omega)
  have q2 := cast_ne (show e ≠ 0 by omega)
  have r : ∀ (i : Int) (o : _root_.Rat), val (jn w (low a d) (low b e)) = o → (i : _root_.Rat) / ((d * e : Int) : _root_.Rat) = o → jn w (low a d) (low b e) = low i (d * e) := fun i o h1 h2 => by
    obtain ⟨k, hk⟩ := lp_some (i := i) hp
    exact val_inj (jn_lp hw hn hm) hk (by rw [h1, val_low hp, h2])
  rcases hw with rfl | rfl | rfl
  · rw [if_neg (by decide)]
    refine r _ _ (val_jn0 hn hm) ?_
    rw [val_low hd, val_low he]
    push_cast
    grind
  · rw [if_neg (by decide)]
    refine r _ _ (val_jn1 hn hm) ?_
    rw [val_low hd, val_low he]
    push_cast
    grind
  · rw [if_pos rfl]
    refine r _ _ (val_jn2 hn hm) ?_
    rw [val_low hd, val_low he]
    push_cast
    grind
theorem mul_lows {a b d e : Int} (hd : 0 < d) (he : 0 < e) : jn 2 (low a d) (low b e) = low (a * b) (d * e) := by rw [jn_lows (.inr (.inr rfl)) hd he, if_pos rfl]
theorem sub_lows {a t d o : Int} (hd : 0 < d) (ho : 0 < o) : jn 1 (low a d) (jn 2 (low a d) (low t o)) = low ((o - t) * a) (d * o) := by
  rw [mul_lows hd ho, jn_lows (.inr (.inl rfl)) hd (Int.mul_pos hd ho), if_neg (by decide)]
  rw [show a * (d * o) + (1 - 2 * 1) * (a * t) * d = (o - t) * a * d by grind, show d * (d * o) = d * o * d by grind]
  exact low_scale (Int.mul_pos hd ho) hd
theorem add_lows {a b t d o : Int} (hd : 0 < d) (ho : 0 < o) : jn 0 (low b d) (jn 2 (low a d) (low t o)) = low (o * b + t * a) (d * o) := by
  rw [mul_lows hd ho, jn_lows (.inl rfl) hd (Int.mul_pos hd ho), if_neg (by decide)]
  rw [show b * (d * o) + (1 - 2 * 0) * (a * t) * d = (o * b + t * a) * d by grind, show d * (d * o) = d * o * d by grind]
  exact low_scale (Int.mul_pos hd ho) hd
theorem low_zeroD {d : Int} (hd : 0 < d) : low 0 d = (0, 1) := by
  have := low_scale (i := 0) (j := 1) (c := d) (by decide) hd
  rw [Int.zero_mul, Int.one_mul] at this
  rw [this]
  decide
theorem tot_lows {d : Int} (hd : 0 < d) : ∀ (n : Nat) (f : Nat → Int), tot ((List.range n).map fun j => low (f j) d) = low (sm n f) d
  | 0, _ => (low_zeroD hd).symm
  | n + 1, f => by
    rw [List.range_succ, List.map_append, List.map_singleton, tot_snoc, tot_lows hd n f, jn_lows (.inl rfl) hd hd, if_neg (by decide), sm_succ]
    rw [show sm n f * d + (1 - 2 * 0) * f n * d = (sm n f + f n) * d by grind]
    exact low_scale hd hd
theorem low_cross {i j : Int} (h : 0 < j) : (low i j).1 * j = i * (low i j).2 := by
  have g := Int.gcd_pos_of_ne_zero_right i (show j ≠ 0 by omega)
  obtain ⟨a, ha⟩ : (Int.gcd i j : Int) ∣ i := Int.gcd_dvd_left i j
  obtain ⟨b, hb⟩ : (Int.gcd i j : Int) ∣ j := Int.gcd_dvd_right i j
  have g0 : (Int.gcd i j : Int) ≠ 0 := by omega
  show i / (Int.gcd i j : Int) * j = i * (j / (Int.gcd i j : Int))
  generalize hg : (Int.gcd i j : Int) = d at *
  have e1 : i / d = a := by rw [ha]; exact Int.mul_ediv_cancel_left a g0
  have e2 : j / d = b := by rw [hb]; exact Int.mul_ediv_cancel_left b g0
  rw [e1, e2, ha, hb]
  grind
/-! ### the steps -/
abbrev Stt := Mx × Int × List Int
def st1 (s : Stt) (x : Tr) : Stt := (mx1 s.1 (s.2.2.getD x.1.toNat 0) x.2.2 x.1.toNat x.2.1.toNat, s.2.1 * s.2.2.getD x.1.toNat 0, vol1 s.2.2 x)
def st0 (ns : List Int) : Stt := (mx0 fun i => ns.getD i 0, 1, ns)
def stt (ns : List Int) (ts : List Tr) : Stt := ts.foldl st1 (st0 ns)
structure SInv (ns : List Int) (k : Nat) (s : Stt) : Prop where
  len : s.2.2.length = ns.length
  pos : 0 < s.2.1
  dbt : Bt (25 * k + 1) s.2.1
  mbt : ∀ i j, Bt (20 + 26 * k) (s.1 i j)
  vol : ∀ x ∈ s.2.2, 1 ≤ x ∧ x ≤ 1000000 * (k + 1)
  row : ∀ i, i < ns.length → sm ns.length (s.1 i) = s.2.1 * s.2.2.getD i 0
  col : ∀ j, j < ns.length → sm ns.length (fun i => s.1 i j) = s.2.1 * ns.getD j 0
theorem getD_mem' {ns : List Int} {k : Nat} (h : k < ns.length) : ns.getD k 0 ∈ ns := by
  rw [List.getD_eq_getElem?_getD, List.getElem?_eq_getElem h]
  exact List.getElem_mem h
theorem sinv0 {ns : List Int} (h : ∀ x ∈ ns, 1 ≤ x ∧ x ≤ 1000000) : SInv ns 0 (st0 ns) := by
  refine ⟨rfl, by show (0 : Int) < 1; decide, by show Bt (25 * 0 + 1) 1; decide, fun i j => ?_, fun x hx => ?_, fun i hi => ?_, fun j hj => ?_⟩
  · show Bt 20 (mx0 (fun i => ns.getD i 0) i j)
    unfold mx0
    split
    · show Bt 20 (ns.getD i 0)
      by_cases hi : i < ns.length
      · have := h _ (getD_mem' hi)
        unfold Bt
        omega
      · rw [List.getD_eq_getElem?_getD, List.getElem?_eq_none (by omega)]
        decide
    · decide
  · have := h x hx
    omega
  · show sm ns.length (mx0 (fun i => ns.getD i 0) i) = 1 * ns.getD i 0
    rw [Int.one_mul]
    exact sm_one hi _
  · show sm ns.length (fun i => mx0 (fun i => ns.getD i 0) i j) = 1 * ns.getD j 0
    rw [Int.one_mul, ← sm_one hj (ns.getD j 0)]
    refine sm_congr fun i _ => ?_
    unfold mx0
    by_cases e : j = i
    · subst e
      show (if j = j then ns.getD j 0 else 0) = if j = j then ns.getD j 0 else 0
      rfl
    · rw [if_neg e, if_neg (fun z => e z.symm)]
theorem vol1_at {ns : List Int} {x : Tr} {g t : Nat} (hg : x.1 = (g : Int)) (ht : x.2.1 = (t : Int)) (gl : g < ns.length) (tl : t < ns.length) (ne : g ≠ t) (i : Nat) :
    (vol1 ns x).getD i 0 = if i = g then ns.getD g 0 - x.2.2 else if i = t then ns.getD t 0 + x.2.2 else ns.getD i 0 := by
  unfold vol1
  rw [hg, ht, Int.toNat_natCast, Int.toNat_natCast, List.getD_eq_getElem?_getD, List.getD_eq_getElem?_getD (l := ns) (i := i)]
  by_cases e2 : i = t
  · subst e2
    rw [List.getElem?_set_self (by rw [List.length_set]; exact tl), if_neg (by omega), if_pos rfl]
    rfl
  · rw [List.getElem?_set_ne (by omega)]
    by_cases e1 : i = g
    · subst e1
      rw [List.getElem?_set_self gl, if_pos rfl]
      rfl
    · rw [List.getElem?_set_ne (by omega), if_neg e1, if_neg e2]
theorem psb1_of {now : List Int} {x : Tr} (h : psb1 now x = true) : ∃ g t : Nat, x.1 = (g : Int) ∧ x.2.1 = (t : Int) ∧ g < now.length ∧ t < now.length ∧ g ≠ t ∧ 0 < x.2.2 ∧ x.2.2 < now.getD g 0 := by
  obtain ⟨a0, a1, b0, b1, ne, d0, d1⟩ := of_decide_eq_true h
  refine ⟨x.1.toNat, x.2.1.toNat, by omega, by omega, by omega, by omega, by omega, d0, d1⟩
theorem mem_getD {ns : List Int} {x : Int} (h : x ∈ ns) : ∃ i, i < ns.length ∧ ns.getD i 0 = x := by
  obtain ⟨i, hi⟩ := List.mem_iff_getElem?.mp h
  exact ⟨i, (List.getElem?_eq_some_iff.mp hi).1, by rw [List.getD_eq_getElem?_getD, hi]; rfl⟩
theorem sinv1 {ns : List Int} {k : Nat} {s : Stt} {x : Tr} (h : SInv ns k s) (hp : psb1 s.2.2 x = true) (hx : x.2.2 ≤ 1000000) (hk : k ≤ 24) : SInv ns (k + 1) (st1 s x) := by
  obtain ⟨g, t, hg, ht, gl, tl, ne, d0, d1⟩ := psb1_of hp
  have gv := h.vol _ (getD_mem' gl)
  have eg : x.1.toNat = g := by omega
  have et : x.2.1.toNat = t := by omega
  have gl' : g < ns.length := by rw [← h.len]; exact gl
  have tl' : t < ns.length := by rw [← h.len]; exact tl
  unfold st1
  rw [eg, et]
  have o25 : s.2.2.getD g 0 < 2 ^ 25 := by omega
  refine ⟨?_, ?_, ?_, fun i j => ?_, fun y hy => ?_, fun i hi => ?_, fun j hj => ?_⟩
  · show (vol1 s.2.2 x).length = _
    rw [vol1_len, h.len]
  · exact Int.mul_pos h.pos (by omega)
  · have bo : Bt 25 (s.2.2.getD g 0) := by unfold Bt; omega
    exact Bt.mono (Bt.mul h.dbt bo) (by omega)
  · exact Bt.mono (mx1_bt ⟨by omega, o25⟩ ⟨by omega, by omega⟩ h.mbt i j) (by omega)
  · have hy : y ∈ vol1 s.2.2 x := hy
    obtain ⟨i, hi, rfl⟩ := mem_getD hy
    rw [vol1_len] at hi
    rw [vol1_at hg ht gl tl ne]
    have tv := h.vol _ (getD_mem' tl)
    have iv := h.vol _ (getD_mem' hi)
    split
    · omega
    · split <;> omega
  · show sm ns.length (mx1 s.1 (s.2.2.getD g 0) x.2.2 g t i) = s.2.1 * s.2.2.getD g 0 * (vol1 s.2.2 x).getD i 0
    rw [vol1_at hg ht gl tl ne]
    exact mx1_row (v := fun i => s.2.2.getD i 0) gl' rfl ne h.row i hi
  · exact mx1_col (v := fun j => ns.getD j 0) gl' tl' ne h.col j hj
theorem stt_snoc (ns : List Int) (ts : List Tr) (x : Tr) : stt ns (ts ++ [x]) = st1 (stt ns ts) x := by
  unfold stt
  rw [List.foldl_append]
  rfl
theorem stt_take {ns : List Int} {ts : List Tr} {k : Nat} {x : Tr} (h : ts[k]? = some x) : stt ns (ts.take (k + 1)) = st1 (stt ns (ts.take k)) x := by
  rw [take_snoc h, stt_snoc]
theorem psb_snoc : ∀ {ns : List Int} {ts : List Tr}, psb ns ts = true → ∀ {k : Nat} {x : Tr}, ts[k]? = some x → psb1 ((ts.take k).foldl vol1 ns) x = true
  | ns, y :: ts, h, 0, x, e => by
    cases e
    exact (Bool.and_eq_true_iff.mp h).1
  | ns, y :: ts, h, k + 1, x, e => psb_snoc (ns := vol1 ns y) (Bool.and_eq_true_iff.mp h).2 (k := k) e
theorem stt_vol (ns : List Int) : ∀ ts : List Tr, (stt ns ts).2.2 = ts.foldl vol1 ns := by
  intro ts
  unfold stt
  have : ∀ (ts : List Tr) (s : Stt), (ts.foldl st1 s).2.2 = ts.foldl vol1 s.2.2 := by
    intro ts
    induction ts with
    | nil => exact fun _ => rfl
    | cons x ts ih => exact fun s => ih (st1 s x)
  exact this ts (st0 ns)
theorem sinv_at {ns : List Int} {ts : List Tr} (hn : ∀ x ∈ ns, 1 ≤ x ∧ x ≤ 1000000) (hp : psb ns ts = true) (hx : ∀ x ∈ ts, x.2.2 ≤ 1000000) (hl : ts.length ≤ 24) : ∀ k, k ≤ ts.length → SInv ns k (stt ns (ts.take k))
  | 0, _ => sinv0 hn
  | k + 1, hk => by
    obtain ⟨x, hx'⟩ : ∃ x, ts[k]? = some x := ⟨_, List.getElem?_eq_getElem (by omega)⟩
    rw [stt_take hx']
    exact sinv1 (sinv_at hn hp hx hl k (by omega)) (by rw [stt_vol]; exact psb_snoc hp hx') (hx x (List.mem_of_getElem? hx')) (by omega)
end G

/-! Rows of ratios, lists of volumes, moves. -/
namespace G
open PySem PySem.Spec PyProof.Rows L2
abbrev Pr := Int × Int
/-- a row of ratios; one that is not the list at D -/
def RowR (C : Addr) (H : Hp) (v : V) (xs : List Pr) : Prop := ∃ l rs, v = .ref l ∧ H l = some (.lst rs) ∧ PL (RatV C H) rs xs
def RowX (C D : Addr) (H : Hp) (v : V) (xs : List Pr) : Prop := ∃ l rs, v = .ref l ∧ l ≠ D ∧ H l = some (.lst rs) ∧ PL (RatV C H) rs xs
theorem rats_same {C : Addr} {H H' : Hp} {rs : List V} {xs : List Pr} (h : PL (RatV C H) rs xs) (e : Same H H') : PL (RatV C H') rs xs := h.imp fun _ _ o => kept_rat.same o e
theorem rats_fr {C L : Addr} {H H' : Hp} {zs rs : List V} {xs : List Pr} (h : PL (RatV C H) rs xs) (hL : H L = some (.lst zs)) (f : Fr L H H') : PL (RatV C H') rs xs := h.imp fun _ _ o => kept_rat.fill o hL f
theorem RowR.same {C : Addr} {H H' : Hp} {v : V} {xs : List Pr} (h : RowR C H v xs) (e : Same H H') : RowR C H' v xs := let ⟨l, rs, a, b, c⟩ := h; ⟨l, rs, a, e _ _ b, rats_same c e⟩
theorem RowX.same {C D : Addr} {H H' : Hp} {v : V} {xs : List Pr} (h : RowX C D H v xs) (e : Same H H') : RowX C D H' v xs := let ⟨l, rs, a, n, b, c⟩ := h; ⟨l, rs, a, n, e _ _ b, rats_same c e⟩
theorem RowX.fr {C D : Addr} {H H' : Hp} {zs : List V} {v : V} {xs : List Pr} (h : RowX C D H v xs) (hD : H D = some (.lst zs)) (f : Fr D H H') : RowX C D H' v xs := let ⟨l, rs, a, n, b, c⟩ := h; ⟨l, rs, a, n, f _ _ n b, rats_fr c hD f⟩
theorem RowX.row {C D : Addr} {H : Hp} {v : V} {xs : List Pr} (h : RowX C D H v xs) : RowR C H v xs := let ⟨l, rs, a, _, b, c⟩ := h; ⟨l, rs, a, b, c⟩
theorem RowR.x {C D : Addr} {H0 H : Hp} {v : V} {xs : List Pr} (h : RowR C H0 v xs) (n : H0 D = none) (e : Same H0 H) : RowX C D H v xs := let ⟨l, rs, a, b, c⟩ := h; ⟨l, rs, a, ne_of_none b n, e _ _ b, rats_same c e⟩
theorem kept_RowX (C D : Addr) : KeptD D (RowX C D) := ⟨fun h e => h.same e, fun h hD f => h.fr hD f⟩
def TabR (C : Addr) (H : Hp) (a : Addr) (rows : List (List Pr)) : Prop := ∃ vs, H a = some (.lst vs) ∧ PL (RowX C a H) vs rows
theorem TabR.same {C : Addr} {H H' : Hp} {a : Addr} {rows : List (List Pr)} (h : TabR C H a rows) (e : Same H H') : TabR C H' a rows := let ⟨vs, b, c⟩ := h; ⟨vs, e _ _ b, c.imp fun _ _ o => o.same e⟩
/-- a row that was not there in H0 -/
def RowF (C D : Addr) (H0 H : Hp) (v : V) (xs : List Pr) : Prop := ∃ l rs, v = .ref l ∧ l ≠ D ∧ H0 l = none ∧ H l = some (.lst rs) ∧ PL (RatV C H) rs xs
theorem RowF.same {C D : Addr} {H0 H H' : Hp} {v : V} {xs : List Pr} (h : RowF C D H0 H v xs) (e : Same H H') : RowF C D H0 H' v xs := let ⟨l, rs, a, n, m, b, c⟩ := h; ⟨l, rs, a, n, m, e _ _ b, rats_same c e⟩
theorem RowF.fr {C D : Addr} {H0 H H' : Hp} {zs : List V} {v : V} {xs : List Pr} (h : RowF C D H0 H v xs) (hD : H D = some (.lst zs)) (f : Fr D H H') : RowF C D H0 H' v xs := let ⟨l, rs, a, n, m, b, c⟩ := h; ⟨l, rs, a, n, m, f _ _ n b, rats_fr c hD f⟩
theorem RowF.back {C D : Addr} {H0 H1 H : Hp} {v : V} {xs : List Pr} (h : RowF C D H1 H v xs) (e : Same H0 H1) : RowF C D H0 H v xs := let ⟨l, rs, a, n, m, b, c⟩ := h; ⟨l, rs, a, n, e.free m, b, c⟩
theorem RowF.x {C D : Addr} {H0 H : Hp} {v : V} {xs : List Pr} (h : RowF C D H0 H v xs) : RowX C D H v xs := let ⟨l, rs, a, n, _, b, c⟩ := h; ⟨l, rs, a, n, b, c⟩
theorem kept_RowF (C : Addr) (H0 : Hp) (D : Addr) : KeptD D (RowF C D H0) := ⟨fun h e => h.same e, fun h hD f => h.fr hD f⟩
def TabF (C : Addr) (H0 H : Hp) (a : Addr) (rows : List (List Pr)) : Prop := ∃ vs, H a = some (.lst vs) ∧ PL (RowF C a H0 H) vs rows
theorem TabF.same {C : Addr} {H0 H H' : Hp} {a : Addr} {rows : List (List Pr)} (h : TabF C H0 H a rows) (e : Same H H') : TabF C H0 H' a rows := let ⟨vs, b, c⟩ := h; ⟨vs, e _ _ b, c.imp fun _ _ o => o.same e⟩
theorem TabF.back {C : Addr} {H0 H1 H : Hp} {a : Addr} {rows : List (List Pr)} (h : TabF C H1 H a rows) (e : Same H0 H1) : TabF C H0 H a rows := let ⟨vs, b, c⟩ := h; ⟨vs, b, c.imp fun _ _ o => o.back e⟩
theorem TabF.tab {C : Addr} {H0 H : Hp} {a : Addr} {rows : List (List Pr)} (h : TabF C H0 H a rows) : TabR C H a rows := let ⟨vs, b, c⟩ := h; ⟨vs, b, c.imp fun _ _ o => o.x⟩
/-- eight rows of eight at most, each number small enough -/
structure Sz (rows : List (List Pr)) (m : Nat) : Prop where
  n : rows.length ≤ 8
  m8 : m ≤ 8
  each : ∀ r ∈ rows, r.length = m ∧ ∀ x ∈ r, Lp 1000 x
def spCopy (C : Addr) : Sp := fun vs H Q _ => ∃ a rows m, vs = [.ref a] ∧ TabR C H a rows ∧ Sz rows m ∧ ∀ b H', H b = none → Same H H' → TabF C H H' b rows → Q (.ref b) H'
def mv (rows : List (List Pr)) (g t : Nat) (y : Pr) : List (List Pr) :=
  (rows.set g (List.zipWith (jn 1) (rows.getD g []) ((rows.getD g []).map fun x => jn 2 x y))).set t (List.zipWith (jn 0) (rows.getD t []) ((rows.getD g []).map fun x => jn 2 x y))
def spMoved (C : Addr) : Sp := fun vs H Q _ => ∃ (a : Addr) (g t : Nat) (p : Addr) (rows : List (List Pr)) (m : Nat) (y : Pr), vs = [.ref a, .int (g : Int), .int (t : Int), .ref p] ∧ TabR C H a rows ∧ Sz rows m ∧ g < rows.length ∧ t < rows.length ∧ g ≠ t ∧ RatV C H (.ref p) y ∧ Lp 1000 y ∧
  ∀ b H', H b = none → Same H H' → TabF C H H' b (mv rows g t y) → Q (.ref b) H'
/-- volumes -/
structure Vl (H : Hp) (a : Addr) (ns : List Int) : Prop where
  at_ : H a = some (.lst (ns.map V.int))
  pos : 1 ≤ ns.length
  few : ns.length ≤ 8
  bd : ∀ n ∈ ns, 1 ≤ n ∧ n ≤ 1000000
theorem Vl.same {H H' : Hp} {a : Addr} {ns : List Int} (h : Vl H a ns) (e : Same H H') : Vl H' a ns := ⟨e _ _ h.at_, h.pos, h.few, h.bd⟩
def spVl : Sp := fun vs H Q _ => ∃ a ns, vs = [.ref a] ∧ Vl H a ns ∧ ∀ H', Same H H' → Q (.bl true) H'
def spChkVl : Sp := fun vs H Q _ => ∃ a ns, vs = [.ref a] ∧ Vl H a ns ∧ ∀ H', Same H H' → Q .non H'
def spBetw : Sp := fun vs H Q _ => ∃ v x n, vs = [v, .int n] ∧ T3 H v x ∧ Gd x ∧ x.1 < n ∧ x.2.1 < n ∧ ∀ H', Same H H' → Q (.bl true) H'
def spChkB : Sp := fun vs H Q _ => ∃ a xs ts n, vs = [.ref a, .int n] ∧ H a = some (.lst xs) ∧ Ts H xs ts ∧ (∀ x ∈ ts, Gd x ∧ x.1 < n ∧ x.2.1 < n) ∧ ts.length ≤ 24 ∧ ∀ H', Same H H' → Q .non H'
/-- the volumes behind one transfer -/
def spBehind : Sp := fun vs H Q _ => ∃ a v ns x i, vs = [.ref a, v, .int i] ∧ H a = some (.lst (ns.map V.int)) ∧ T3 H v x ∧ psb1 ns x = true ∧ ∀ l H', H l = none → Same H H' → H' l = some (.lst ((vol1 ns x).map V.int)) → Q (.ref l) H'
/-- a list of whole numbers that is not the list at D -/
def IntX (D : Addr) (H : Hp) (v : V) (ns : List Int) : Prop := ∃ l, v = .ref l ∧ l ≠ D ∧ H l = some (.lst (ns.map V.int))
theorem IntX.same {D : Addr} {H H' : Hp} {v : V} {ns : List Int} (h : IntX D H v ns) (e : Same H H') : IntX D H' v ns := let ⟨l, a, n, b⟩ := h; ⟨l, a, n, e _ _ b⟩
theorem IntX.fr {D : Addr} {H H' : Hp} {v : V} {ns : List Int} (h : IntX D H v ns) (f : Fr D H H') : IntX D H' v ns := let ⟨l, a, n, b⟩ := h; ⟨l, a, n, f _ _ n b⟩
/-- the list of the volumes ahead of each transfer and behind the last one -/
def tr (ns : List Int) (ts : List Tr) : List (List Int) := (List.range (ts.length + 1)).map fun k => (ts.take k).foldl vol1 ns
/-- volumes and possible transfers -/
structure Cs (H : Hp) (a l : Addr) (ns : List Int) (xs : List V) (ts : List Tr) : Prop where
  v : Vl H a ns
  at_ : H l = some (.lst xs)
  t : Ts H xs ts
  gd : ∀ x ∈ ts, Gd x
  few : ts.length ≤ 24
  psb : psb ns ts = true
theorem Cs.same {H H' : Hp} {a l : Addr} {ns : List Int} {xs : List V} {ts : List Tr} (h : Cs H a l ns xs ts) (e : Same H H') : Cs H' a l ns xs ts := ⟨h.v.same e, e _ _ h.at_, Ts.same h.t e, h.gd, h.few, h.psb⟩
theorem Cs.lt {H : Hp} {a l : Addr} {ns : List Int} {xs : List V} {ts : List Tr} (h : Cs H a l ns xs ts) : ∀ x ∈ ts, Gd x ∧ x.1 < ns.length ∧ x.2.1 < ns.length := fun x hx => by
  obtain ⟨k, hk⟩ := List.mem_iff_getElem?.mp hx
  have hp := psb_snoc h.psb hk
  obtain ⟨a0, a1, b0, b1, _⟩ := of_decide_eq_true hp
  have fl : ∀ (us : List Tr) (ms : List Int), (us.foldl vol1 ms).length = ms.length := fun us => by
    induction us with
    | nil => exact fun _ => rfl
    | cons u us ih => exact fun ms => (ih _).trans vol1_len
  rw [fl] at a1 b1
  exact ⟨h.gd x hx, a1, b1⟩
def spSteps : Sp := fun vs H Q _ => ∃ a l ns xs ts, vs = [.ref a, .ref l] ∧ Cs H a l ns xs ts ∧ ∀ b ws H', H b = none → Same H H' → H' b = some (.lst ws) → PL (IntX b H') ws (tr ns ts) → Q (.ref b) H'
/-- a move: giver, taker, the part that the giver gives -/
def MvV (C : Addr) (H : Hp) (v : V) (m : Tr × Int) : Prop := ∃ r p, v = .ref r ∧ H r = some (.tup [.int m.1.1, .int m.1.2.1, .ref p]) ∧ RatV C H (.ref p) (low m.1.2.2 m.2)
theorem kept_mv {C : Addr} : Kept (MvV C) := ⟨fun ⟨r, p, a, b, c⟩ e => ⟨r, p, a, e _ _ b, kept_rat.same c e⟩, fun ⟨r, p, a, b, c⟩ hL f => ⟨r, p, a, f _ _ (ne_of b hL (by intro z; cases z)) b, kept_rat.fill c hL f⟩⟩
def mvs (ns : List Int) (ts : List Tr) : List (Tr × Int) := (List.range ts.length).map fun k => (ts.getD k t0, ((ts.take k).foldl vol1 ns).getD (ts.getD k t0).1.toNat 0)
def spMoves (C : Addr) : Sp := fun vs H Q _ => ∃ a l ns xs ts, vs = [.ref a, .ref l] ∧ Cs H a l ns xs ts ∧ ∀ b ws H', H b = none → Same H H' → H' b = some (.lst ws) → PL (MvV C H') ws (mvs ns ts) → Q (.ref b) H'
/-- rows over one bottom -/
def nr (n : Nat) (M : Mx) (D : Int) : List (List Pr) := (List.range n).map fun i => (List.range n).map fun j => low (M i j) D
def spFirst (C : Addr) : Sp := fun vs H Q _ => ∃ a ns, vs = [.ref a] ∧ Vl H a ns ∧ ∀ b H', H b = none → Same H H' → TabR C H' b (nr ns.length (mx0 fun i => ns.getD i 0) 1) → Q (.ref b) H'
def spCont (C : Addr) : Sp := fun vs H Q _ => ∃ a l ns xs ts, vs = [.ref a, .ref l] ∧ Cs H a l ns xs ts ∧ ∀ b H', H b = none → Same H H' → TabF C H H' b (nr ns.length (stt ns ts).1 (stt ns ts).2.1) → Q (.ref b) H'
theorem nr_get {n : Nat} {M : Mx} {D : Int} {i : Nat} (h : i < n) : (nr n M D)[i]? = some ((List.range n).map fun j => low (M i j) D) := by
  unfold nr
  rw [List.getElem?_map, List.getElem?_range h]
  rfl
theorem nr_getD {n : Nat} {M : Mx} {D : Int} {i : Nat} (h : i < n) : (nr n M D).getD i [] = (List.range n).map fun j => low (M i j) D := by
  rw [List.getD_eq_getElem?_getD, nr_get h]
  rfl
theorem nr_len {n : Nat} {M : Mx} {D : Int} : (nr n M D).length = n := by
  unfold nr
  rw [List.length_map, List.length_range]
theorem zip_maps {α β γ : Type} (n : Nat) (op : α → β → γ) (f : Nat → α) (g : Nat → β) : List.zipWith op ((List.range n).map f) ((List.range n).map g) = (List.range n).map fun j => op (f j) (g j) := by
  refine List.ext_getElem (by simp) fun i h1 h2 => ?_
  simp
theorem mv_nr {n : Nat} {M : Mx} {D a o : Int} {g t : Nat} (hg : g < n) (ht : t < n) (ne : g ≠ t) (hD : 0 < D) (ho : 0 < o) : mv (nr n M D) g t (low a o) = nr n (mx1 M o a g t) (D * o) := by
  unfold mv
  rw [nr_getD hg, nr_getD ht, List.map_map]
  rw [show ((fun x => jn 2 x (low a o)) ∘ fun j => low (M g j) D) = fun j => jn 2 (low (M g j) D) (low a o) from rfl, zip_maps, zip_maps]
  refine List.ext_getElem? fun i => ?_
  by_cases hi : i < n
  · rw [nr_get hi]
    by_cases e2 : i = t
    · subst e2
      rw [List.getElem?_set_self (by rw [List.length_set, nr_len]; exact hi)]
      congr 1
      refine List.map_congr_left fun j _ => ?_
      rw [add_lows hD ho]
      unfold mx1
      rw [if_neg (show i ≠ g by omega), if_pos rfl]
    · rw [List.getElem?_set_ne (by omega)]
      by_cases e1 : i = g
      · subst e1
        rw [List.getElem?_set_self (by rw [nr_len]; exact hi)]
        congr 1
        refine List.map_congr_left fun j _ => ?_
        rw [sub_lows hD ho]
        unfold mx1
        rw [if_pos rfl]
      · rw [List.getElem?_set_ne (by omega), nr_get hi]
        congr 1
        refine List.map_congr_left fun j _ => ?_
        unfold mx1
        rw [if_neg e1, if_neg e2, Int.zero_mul, Int.add_zero, Int.mul_comm o]
        exact (low_scale hD ho).symm
  · rw [List.getElem?_eq_none (by rw [List.length_set, List.length_set, nr_len]; omega), List.getElem?_eq_none (by rw [nr_len]; omega)]
theorem nr_sz {n : Nat} {M : Mx} {D : Int} (hn : n ≤ 8) (hD : 0 < D) (bD : Bt 1000 D) (bM : ∀ i j, Bt 1000 (M i j)) : Sz (nr n M D) n := by
  refine ⟨by rw [nr_len]; exact hn, hn, fun r hr => ?_⟩
  obtain ⟨i, _, rfl⟩ := List.mem_map.mp hr
  refine ⟨by rw [List.length_map, List.length_range], fun x hx => ?_⟩
  obtain ⟨j, _, rfl⟩ := List.mem_map.mp hx
  exact Lp.low hD (bM i j) bD
theorem vol_len (ns : List Int) : ∀ us : List Tr, (us.foldl vol1 ns).length = ns.length := by
  intro us
  induction us generalizing ns with
  | nil => rfl
  | cons u us ih => exact (ih _).trans vol1_len
end G
namespace G
open PySem PySem.Spec PyProof.Rows L2
theorem rowsG (rows : List (List Pr)) : (List.range rows.length).map (fun i => rows.getD i []) = rows := by
  refine List.ext_getElem (by simp) fun i h1 h2 => ?_
  rw [List.getElem_map, List.getElem_range, List.getD_eq_getElem?_getD, List.getElem?_eq_getElem h2]
  rfl
theorem row_some {rows : List (List Pr)} {g : Nat} (h : g < rows.length) : rows[g]? = some (rows.getD g []) := by
  rw [List.getD_eq_getElem?_getD, List.getElem?_eq_getElem h]
  rfl
theorem mapG {β : Type} (f : Pr → β) (xs : List Pr) : (List.range xs.length).map (fun i => f (xs.getD i (0, 1))) = xs.map f := by
  refine List.ext_getElem (by simp) fun i h1 h2 => ?_
  rw [List.length_map] at h2
  rw [List.getElem_map, List.getElem_map, List.getElem_range, List.getD_eq_getElem?_getD, List.getElem?_eq_getElem h2]
  rfl
theorem zipG {β : Type} (f : Pr → Pr → β) {xs ys : List Pr} (h : xs.length = ys.length) : (List.range xs.length).map (fun i => f (xs.getD i (0, 1)) (ys.getD i (0, 1))) = List.zipWith f xs ys := by
  refine List.ext_getElem (by simp; omega) fun i h1 h2 => ?_
  rw [List.length_map, List.length_range] at h1
  rw [List.getElem_zipWith, List.getElem_map, List.getElem_range, List.getD_eq_getElem?_getD, List.getD_eq_getElem?_getD, List.getElem?_eq_getElem h1, List.getElem?_eq_getElem (h ▸ h1)]
  rfl
theorem zip_self {β : Type} (f : Pr → Pr → β) (h : Pr → Pr) (xs : List Pr) : List.zipWith f xs (xs.map h) = xs.map fun x => f x (h x) := by
  induction xs with
  | nil => rfl
  | cons x xs ih => simp only [List.map_cons, List.zipWith_cons_cons, ih]
theorem zip_map2 {β : Type} (f : Pr → Pr → β) (h : Pr → Pr) (xs ys : List Pr) : List.zipWith f xs (ys.map h) = List.zipWith (fun x z => f x (h z)) xs ys := by
  induction xs generalizing ys with
  | nil => rfl
  | cons x xs ih =>
    cases ys with
    | nil => rfl
    | cons y ys => simp only [List.map_cons, List.zipWith_cons_cons, ih]
end G
namespace G
open PySem PySem.Spec PyProof.Rows L2
theorem call_listOK {X : Cx} {K : PySem.W.Frag} (hK : X.K = K) : CallR X (.type "list") (rListOf K) := by rw [← hK]; exact call_listO
end G

namespace G
open PySem PySem.Spec PyProof.Rows L2
/-- over two lists side by side, the second one not longer -/
theorem w_lcZipS {β : Type} {K : PySem.W.Frag} {O : Hp → V → β → Prop} (KO : Kept O) {g : TG} {tt : TT} {te : TE} {σ : L2.St} {Q : VK} {H1 : Hp} {vs : List Nat} {a b : Addr} {rs ss : List V} (cond : Nat → Bool) (f : Nat → β) (ha : SqL K H1 a rs) (hb : SqL K H1 b ss) (hl : ss.length ≤ rs.length) (hn : ss.length ≤ 1000)
    (body : ∀ (i : Nat) T x y H2 (Re : VK) (Rn : Hp → Prop), rs[i]? = some x → ss[i]? = some y → H2 T = some (.tup [x, y]) → Same H1 H2 → (cond i = false → ∀ H', Same H2 H' → Rn H') → (cond i = true → ∀ u H', Same H2 H' → O H' u (f i) → Re u H') →
      g (.ref T) (wipe σ vs) H2 fun σ2 H3 => wipe σ2 vs = wipe σ vs ∧ tt σ2 H3 fun b H4 => if b = true then te σ2 H4 Re else Rn H4)
    (q : ∀ L acc H', H1 L = none → Same H1 H' → H' L = some (.lst acc) → PL (O H') acc (((List.range ss.length).filter cond).map f) → Q (.ref L) H') : LcW (Itz K a b) g tt te vs σ Q H1 := by
  have gt : ∀ (rs : List V) i, i < rs.length → rs[i]? = some (rs.getD i .non) := fun rs i h => by rw [List.getD_eq_getElem?_getD, List.getElem?_eq_getElem h]; rfl
  refine w_lcGen KO ss.length (fun i v H2 => ∃ T x y, v = .ref T ∧ rs[i]? = some x ∧ ss[i]? = some y ∧ H2 T = some (.tup [x, y])) cond f hn (fun i H' h e => ⟨rs, ss, _, _, e.seq ha, e.seq hb, gt rs i (by omega), gt ss i h⟩) (fun H' e => ⟨rs, ss, e.seq ha, e.seq hb, .inr (Nat.le_refl _)⟩) (fun i H' v H2 h e hy => ?_) (fun i v H2 Re Rn h e it => ?_) q
  · obtain ⟨T, x, y, rfl, nT, rfl, hx, hy⟩ := hy
    exact ⟨same_new nT, T, x, y, rfl, hx _ (e.seq ha), hy _ (e.seq hb), upd_same⟩
  · obtain ⟨T, x, y, rfl, hx, hy, hT⟩ := it
    exact body i T x y H2 Re Rn hx hy hT e
/-- now, (giver, taker, amount) -/
theorem w_g13 {K : PySem.W.Frag} {n m i0 i1 i2 i3 : Nat} {p r : Addr} {z u v w : V} {σ : L2.St} {H : Hp} {Q : L2.St → Hp → Prop} (h : SqT K H p [z, .ref r]) (h' : SqT K H r [u, v, w]) (hn : n = 2) (hm : m = 3) (q : Q ((((σ.set i0 (some z)).set i1 (some u)).set i2 (some v)).set i3 (some w)) H) :
    gTup K n (gCons (gName i0) (gCons (gTup K m (gCons (gName i1) (gCons (gName i2) (gCons (gName i3) gNil)))) gNil)) (.ref p) σ H Q := by
  subst hn
  subst hm
  exact ⟨p, _, rfl, h, rfl, z, [.ref r], rfl, .ref r, [], rfl, r, _, rfl, h', rfl, u, [v, w], rfl, v, [w], rfl, w, [], rfl, rfl, rfl, q⟩
def mvm (rows : List (List Pr)) (m : Tr × Int) : List (List Pr) := mv rows m.1.1.toNat m.1.2.1.toNat (low m.1.2.2 m.2)
def spAll (C : Addr) : Sp := fun vs H Q _ => ∃ (a l : Addr) (rows : List (List Pr)) (m : Nat) (ws : List V) (ms : List (Tr × Int)), vs = [.ref a, .ref l] ∧ TabR C H a rows ∧ H l = some (.lst ws) ∧ PL (MvV C H) ws ms ∧ ms.length ≤ 24 ∧
  (∀ k, k ≤ ms.length → Sz ((ms.take k).foldl mvm rows) m) ∧ (∀ x ∈ ms, ∃ g t : Nat, x.1.1 = (g : Int) ∧ x.1.2.1 = (t : Int) ∧ g ≠ t ∧ g < rows.length ∧ t < rows.length ∧ Lp 1000 (low x.1.2.2 x.2)) ∧
  ∀ b H', H b = none → Same H H' → TabF C H H' b (ms.foldl mvm rows) → Q (.ref b) H'
theorem mv_len {rows : List (List Pr)} {g t : Nat} {y : Pr} : (mv rows g t y).length = rows.length := by
  unfold mv
  rw [List.length_set, List.length_set]
theorem mvm_len (rows : List (List Pr)) (ms : List (Tr × Int)) : (ms.foldl mvm rows).length = rows.length := by
  induction ms generalizing rows with
  | nil => rfl
  | cons m ms ih => exact (ih _).trans mv_len
theorem take_snoc' {β : Type} {xs : List β} {k : Nat} {x : β} (h : xs[k]? = some x) : xs.take (k + 1) = xs.take k ++ [x] := by
  have hk := (List.getElem?_eq_some_iff.mp h).1
  rw [List.take_succ, h]
  rfl
/-- the moves of possible transfers, on rows over one bottom -/
theorem mvs_at {ns : List Int} {ts : List Tr} {k : Nat} (h : k < ts.length) : (mvs ns ts)[k]? = some (ts.getD k t0, ((ts.take k).foldl vol1 ns).getD (ts.getD k t0).1.toNat 0) := by
  unfold mvs
  rw [List.getElem?_map, List.getElem?_range h]
  rfl
theorem mvs_len {ns : List Int} {ts : List Tr} : (mvs ns ts).length = ts.length := by
  unfold mvs
  rw [List.length_map, List.length_range]
theorem mvs_fold {ns : List Int} {ts : List Tr} (hn : ∀ x ∈ ns, 1 ≤ x ∧ x ≤ 1000000) (hp : psb ns ts = true) (hx : ∀ x ∈ ts, x.2.2 ≤ 1000000) (hl : ts.length ≤ 24) : ∀ k, k ≤ ts.length →
    ((mvs ns ts).take k).foldl mvm (nr ns.length (mx0 fun i => ns.getD i 0) 1) = nr ns.length (stt ns (ts.take k)).1 (stt ns (ts.take k)).2.1
  | 0, _ => rfl
  | k + 1, hk => by
    obtain ⟨x, hx'⟩ : ∃ x, ts[k]? = some x := ⟨_, List.getElem?_eq_getElem (by omega)⟩
    have hg := getD_at hx'
    have S := sinv_at hn hp hx hl k (by omega)
    have hp1 := psb_snoc hp hx'
    obtain ⟨g, t, eg, et, gl, tl, ne, d0, d1⟩ := psb1_of hp1
    rw [vol_len] at gl tl
    rw [take_snoc' (mvs_at (show k < ts.length by omega)), List.foldl_append, mvs_fold hn hp hx hl k (by omega), stt_take hx', hg]
    show mvm _ _ = _
    unfold mvm st1
    rw [stt_vol]
    rw [eg, et, Int.toNat_natCast, Int.toNat_natCast]
    exact mv_nr gl tl ne S.pos (by omega)
end G

namespace G
open PySem PySem.Spec PyProof.Rows L2
/-- [.. a draw ..  for turn in range(n)] -/
theorem w_lcDraws {te : TE} {σ : L2.St} {Q : VK} {H1 : Hp} {j n b : Nat} {a : Addr} (P : Int → Prop) (S : Src b H1 a) (hn : n ≤ 1000)
    (step : ∀ (k : Nat) H2 (R : VK), k < n → Src (b + k) H2 a → Fr a H1 H2 → (∀ i H', P i → Src (b + k + 1) H' a → Fr a H2 H' → R (.int i) H') → te ((σ.set j none).set j (some (.int (k : Int)))) H2 R)
    (q : ∀ L (ms : List Int) H', H1 L = none → Fr a H1 H' → H' L = some (.lst (ms.map V.int)) → ms.length = n → (∀ m ∈ ms, P m) → Src (b + n) H' a → Q (.ref L) H') : LcW (Itr 0 n) (gName j) tYes te [j] σ Q H1 := by
  intro D nD
  have aD : D ≠ a := S.ne nD
  refine ⟨fun i m H' => m = n - i ∧ i ≤ n ∧ Fr a H1 H' ∧ Src (b + i) H' a ∧ ∃ ms : List Int, H' D = some (.lst (ms.map V.int)) ∧ ms.length = i ∧ ∀ m ∈ ms, P m, ⟨n, by omega, Nat.zero_le _, .same (same_new nD), S.same (same_new nD), [], upd_same, rfl, nofun⟩, ?_⟩
  rintro i m H' ⟨rfl, hi, F, S', ms, hD, lm, pm⟩
  by_cases lt : i < n
  · refine .inr ⟨lt, fun H' => Fr a H1 H' ∧ Src (b + (i + 1)) H' a ∧ ∃ ms : List Int, H' D = some (.lst (ms.map V.int)) ∧ ms.length = i + 1 ∧ ∀ m ∈ ms, P m, fun H' ⟨x, y⟩ => ⟨n - (i + 1), by omega, rfl, by omega, x, y⟩, ?_⟩
    rintro x H2 ⟨rfl, rfl⟩
    rw [Int.zero_add]
    refine w_gn ⟨?_, w_yes (w_iteT rfl ?_)⟩
    · show ((σ.set j none).set j _).set j none = σ.set j none
      rw [List.set_set, List.set_set]
    refine step i _ _ lt S' F fun u H4 pu S4 f4 => ?_
    have hD4 := f4 _ _ aD hD
    refine ⟨_, hD4, by rw [show sizeLine = 16777216 from sizeLine_eq, List.length_map]; omega, fun c o nc hc => ?_, ?_, ms ++ [u], by rw [List.map_append]; exact upd_same, by rw [List.length_append, lm]; rfl, fun z hz => (List.mem_append.mp hz).elim (pm z) fun h => by rw [List.mem_singleton.mp h]; exact pu⟩
    · rw [upd_ne (ne_of_none hc nD)]
      exact f4 _ _ nc (F _ _ nc hc)
    · exact S4.fr (Ne.symm aD) Fr.at_
  · obtain rfl : i = n := by omega
    exact .inl ⟨Nat.le_refl _, q D ms H' nD F hD lm pm S'⟩
/-- volumes and possible transfers, drawn -/
def spOpen (K : PySem.W.Frag) : Sp := fun vs H Q _ => ∃ (s : Addr) (ns : List Int) (k : Int), vs = [.ref s, .int k] ∧ SqL K H s (ns.map V.int) ∧ ns.length ≤ 63 ∧ 0 ≤ k ∧ Bt 60 k ∧ ∀ p H', H p = none → Same H H' → Src 0 H' p → Q (.ref p) H'
def spCase (K : PySem.W.Frag) : Sp := fun vs H Q _ => ∃ (a c : Addr) (m n : Int) (b : Nat) (ns : List Int), vs = [.ref a, .ref c, .int m, .int n] ∧ Src b H a ∧ b + 1000 < 2 ^ 60 ∧ (∀ H', Fr a H H' → SqL K H' c (ns.map V.int)) ∧ 2 ≤ m ∧ m ≤ 8 ∧ 3 ≤ n ∧ n ≤ 24 ∧
  ∀ (p v l : Addr) (vn : List Int) (xs : List V) (ts : List Tr) (H' : Hp), H v = none → H l = none → H' p = some (.tup [.ref v, .ref l]) → Cs H' v l vn xs ts → v ≠ l → Src (b + 200) H' a → Fr a H H' → Q (.ref p) H'
def spNow : Sp := fun vs H Q _ => ∃ a l ns xs ts, vs = [.ref a, .ref l] ∧ Cs H a l ns xs ts ∧ ∀ w H', H w = none → Same H H' → H' w = some (.lst ((ts.foldl vol1 ns).map V.int)) → Q (.ref w) H'
/-- a table of whole numbers -/
def TabI (H : Hp) (a : Addr) (rows : List (List Int)) : Prop := ∃ vs, H a = some (.lst vs) ∧ PL (IntX a H) vs rows
theorem TabI.same {H H' : Hp} {a : Addr} {rows : List (List Int)} (h : TabI H a rows) (e : Same H H') : TabI H' a rows := let ⟨vs, b, c⟩ := h; ⟨vs, e _ _ b, c.imp fun _ _ o => o.same e⟩
def ir (n : Nat) (M : Mx) : List (List Int) := (List.range n).map fun i => (List.range n).map fun j => M i j
def spWhole2 : Sp := fun vs H Q _ => ∃ a l ns xs ts, vs = [.ref a, .ref l] ∧ Cs H a l ns xs ts ∧ ∀ p r H', H r = none → Same H H' → H' p = some (.tup [.ref r, .int (stt ns ts).2.1]) → TabI H' r (ir ns.length (stt ns ts).1) → Q (.ref p) H'
/-- whether rows of ratios are rows of integers over one bottom -/
def spFits (C : Addr) : Sp := fun vs H Q _ => ∃ (a r u : Addr) (n : Nat) (M : Mx) (D : Int), vs = [.ref a, .ref r, .ref u] ∧ TabR C H a (nr n M D) ∧ TabI H r (ir n M) ∧ H u = some (.lst (List.replicate n (.int D))) ∧ n ≤ 8 ∧ 0 < D ∧ Bt 1000 D ∧ (∀ i j, Bt 1000 (M i j)) ∧ ∀ H', Same H H' → Q (.bl true) H'
theorem psb_app : ∀ {us : List Tr} {ns : List Int} {x : Tr}, psb ns us = true → psb1 (us.foldl vol1 ns) x = true → psb ns (us ++ [x]) = true
  | [], ns, x, _, h => by
    have h : psb1 ns x = true := h
    show (psb1 ns x && true) = true
    rw [h]
    rfl
  | u :: us, ns, x, h, k => by
    obtain ⟨a, b⟩ := Bool.and_eq_true_iff.mp h
    show (psb1 ns u && psb (vol1 ns u) (us ++ [x])) = true
    rw [a, psb_app b k]
    rfl
end G
namespace G
open PySem PySem.Spec PyProof.Rows L2
theorem fr_free {a v : Addr} {H H' : Hp} (F : Fr a H H') (n : v ≠ a) (h : H' v = none) : H v = none := by
  cases c : H v with
  | none => rfl
  | some o =>
    have := F v o n c
    rw [h] at this
    cases this
end G

/-! zip of three lists. -/
namespace G
open PySem PySem.Spec PyProof.Rows L2
def Itz3 (K : PySem.W.Frag) (a b c : Addr) : It :=
  ⟨fun i H => ∃ (xs ys zs : List V) (x y z : V), SqL K H a xs ∧ SqL K H b ys ∧ SqL K H c zs ∧ xs[i]? = some x ∧ ys[i]? = some y ∧ zs[i]? = some z,
    fun i H v H' => ∃ T x y z, v = .ref T ∧ H T = none ∧ H' = upd H T (.tup [x, y, z]) ∧ (∀ xs, SqL K H a xs → xs[i]? = some x) ∧ (∀ ys, SqL K H b ys → ys[i]? = some y) ∧ ∀ zs, SqL K H c zs → zs[i]? = some z,
    fun i H => ∃ xs ys zs : List V, SqL K H a xs ∧ SqL K H b ys ∧ SqL K H c zs ∧ xs.length = i ∧ ys.length = i ∧ zs.length = i⟩
theorem turn_zip3 {P : Program} {w : World} {K : PySem.W.Frag} {elts : List Expr} {kk : Nat} {tpos : Pos} {a b c z TI TO i1 i2 i3 : Addr} (D : ZipSep3 z TI TO i1 i2 i3 [i1, a] [i2, b] [i3, c]) :
    Turn P w K (.Tuple elts kk tpos) (Itz3 K a b c) [z, TI, TO, i1, i2, i3] z (fun i h => IsZip h z TI TO .none ∧ IsTupOf3 h TI (.ref i1) (.ref i2) (.ref i3) ∧ (∃ x y u, IsTupOf3 h TO x y u) ∧ h.IsListIter i1 a i ∧ h.IsListIter i2 b i ∧ h.IsListIter i3 c i) where
  mem := by simp
  obj := fun i h st e hc => by
    obtain ⟨hz, hTI, ⟨x, y, u, hTO⟩, ⟨o1, e1, _, d1⟩, ⟨o2, e2, _, d2⟩, ⟨o3, e3, _, d3⟩⟩ := st
    have e' : e = z ∨ e = TI ∨ e = TO ∨ e = i1 ∨ e = i2 ∨ e = i3 := by simpa using hc
    rcases e' with q | q | q | q | q | q
    · rw [q]; exact ⟨_, hz, fun v q => nomatch q⟩
    · rw [q]; exact ⟨_, hTI, fun v q => nomatch q⟩
    · rw [q]; exact ⟨_, hTO, fun v q => nomatch q⟩
    · rw [q]; exact ⟨o1, e1, fun v q => by rw [d1] at q; cases q⟩
    · rw [q]; exact ⟨o2, e2, fun v q => by rw [d2] at q; cases q⟩
    · rw [q]; exact ⟨o3, e3, fun v q => by rw [d3] at q; cases q⟩
  keep := fun i h h' st k => by
    obtain ⟨hz, hTI, ⟨x, y, u, hTO⟩, h1, h2, h3⟩ := st
    exact ⟨k z (by simp) _ hz, k TI (by simp) _ hTI, ⟨x, y, u, k TO (by simp) _ hTO⟩, h1.at fun o q => k i1 (by simp) o q, h2.at fun o q => k i2 (by simp) o q, h3.at fun o q => k i3 (by simp) o q⟩
  item := by
    intro X hP hw hK hc i pins s σ H E I hf st hg
    subst hP hw hK
    obtain ⟨hz, hTI, ⟨x0, y0, u0, hTO⟩, h1, h2, h3⟩ := st
    obtain ⟨xs, ys, zs, x, y, u, hqx, hqy, hqz, hx, hy, hu⟩ := hg
    obtain ⟨its, rv, p, _⟩ := I.list hqx
    obtain ⟨its2, rv2, p2, _⟩ := I.list hqy
    obtain ⟨its3, rv3, p3, _⟩ := I.list hqz
    obtain ⟨w1, hw1, rw1⟩ := rv.get hx
    obtain ⟨w2, hw2, rw2⟩ := rv2.get hy
    obtain ⟨w3, hw3, rw3⟩ := rv3.get hu
    have hzl : z < s.heap.objs.size := Heap.lt_size hz
    have hd := I.ok.hd hc
    have ai1 : a ≠ i1 := fun e => by
      obtain ⟨o, ho, hc1, hd1⟩ := h1
      obtain ⟨o', ho', hc', _⟩ := p.isList
      rw [e, ho] at ho'
      cases ho'
      rw [hc1] at hc'
      injection hc' with hc'
      exact absurd hc' (by decide)
    have bi2 : b ≠ i2 := fun e => by
      obtain ⟨o, ho, hc1, hd1⟩ := h2
      obtain ⟨o', ho', hc', _⟩ := p2.isList
      rw [e, ho] at ho'
      cases ho'
      rw [hc1] at hc'
      injection hc' with hc'
      exact absurd hc' (by decide)
    have ci3 : c ≠ i3 := fun e => by
      obtain ⟨o, ho, hc1, hd1⟩ := h3
      obtain ⟨o', ho', hc', _⟩ := p3.isList
      rw [e, ho] at ho'
      cases ho'
      rw [hc1] at hc'
      injection hc' with hc'
      exact absurd hc' (by decide)
    have lt1 : i < its.toArray.size := by have := (List.getElem?_eq_some_iff.mp hw1).1; simpa using this
    have lt2 : i < its2.toArray.size := by have := (List.getElem?_eq_some_iff.mp hw2).1; simpa using this
    have lt3 : i < its3.toArray.size := by have := (List.getElem?_eq_some_iff.mp hw3).1; simpa using this
    refine wpAny_pyNext_zipD3_item D (Draws.list (A := X.A.in1) hd i1 a ai1 its.toArray) (Draws.list (A := X.A.in1) hd i2 b bi2 its2.toArray) (Draws.list (A := X.A.in1) hd i3 c ci3 its3.toArray) hz hTI hTO ⟨h1, p.isList⟩ ⟨h2, p2.isList⟩ ⟨h3, p3.isList⟩ lt1 lt2 lt3 fun u1 u2 u3 h' tk q1 q2 q3 z' TO' g1 g2 g3 hT hsz hk => ?_
    have e1 : u1 = w1 := by
      have q1 : its.toArray[i]? = some u1 := q1
      rw [List.getElem?_toArray, hw1] at q1
      exact (Option.some.inj q1).symm
    have e2 : u2 = w2 := by
      have q2 : its2.toArray[i]? = some u2 := q2
      rw [List.getElem?_toArray, hw2] at q2
      exact (Option.some.inj q2).symm
    have e3 : u3 = w3 := by
      have q3 : its3.toArray[i]? = some u3 := q3
      rw [List.getElem?_toArray, hw3] at q3
      exact (Option.some.inj q3).symm
    subst e1 e2 e3
    refine ⟨_, rfl, wpAny_letOwnedTupleGo_zip (s := { s with heap := h', toks := tk }) z' fun h'' z'' sb => ?_⟩
    have hT2 : h''.get? s.heap.objs.size = some { cls := .type "tuple", data := .seq #[u1, u2, u3] } := (sb.2 _ (Nat.ne_of_gt hzl)).trans hT
    have new : ObjOk X.prog X.w (upd H s.heap.objs.size (.tup [x, y, u])) h'' s.heap.objs.size (.tup [x, y, u]) :=
      ⟨by show 3 ≤ sizeLine; decide, [u1, u2, u3], .cons rw1 (.cons rw2 (.cons rw3 .nil)), ⟨_, hT2, rfl, _, rfl⟩⟩
    have I1 : Inv X pins σ (upd H s.heap.objs.size (.tup [x, y, u])) { s with heap := h'', toks := tk } :=
      I.turnedNew (t' := tk) (ch := [z, TI, TO, i1, i2, i3]) (fun e o hb q => (sb.2 e (fun q' => hb (by simp [q']))).trans (hk e o (fun q' => hb (by simp [q'])) (fun q' => hb (by simp [q'])) (fun q' => hb (by simp [q'])) (fun q' => hb (by simp [q'])) (fun q' => hb (by simp [q'])) q)) hf (Nat.le_refl _) new
    refine ⟨.ref s.heap.objs.size, _, I1, rfl, ⟨_, x, y, u, rfl, I.hok.fresh (Nat.le_refl _), rfl, fun l hl => by rw [I.list_inj hl hqx]; exact hx, fun l hl => by rw [I.list_inj hl hqy]; exact hy, fun l hl => by rw [I.list_inj hl hqz]; exact hu⟩, ⟨z'', ?_, ⟨u1, u2, u3, ?_⟩, ?_, ?_, ?_⟩, fun e hcm => ?_⟩
    · exact (sb.2 _ D.TIz).trans (hk _ _ D.TIz D.TITO D.TIi1 D.TIi2 D.TIi3 hTI)
    · exact (sb.2 _ D.TOz).trans TO'
    · exact g1.1.at fun o q => (sb.2 _ (Ne.symm D.zi1)).trans q
    · exact g2.1.at fun o q => (sb.2 _ (Ne.symm D.zi2)).trans q
    · exact g3.1.at fun o q => (sb.2 _ (Ne.symm D.zi3)).trans q
    · have hlt : e < s.heap.objs.size := by
        have e' : e = z ∨ e = TI ∨ e = TO ∨ e = i1 ∨ e = i2 ∨ e = i3 := by simpa using hcm
        rcases e' with q | q | q | q | q | q
        · rw [q]; exact hzl
        · rw [q]; exact Heap.lt_size hTI
        · rw [q]; exact Heap.lt_size hTO
        · rw [q]; obtain ⟨_, e1, _⟩ := h1; exact Heap.lt_size e1
        · rw [q]; obtain ⟨_, e2, _⟩ := h2; exact Heap.lt_size e2
        · rw [q]; obtain ⟨_, e3, _⟩ := h3; exact Heap.lt_size e3
      rw [upd_ne (Nat.ne_of_lt hlt)]
      exact (hf e hcm).1
  done := by
    intro X hP hw hK hc i pins s σ H E I hf st hg
    subst hP hw hK
    obtain ⟨hz, hTI, ⟨x0, y0, u0, hTO⟩, h1, h2, h3⟩ := st
    obtain ⟨xs, ys, zs, hqx, hqy, hqz, lx, ly, lz⟩ := hg
    obtain ⟨its, rv, p, _⟩ := I.list hqx
    obtain ⟨its2, rv2, p2, _⟩ := I.list hqy
    obtain ⟨its3, rv3, p3, _⟩ := I.list hqz
    have hd := I.ok.hd hc
    have l1 := rv.length
    have l2 := rv2.length
    have l3 := rv3.length
    have ai1 : a ≠ i1 := fun e => by
      obtain ⟨o, ho, hc1, hd1⟩ := h1
      obtain ⟨o', ho', hc', _⟩ := p.isList
      rw [e, ho] at ho'
      cases ho'
      rw [hc1] at hc'
      injection hc' with hc'
      exact absurd hc' (by decide)
    have bi2 : b ≠ i2 := fun e => by
      obtain ⟨o, ho, hc1, hd1⟩ := h2
      obtain ⟨o', ho', hc', _⟩ := p2.isList
      rw [e, ho] at ho'
      cases ho'
      rw [hc1] at hc'
      injection hc' with hc'
      exact absurd hc' (by decide)
    have ci3 : c ≠ i3 := fun e => by
      obtain ⟨o, ho, hc1, hd1⟩ := h3
      obtain ⟨o', ho', hc', _⟩ := p3.isList
      rw [e, ho] at ho'
      cases ho'
      rw [hc1] at hc'
      injection hc' with hc'
      exact absurd hc' (by decide)
    refine wpAny_pyNext_zipD3_end D (Draws.list (A := X.A.in1) hd i1 a ai1 its.toArray) (Draws.list (A := X.A.in1) hd i2 b bi2 its2.toArray) (Draws.list (A := X.A.in1) hd i3 c ci3 its3.toArray) hz hTI hTO ⟨h1, p.isList⟩ ⟨h2, p2.isList⟩ ⟨h3, p3.isList⟩ (by simp; omega) (by simp; omega) (by simp; omega) (.inl (by simp; omega)) fun h' tk hk => ⟨rfl, I.turnedL (t' := tk) (ch := [z, TI, TO, i1, i2, i3]) (fun e o hb q =>
      hk e o (fun q' => hb (by simp [q'])) (fun q' => hb (by simp [q'])) (fun q' => hb (by simp [q'])) (fun q' => hb (by simp [q'])) (fun q' => hb (by simp [q'])) q) hf⟩
  self := fun A i s Q E st h => wpAny_pyIter_zip st.1 h
theorem sep3 {n a b c : Nat} (la : a < n) (lb : b < n) (lc : c < n) : ZipSep3 (n + 5) (n + 3) (n + 4) n (n + 1) (n + 2) [n, a] [n + 1, b] [n + 2, c] where
  TIz := by show n + 3 ≠ n + 5; omega
  TOz := by show n + 4 ≠ n + 5; omega
  TITO := by show n + 3 ≠ n + 4; omega
  TIi1 := by show n + 3 ≠ n; omega
  mem1 := by simp
  zf1 := by simp only [List.mem_cons, List.not_mem_nil, or_false]; show ¬ (n + 5 = n ∨ n + 5 = a); omega
  Tf1 := by simp only [List.mem_cons, List.not_mem_nil, or_false]; show ¬ (n + 4 = n ∨ n + 4 = a); omega
  TIi2 := by show n + 3 ≠ n + 1; omega
  mem2 := by simp
  zf2 := by simp only [List.mem_cons, List.not_mem_nil, or_false]; show ¬ (n + 5 = n + 1 ∨ n + 5 = b); omega
  Tf2 := by simp only [List.mem_cons, List.not_mem_nil, or_false]; show ¬ (n + 4 = n + 1 ∨ n + 4 = b); omega
  TIi3 := by show n + 3 ≠ n + 2; omega
  mem3 := by simp
  zf3 := by simp only [List.mem_cons, List.not_mem_nil, or_false]; show ¬ (n + 5 = n + 2 ∨ n + 5 = c); omega
  Tf3 := by simp only [List.mem_cons, List.not_mem_nil, or_false]; show ¬ (n + 4 = n + 2 ∨ n + 4 = c); omega
  sep1_2 := by simp only [List.mem_cons, List.not_mem_nil, or_false]; show ¬ (n = n + 1 ∨ n = b); omega
  sep1_3 := by simp only [List.mem_cons, List.not_mem_nil, or_false]; show ¬ (n = n + 2 ∨ n = c); omega
  sep2_1 := by simp only [List.mem_cons, List.not_mem_nil, or_false]; show ¬ (n + 1 = n ∨ n + 1 = a); omega
  sep2_3 := by simp only [List.mem_cons, List.not_mem_nil, or_false]; show ¬ (n + 1 = n + 2 ∨ n + 1 = c); omega
  sep3_1 := by simp only [List.mem_cons, List.not_mem_nil, or_false]; show ¬ (n + 2 = n ∨ n + 2 = a); omega
  sep3_2 := by simp only [List.mem_cons, List.not_mem_nil, or_false]; show ¬ (n + 2 = n + 1 ∨ n + 2 = b); omega
def iZip3 (K : PySem.W.Frag) (ta : TA) : TI := fun σ H R => ta σ H fun vs H1 => ∃ a b c xs ys zs, vs = [.ref a, .ref b, .ref c] ∧ SqL K H1 a xs ∧ SqL K H1 b ys ∧ SqL K H1 c zs ∧ R (Itz3 K a b c) H1
theorem pi_zip3 {X : Cx} {e e2 e3 : Expr} {ta : TA} {p pos tpos : Pos} {elts : List Expr} {kk : Nat} (hg : Gl X "zip") (hm : X.mg "zip" = none) (ha : PA X [e, e2, e3] ta)
    (hs : starEach [e, e2, e3] X.env = (false, eval e X.env) :: starEach [e2, e3] X.env := by rfl) (hpl : (backTo pos (starEach [e2, e3] X.env)).any (·.1) = false := by rfl) :
    PI X (.Tuple elts kk tpos) (.Call (.Name "zip" p) [e, e2, e3] [] pos) (iZip3 X.K ta) := by
  refine ⟨fun pins s σ H R I h => ?_⟩
  refine Call_ (ld_blt I hg hm PyProof.Rows.boot_zip (PyProof.Rows.callWith_type1 (thn (ha.run pos pins s σ H _ I h) fun us s1 ⟨vs, H1, I1, r1, q1⟩ => ?_) hs hpl))
  obtain ⟨a, b, c, xs, ys, zs, ex, hqx, hqy, hqz, q⟩ := q1
  subst ex
  cases r1 with
  | cons r rr =>
    cases rr with
    | cons r' rr =>
      cases rr with
      | cons r'' rr =>
        cases rr
        cases r
        cases r'
        cases r''
        obtain ⟨its, rv, p1, _⟩ := I1.list hqx
        obtain ⟨its2, rv2, p2, _⟩ := I1.list hqy
        obtain ⟨its3, rv3, p3, _⟩ := I1.list hqz
        have la : a < s1.heap.objs.size := p1.lt
        have lb : b < s1.heap.objs.size := p2.lt
        have lc : c < s1.heap.objs.size := p3.lt
        refine zip_begins3 (begins_list a its.toArray) (begins_list b its2.toArray) (begins_list c its3.toArray) p1.isList p2.isList p3.isList fun h' hz hTI hTO h1 h2 h3 hsz hk => wpAny_pyIter_zip hz ?_
        have I2 : Inv X pins σ H1 { s1 with heap := h' } := I1.kept (t' := s1.toks) hk
        have D := sep3 la lb lc
        refine ⟨s1.heap.objs.size + 5, [s1.heap.objs.size + 5, s1.heap.objs.size + 3, s1.heap.objs.size + 4, s1.heap.objs.size, s1.heap.objs.size + 1, s1.heap.objs.size + 2], _, _, H1, rfl, I2, turn_zip3 D, ⟨hz, hTI, ⟨_, _, _, hTO⟩, ⟨_, h1, rfl, rfl⟩, ⟨_, h2, rfl, rfl⟩, ⟨_, h3, rfl, rfl⟩⟩, fun e hcm => ?_, q⟩
        have hle : s1.heap.objs.size ≤ e := by
          simp only [List.mem_cons, List.not_mem_nil, or_false] at hcm
          rcases hcm with z | z | z | z | z | z
          · rw [z]; exact Nat.le_add_right _ _
          · rw [z]; exact Nat.le_add_right _ _
          · rw [z]; exact Nat.le_add_right _ _
          · rw [z]; exact Nat.le_refl _
          · rw [z]; exact Nat.le_add_right _ _
          · rw [z]; exact Nat.le_add_right _ _
        exact I1.fpOk hle (I1.hok.fresh hle)
theorem w_iZip3 {K : PySem.W.Frag} {ta : TA} {σ : L2.St} {H : Hp} {R : It → Hp → Prop} (q : ta σ H fun vs H1 => ∃ a b c xs ys zs, vs = [.ref a, .ref b, .ref c] ∧ SqL K H1 a xs ∧ SqL K H1 b ys ∧ SqL K H1 c zs ∧ R (Itz3 K a b c) H1) : iZip3 K ta σ H R := q
end G
namespace G
open PySem PySem.Spec PyProof.Rows L2
theorem w_walkZ3 {σ : L2.St} {H : Hp} {K : PySem.W.Frag} {D : Ends} {a b c : Addr} {tb : TS} {g : TG} {xs ys zs : List V} {n : Nat} (lx : xs.length = n) (ly : ys.length = n) (lz : zs.length = n) (Pv : Nat → L2.St → Hp → Prop) (h0 : Pv 0 σ H)
    (hk : ∀ i σ' H', i ≤ n → Pv i σ' H' → SqL K H' a xs ∧ SqL K H' b ys ∧ SqL K H' c zs)
    (hs : ∀ (i : Nat) T x y z σ' H' H2, xs[i]? = some x → ys[i]? = some y → zs[i]? = some z → Pv i σ' H' → Same H' H2 → H2 T = some (.tup [x, y, z]) → g (.ref T) σ' H2 fun σ2 H3 => tb { nx := Pv (i + 1), rt := D.rt, ct := Pv (i + 1), bk := D.nx } σ2 H3)
    (hd : ∀ σ' H', Pv n σ' H' → D.nx σ' H') : ForW (Itz3 K a b c) g tb D σ H := by
  refine ⟨fun i m σ' H' => m = n - i ∧ i ≤ n ∧ Pv i σ' H', ⟨n, by omega, Nat.zero_le _, h0⟩, ?_⟩
  rintro i m σ' H' ⟨rfl, hi, p⟩
  obtain ⟨sa, sb, sc⟩ := hk i σ' H' hi p
  by_cases lt : i < n
  · have gt : ∀ (rs : List V), rs.length = n → rs[i]? = some (rs.getD i .non) := fun rs h => by rw [List.getD_eq_getElem?_getD, List.getElem?_eq_getElem (by omega)]; rfl
    refine .inr ⟨⟨xs, ys, zs, _, _, _, sa, sb, sc, gt xs lx, gt ys ly, gt zs lz⟩, Pv (i + 1), fun σ2 H2 p2 => ⟨n - (i + 1), by omega, rfl, by omega, p2⟩, ?_⟩
    rintro x H2 ⟨T, u, v, w, rfl, nT, rfl, hx, hy, hz⟩
    exact hs i T u v w σ' H' _ (hx _ sa) (hy _ sb) (hz _ sc) p (same_new nT) upd_same
  · obtain rfl : i = n := by omega
    exact .inl ⟨⟨xs, ys, zs, sa, sb, sc, lx, ly, lz⟩, hd σ' H' p⟩
end G
namespace G
open PySem PySem.Spec PyProof.Rows L2
theorem ir_get {n : Nat} {M : Mx} {i : Nat} (h : i < n) : (ir n M)[i]? = some ((List.range n).map fun j => M i j) := by
  unfold ir
  rw [List.getElem?_map, List.getElem?_range h]
  rfl
theorem ir_len {n : Nat} {M : Mx} : (ir n M).length = n := by
  unfold ir
  rw [List.length_map, List.length_range]
theorem ir_congr {n : Nat} {M M' : Mx} (h : ∀ i j, i < n → j < n → M i j = M' i j) : ir n M = ir n M' := by
  unfold ir
  refine List.map_congr_left fun i hi => List.map_congr_left fun j hj => h i j (List.mem_range.mp hi) (List.mem_range.mp hj)
theorem ir_set {n : Nat} {M : Mx} {i : Nat} {f : Nat → Int} (h : i < n) : (ir n M).set i ((List.range n).map f) = ir n fun i' j => if i' = i then f j else M i' j := by
  refine List.ext_getElem? fun k => ?_
  by_cases hk : k < n
  · rw [ir_get hk]
    by_cases e : k = i
    · subst e
      rw [List.getElem?_set_self (by rw [ir_len]; exact hk)]
      simp
    · rw [List.getElem?_set_ne (by omega), ir_get hk]
      simp [e]
  · rw [List.getElem?_eq_none (by rw [List.length_set, ir_len]; omega), List.getElem?_eq_none (by rw [ir_len]; omega)]
/-- some rows made anew -/
def mxp (M : Mx) (own a : Int) (g t i : Nat) : Mx := fun i' j => if i' < i ∧ i' ≠ g then own * M i' j + (if i' = t then a else 0) * M g j else M i' j
theorem mxp_succ {M : Mx} {own a : Int} {g t i n : Nat} (h : i ≠ g) : (fun i' j => if i' = i then own * M i j + (if i = t then a else 0) * M g j else mxp M own a g t i i' j) = mxp M own a g t (i + 1) := by
  funext i' j
  unfold mxp
  by_cases e : i' = i
  · subst e
    have c : i' < i' + 1 ∧ i' ≠ g := ⟨by omega, h⟩
    simp only [if_true, if_pos c]
  · simp only [if_neg e]
    by_cases c : i' < i ∧ i' ≠ g
    · have c2 : i' < i + 1 ∧ i' ≠ g := ⟨by omega, c.2⟩
      simp only [if_pos c, if_pos c2]
    · have c2 : ¬ (i' < i + 1 ∧ i' ≠ g) := by omega
      simp only [if_neg c, if_neg c2]
theorem mxp_skip {M : Mx} {own a : Int} {g t : Nat} : mxp M own a g t (g + 1) = mxp M own a g t g := by
  funext i' j
  unfold mxp
  by_cases c : i' < g ∧ i' ≠ g
  · have c2 : i' < g + 1 ∧ i' ≠ g := ⟨by omega, c.2⟩
    simp only [if_pos c, if_pos c2]
  · have c2 : ¬ (i' < g + 1 ∧ i' ≠ g) := by omega
    simp only [if_neg c, if_neg c2]
theorem mxp_zero {M : Mx} {own a : Int} {g t : Nat} : mxp M own a g t 0 = M := by
  funext i' j
  unfold mxp
  rw [if_neg (by omega)]
theorem mxp_end {M : Mx} {own a : Int} {g t n : Nat} : ir n (fun i' j => if i' = g then (own - a) * M g j else mxp M own a g t n i' j) = ir n (mx1 M own a g t) := by
  refine ir_congr fun i j hi hj => ?_
  unfold mx1 mxp
  by_cases e : i = g
  · rw [if_pos e, if_pos e]
  · rw [if_neg e, if_neg e, if_pos ⟨hi, e⟩]
theorem mxp_at {M : Mx} {own a : Int} {g t i : Nat} (j : Nat) : mxp M own a g t i i j = M i j := by
  unfold mxp
  rw [if_neg (by omega)]
theorem mxp_g {M : Mx} {own a : Int} {g t i : Nat} (j : Nat) : mxp M own a g t i g j = M g j := by
  unfold mxp
  rw [if_neg (by omega)]
theorem zipM {β : Type} (n : Nat) (f g : Nat → Int) (h : Int → Int → β) : (List.range ((List.range n).map f).length).map (fun i => h (((List.range n).map f).getD i 0) (((List.range n).map g).getD i 0)) = (List.range n).map fun j => h (f j) (g j) := by
  rw [List.length_map, List.length_range]
  refine List.map_congr_left fun i hi => ?_
  have hi := List.mem_range.mp hi
  rw [List.getD_eq_getElem?_getD, List.getD_eq_getElem?_getD, List.getElem?_map, List.getElem?_map, List.getElem?_range hi]
  rfl
theorem vals_ints {n : Nat} {f : Nat → Int} {vs : List V} (h : PL (fun v (y : Int) => v = .int y) vs ((List.range n).map f)) : vs = ((List.range n).map f).map V.int := pl_int h
end G
namespace G
open PySem PySem.Spec PyProof.Rows L2
theorem Cs.fr3 {H H' : Hp} {a l r : Addr} {ns : List Int} {xs zs : List V} {ts : List Tr} (h : Cs H a l ns xs ts) (hr : H r = some (.lst zs)) (F : Fr r H H') (ar : a ≠ r := by assumption) (lr : l ≠ r := by assumption) : Cs H' a l ns xs ts :=
  ⟨⟨F _ _ ar h.v.at_, h.v.pos, h.v.few, h.v.bd⟩, F _ _ lr h.at_, Ts.fr h.t hr F, h.gd, h.few, h.psb⟩
end G
namespace G
open PySem PySem.Spec PyProof.Rows L2
/-- a list of whole numbers that is neither the list at W nor the one at D -/
def IntW (W D : Addr) (H : Hp) (v : V) (ns : List Int) : Prop := ∃ l, v = .ref l ∧ l ≠ W ∧ l ≠ D ∧ H l = some (.lst (ns.map V.int))
theorem IntW.same {W D : Addr} {H H' : Hp} {v : V} {ns : List Int} (h : IntW W D H v ns) (e : Same H H') : IntW W D H' v ns := let ⟨l, a, m, n, b⟩ := h; ⟨l, a, m, n, e _ _ b⟩
theorem IntW.fr {W D : Addr} {H H' : Hp} {v : V} {ns : List Int} (h : IntW W D H v ns) (f : Fr D H H') : IntW W D H' v ns := let ⟨l, a, m, n, b⟩ := h; ⟨l, a, m, n, f _ _ n b⟩
theorem IntW.frw {W D : Addr} {H H' : Hp} {v : V} {ns : List Int} (h : IntW W D H v ns) (f : Fr W H H') : IntW W D H' v ns := let ⟨l, a, m, n, b⟩ := h; ⟨l, a, m, n, f _ _ m b⟩
theorem IntW.x {W D : Addr} {H : Hp} {v : V} {ns : List Int} (h : IntW W D H v ns) : IntX D H v ns := let ⟨l, a, _, n, b⟩ := h; ⟨l, a, n, b⟩
theorem mapInt_at {n j : Nat} {f : Nat → Int} {u : V} (hj : j < n) (h : (((List.range n).map f).map V.int)[j]? = some u) : u = V.int (f j) := by
  rw [List.getElem?_map, List.getElem?_map, List.getElem?_range hj] at h
  exact (Option.some.inj h).symm
end G

namespace G
open PySem PySem.Spec PyProof.Rows L2
/-- kept, (rows, bottom) -/
theorem w_g12 {K : PySem.W.Frag} {n m i0 i1 i2 : Nat} {p r : Addr} {z u v : V} {σ : L2.St} {H : Hp} {Q : L2.St → Hp → Prop} (h : SqT K H p [z, .ref r]) (h' : SqT K H r [u, v]) (hn : n = 2) (hm : m = 2) (q : Q (((σ.set i0 (some z)).set i1 (some u)).set i2 (some v)) H) :
    gTup K n (gCons (gName i0) (gCons (gTup K m (gCons (gName i1) (gCons (gName i2) gNil))) gNil)) (.ref p) σ H Q := by
  subst hn
  subst hm
  exact ⟨p, _, rfl, h, rfl, z, [.ref r], rfl, .ref r, [], rfl, r, _, rfl, h', rfl, u, [v], rfl, v, [], rfl, rfl, rfl, q⟩
def csD (ns : List Int) (ts : List Tr) : PyData := .list [.list (ns.map PyData.int), lnD ts]
theorem w_reprC {K : PySem.W.Frag} {H : Hp} {Q : VK} {p a l : Addr} {ns : List Int} {xs : List V} {ts : List Tr} (hp : H p = some (.lst [.ref a, .ref l])) (C : Cs H a l ns xs ts) (q : Q (.str (csD ns ts).shown) H) : rRepr K [.ref p] H Q := by
  have big : (2000000 : Nat) < 2 ^ 1900 := by decide +kernel
  have l1 : lim (.list (ns.map PyData.int)) := lim_list fun d hd => by
    obtain ⟨n, hn, rfl⟩ := List.mem_map.mp hd
    have := C.v.bd n hn
    simp only [lim]
    exact Nat.lt_trans (by omega : n.natAbs < 2000000) big
  have c1 : cnt (.list (ns.map PyData.int)) ≤ 20 := by
    simp only [cnt]
    have := cntAll_le (m := 1) (ds := ns.map PyData.int) fun d hd => by
      obtain ⟨n, _, rfl⟩ := List.mem_map.mp hd
      simp only [cnt]
      omega
    rw [List.length_map] at this
    have := C.v.few
    omega
  have d1 : (PyData.list (ns.map PyData.int)).depth ≤ 2 := by
    have := depthAll_le (m := 0) (ds := ns.map PyData.int) fun d hd => by
      obtain ⟨n, _, rfl⟩ := List.mem_map.mp hd
      simp only [PyData.depth]
      omega
    simp only [PyData.depth]
    omega
  refine w_repr (.lst (SqL.of hp) (.cons (dp_ints (SqL.of C.v.at_)) (.cons (ln_dp C.at_ C.t) .nil))) (lim_two l1 (lnD_lim C.gd)) q (decide_eq_true ?_) (decide_eq_true ?_)
  · have := lnD_cnt C.few
    rw [show cnt (.list [.list (ns.map PyData.int), lnD ts]) = cnt (.list (ns.map PyData.int)) + (cnt (lnD ts) + 0) + 1 from by simp only [cnt, cntAll]]
    omega
  · have := depthAll_le (m := 2) (ds := [.list (ns.map PyData.int), lnD ts]) fun d hd => by
      simp only [List.mem_cons, List.not_mem_nil, or_false] at hd
      rcases hd with rfl | rfl
      · exact d1
      · exact lnD_depth ts
    simp only [PyData.depth]
    omega
theorem sm_bt {b : Nat} {f : Nat → Int} (h : ∀ j, Bt b (f j)) : ∀ k, Bt (b + k) (sm k f)
  | 0 => by show Bt (b + 0) 0; exact Bt.mono (a := 0) (by unfold Bt; decide) (by omega)
  | k + 1 => by
    rw [sm_succ]
    exact Bt.mono (Bt.add (sm_bt h k) (h k)) (by omega)
theorem take_lows {n k : Nat} {f : Nat → Pr} (h : k ≤ n) : ((List.range n).map f).take k = (List.range k).map f := by
  rw [← List.map_take, List.take_range, Nat.min_eq_left h]
theorem low_whole {v D : Int} (hD : 0 < D) : low (D * v) D = low v 1 := by
  have := low_scale (i := v) (j := 1) (c := D) (by decide) hD
  rw [Int.one_mul, Int.mul_comm v D] at this
  exact this
/-- the sum of a row over one bottom -/
theorem w_total {C : Addr} {H : Hp} {Q : VK} {E : XK} {l : Addr} {rs : List V} {n b : Nat} {f : Nat → Int} {D v : Int} (hl : H l = some (.lst rs)) (pR : PL (RatV C H) rs ((List.range n).map fun j => low (f j) D)) (hn : n ≤ 8) (hb : b ≤ 3000) (hD : 0 < D) (bD : Bt 3000 D) (bf : ∀ j, Bt b (f j)) (hs : sm n f = D * v)
    (q : ∀ r H', H r = none → Same H H' → Rat C H' r (low v 1).1 (low v 1).2 → Q (.ref r) H') (sp : Sp) (hsp : sp = fun vs H Q _ => ∃ l rs xs, vs = [.ref l] ∧ H l = some (.lst rs) ∧ Rats C H rs xs ∧ rs.length ≤ 1000 ∧ (∀ x ∈ xs, Lp 3500 x) ∧ (∀ k, k ≤ xs.length → Lp 3500 (tot (xs.take k))) ∧
      ∀ r H', H r = none → Same H H' → Rat C H' r (tot xs).1 (tot xs).2 → Q (.ref r) H') : sp [.ref l] H Q E := by
  subst hsp
  have lr := PL.len pR
  rw [List.length_map, List.length_range] at lr
  have ds : Bt 3500 D := bD.mono (by decide)
  refine ⟨l, rs, _, rfl, hl, PL.rats pR, by omega, fun x hx => ?_, fun k hk => ?_, fun r H' nr e R => ?_⟩
  · obtain ⟨j, _, rfl⟩ := List.mem_map.mp hx
    exact Lp.low hD ((bf j).mono (by omega)) ds
  · rw [List.length_map, List.length_range] at hk
    rw [take_lows hk, tot_lows hD]
    exact Lp.low hD ((sm_bt bf k).mono (by omega)) ds
  · rw [tot_lows hD, hs, low_whole hD] at R
    exact q r H' nr e R
def spRightC : Sp := fun vs H Q _ => ∃ a l ns xs ts, vs = [.ref a, .ref l] ∧ Cs H a l ns xs ts ∧ ∀ H', Same H H' → Q (.bl true) H'
end G
namespace G
open PySem PySem.Spec PyProof.Rows L2
theorem psb_take : ∀ {ns : List Int} {ts : List Tr} (k : Nat), psb ns ts = true → psb ns (ts.take k) = true
  | ns, [], k, h => by rw [List.take_nil]; rfl
  | ns, x :: ts, 0, h => rfl
  | ns, x :: ts, k + 1, h => by
    obtain ⟨a, b⟩ := Bool.and_eq_true_iff.mp h
    show (psb1 ns x && psb (vol1 ns x) (ts.take k)) = true
    rw [a, psb_take k b]
    rfl
theorem Cs.take {H : Hp} {a l s : Addr} {ns : List Int} {xs : List V} {ts : List Tr} (C : Cs H a l ns xs ts) (k : Nat) (h : H s = some (.lst (xs.take k))) : Cs H a s ns (xs.take k) (ts.take k) :=
  ⟨C.v, h, PL.take C.t k, fun x hx => C.gd x (List.mem_of_mem_take hx), by rw [List.length_take]; have := C.few; omega, psb_take k C.psb⟩
/-- two ratios that are equal -/
def RtE (C : Addr) (a b : Addr) (H : Hp) : Prop := ∃ x : Pr, G.Rat C H a x.1 x.2 ∧ G.Rat C H b x.1 x.2
theorem mon_rt {C : Addr} : ∀ a b H H', Ext H H' → RtE C a b H → RtE C a b H' := fun a b H H' e ⟨x, R, S⟩ => ⟨x, R.same e, S.same e⟩
theorem dins_rt {C : Addr} {H : Hp} {a b : Addr} {x : Pr} (R : G.Rat C H a x.1 x.2) (S : G.Rat C H b x.1 x.2) : DIns C (RtE C) (.ref a) (.ref b) H := by
  obtain ⟨dx, hx⟩ := id R
  obtain ⟨dy, hy⟩ := id S
  exact ⟨a, b, dx, dy, _, _, rfl, rfl, hx, hy, x, R, S⟩
/-- rows of ratios -/
theorem prs_rt {C : Addr} {H : Hp} {vs ws : List V} {xs : List Pr} (h : PL (RatV C H) vs xs) : PL (RatV C H) ws xs → Prs (DIns C (RtE C)) vs ws H := by
  intro k
  refine ⟨(PL.len h).trans (PL.len k).symm, fun i x y hx hy => ?_⟩
  obtain ⟨z, hz, a, rfl, R⟩ := h.get hx
  obtain ⟨z', hz', b, rfl, S⟩ := k.get hy
  rw [hz] at hz'
  cases hz'
  exact dins_rt R S
theorem dlist_rows {C : Addr} {H : Hp} {a b : Addr} {vs ws : List V} {rows : List (List Pr)} (ha : H a = some (.lst vs)) (hb : H b = some (.lst ws)) (p : PL (RowR C H) vs rows) (q : PL (RowR C H) ws rows) : DList (DList (DIns C (RtE C))) (.ref a) (.ref b) H := by
  refine ⟨a, b, vs, ws, rfl, rfl, ha, hb, (PL.len p).trans (PL.len q).symm, fun i x y hx hy => ?_⟩
  obtain ⟨z, hz, l, rs, rfl, hl, R⟩ := p.get hx
  obtain ⟨z', hz', m, us, rfl, hm, S⟩ := q.get hy
  rw [hz] at hz'
  cases hz'
  exact ⟨l, m, rs, us, rfl, rfl, hl, hm, prs_rt R S⟩
def exT : List Tr := [(0, (1, 1)), (1, (0, 1))]
theorem ex_rows : nr 2 (stt [3, 2] exT).1 (stt [3, 2] exT).2.1 = [[low 7 3, low 2 3], [low 2 3, low 4 3]] := by decide +kernel
theorem ex_psb : psb [3, 2] exT = true := by decide +kernel
end G

/-! != of lists of lists of ratios that are equal. -/
namespace GQ
open PySem PySem.SeqAt
open AutoSeq1 (wpAny_loadPart')
open MeetsSeq MeetsSeq2 MeetsSeq3 SeqRoads2
section
variable {prog : Program} {w : World} {A : Around} {R : Result → Shared → Prop}
theorem ne_turns (l b : Addr) (N : Nat) (J : Nat → Shared → Prop) (hl : ListI prog w A (fun e t => R (.error e) t) l b N J)
    (fin : ∀ t, J N t → R (.ok (.ret (.bool false))) t) : ∀ (k i : Nat), N - i = k → i ≤ N → ∀ t, J i t →
      wpAny (model prog w) A.in1 (Builtin.«list.__eq__.loop» ⟨[.ref l, .ref b, rawInt i, rawInt 3], []⟩) (FinOf prog w A R) (fun e t' => R (.error e) t') t
  | 0, i, hk, hi, t, h => by
    obtain ⟨xs, ys, n, m, g1, g2, z1, z2, _⟩ := hl _ _ h
    have ei : i = N := by omega
    have q : R (.ok (.ret (.bool false))) t := fin t (ei ▸ h)
    obtain ⟨hp, g, d, tk, os⟩ := t
    wp_walk using wpAny_loadPart' g1, wpAny_loadPart' g2
    have a1 : xs[((i : Nat) : Int).toNat]? = none := by simp; omega
    have a2 : ys[((i : Nat) : Int).toNat]? = none := by simp; omega
    rw [a1, a2]
    wp_walk using wpAny_loadPart' g1, wpAny_loadPart' g2
    show R (.ok (.ret (.bool (xs.size != ys.size)))) _
    rw [z1, z2]
    simpa using q
  | k + 1, i, hk, hi, t, h => by
    obtain ⟨xs, ys, n, m, g1, g2, z1, z2, turn⟩ := hl _ _ h
    have l1 : i < xs.size := by omega
    have l2 : i < ys.size := by omega
    have ht := turn l1 l2
    obtain ⟨hp, g, d, tk, os⟩ := t
    wp_walk using wpAny_loadPart' g1, wpAny_loadPart' g2
    have a1 : xs[((i : Nat) : Int).toNat]? = some xs[i] := by simp [l1]
    have a2 : ys[((i : Nat) : Int).toNat]? = some ys[i] := by simp [l2]
    have ec : ((i : Int) + 1) = ((i + 1 : Nat) : Int) := by omega
    rw [a1, a2]
    refine wpAny_bind (wpAny_mono ht (fun r t2 q2 => ?_) fun _ _ x => x)
    obtain ⟨er, q2⟩ := q2
    subst er
    have rec_ := ne_turns l b N J hl fin k (i + 1) (by omega) (by omega) t2 q2
    obtain ⟨hp2, g2', d2, tk2, os2⟩ := t2
    wp_walk
    rw [ec]
    exact ⟨plainId_quiet plain_eq_loop _, codeAny_builtin entry_eq_loop (by
      rw [Around.under_plainId plain_eq_loop _]
      exact rec_)⟩
theorem list_neG (l b : Addr) (N : Nat) (J : Nat → Shared → Prop) (hl : ListI prog w A (fun e t => R (.error e) t) l b N J)
    (fin : ∀ t, J N t → R (.ok (.ret (.bool false))) t) {t : Shared} (h : J 0 t) :
    wpAny (model prog w) A.in1 (Builtin.«list.__ne__» ⟨[.ref l, .ref b], []⟩) (FinOf prog w A R) (fun e t' => R (.error e) t') t := by
  obtain ⟨xs, ys, n, m, g1, g2, z1, z2, _⟩ := hl _ _ h
  have rec_ := ne_turns (A := A) (R := R) l b N J hl fin _ 0 rfl (Nat.zero_le _) t h
  obtain ⟨hp, g, d, tk, os⟩ := t
  have f3 := AutoSeq1.sub_list_list
  have hne : ¬ (xs.size != ys.size) = true := by simp [z1, z2]
  wp_walk using wpAny_loadPart' g1, wpAny_loadPart' g2
  exact ⟨plainId_quiet plain_eq_loop _, codeAny_builtin entry_eq_loop (by
    rw [Around.under_plainId plain_eq_loop _]
    exact rec_)⟩
end
section
variable {prog : Program} {w : World} {A : Around} {E : Value → Shared → Prop} {t : Shared}
theorem rn_listG {l b : Addr} {N : Nat} {Q : Value → Shared → Prop} (hu : A.units < cLine) (J : Nat → Shared → Prop) (hl : ListI prog w A E l b N J)
    (fin : ∀ s, J N s → Q (.bool false) s) (h : J 0 t) : wpAny (model prog w) A (richCompare .NotEq (.ref l) (.ref b)) Q E t := by
  obtain ⟨xs, ys, n, m, g1, g2, _, _, _⟩ := hl _ _ h
  refine wpAny_richCompare_same_room (op := .NotEq) ⟨_, g1, rfl⟩ ⟨_, g2, rfl⟩ F.slot_list_ne (call_here F.slot_list_ne ⟨_, g1, rfl⟩ F.entry_list_ne (F.args_list_ne_2 _ _) ?_) hu
  exact list_neG (R := wants (fun v s' => v ≠ .notImplemented ∧ Q v s') E) l b N J hl (fun s' q => ⟨(fun x => nomatch x), fin s' q⟩) h
end
end GQ
namespace G
open PySem PySem.Spec PyProof.Rows L2
section
variable {X : Cx} {n : Nat} {D : Eqv}
def rNeG (D : Eqv) : R2 := fun x y H Q => D x y H ∧ ∀ H', Ext H H' → Q (.bl false) H'
theorem op_neG (hD : Mon D) (h : EqG X n D) (hr : Room (n + 1) X.A) : OpR X (compareOp .NotEq) (rNeG (DList D)) := by
  intro pins s σ H x y v u Q I rx ry hq
  obtain ⟨⟨a, b, xs, ys, rfl, rfl, ha, hb, p⟩, q⟩ := hq
  cases rx
  cases ry
  show wpAny (model X.prog X.w) X.A (richCompare .NotEq (.ref a) (.ref b)) (EP X pins σ Q) X.xe s
  have sb : Sub X (n + 1) X.A := ⟨hr, rfl⟩
  refine GQ.rn_listG (N := xs.length) sb.room.units0 (fun _ s' => LoopI X pins σ H s') (fun i s' q => ?_) (fun s' l => ?_) ⟨H, I, Ext.rfl'⟩
  · obtain ⟨H1, I1, e1⟩ := id q
    obtain ⟨z, its, k, r, e⟩ := I1.hok a _ (e1 _ _ ha)
    obtain ⟨z2, its2, k2, r2, e2⟩ := I1.hok b _ (e1 _ _ hb)
    exact ⟨its.toArray, its2.toArray, k, k2, e, e2, by rw [List.size_toArray, ← r.length], by rw [List.size_toArray, ← r2.length, ← p.1], fun h1 h2 => turnG hD h sb p r r2 i h1 h2 s' q⟩
  · obtain ⟨H1, I1, e1⟩ := l
    exact ⟨.bl false, H1, I1, rfl, q H1 e1⟩
end
theorem w_neG {D : Eqv} {x y : V} {H : Hp} {Q : VK} (d : D x y H) (q : ∀ H', Same H H' → Q (.bl false) H') : rNeG D x y H Q := ⟨d, fun H' e => q H' e⟩
theorem w_eqG {D : Eqv} {x y : V} {H : Hp} {Q : VK} (d : D x y H) (q : ∀ H', Same H H' → Q (.bl true) H') : rEqG D x y H Q := ⟨d, fun H' e => q H' e⟩
end G

/-! Any contents, poured. -/
namespace G
open PySem PySem.Spec PyProof.Rows L2
def gr (n w : Nat) (M : Mx) (D : Int) : List (List Pr) := (List.range n).map fun i => (List.range w).map fun j => low (M i j) D
theorem gr_get {n w : Nat} {M : Mx} {D : Int} {i : Nat} (h : i < n) : (gr n w M D)[i]? = some ((List.range w).map fun j => low (M i j) D) := by
  unfold gr
  rw [List.getElem?_map, List.getElem?_range h]
  rfl
theorem gr_getD {n w : Nat} {M : Mx} {D : Int} {i : Nat} (h : i < n) : (gr n w M D).getD i [] = (List.range w).map fun j => low (M i j) D := by
  rw [List.getD_eq_getElem?_getD, gr_get h]
  rfl
theorem gr_len {n w : Nat} {M : Mx} {D : Int} : (gr n w M D).length = n := by
  unfold gr
  rw [List.length_map, List.length_range]
theorem gr_congr {n w : Nat} {M M' : Mx} {D D' : Int} (h : ∀ i j, i < n → j < w → low (M i j) D = low (M' i j) D') : gr n w M D = gr n w M' D' := by
  unfold gr
  exact List.map_congr_left fun i hi => List.map_congr_left fun j hj => h i j (List.mem_range.mp hi) (List.mem_range.mp hj)
theorem gr_sz {n w : Nat} {M : Mx} {D : Int} (hn : n ≤ 8) (hw : w ≤ 8) (hD : 0 < D) (bD : Bt 1000 D) (bM : ∀ i j, Bt 1000 (M i j)) : Sz (gr n w M D) w := by
  refine ⟨by rw [gr_len]; exact hn, hw, fun r hr => ?_⟩
  obtain ⟨i, _, rfl⟩ := List.mem_map.mp hr
  refine ⟨by rw [List.length_map, List.length_range], fun x hx => ?_⟩
  obtain ⟨j, _, rfl⟩ := List.mem_map.mp hx
  exact Lp.low hD (bM i j) bD
theorem mv_gr {n w : Nat} {M : Mx} {D a o : Int} {g t : Nat} (hg : g < n) (ht : t < n) (ne : g ≠ t) (hD : 0 < D) (ho : 0 < o) : mv (gr n w M D) g t (low a o) = gr n w (mx1 M o a g t) (D * o) := by
  unfold mv
  rw [gr_getD hg, gr_getD ht, List.map_map]
  rw [show ((fun x => jn 2 x (low a o)) ∘ fun j => low (M g j) D) = fun j => jn 2 (low (M g j) D) (low a o) from rfl, zip_maps, zip_maps]
  refine List.ext_getElem? fun i => ?_
  by_cases hi : i < n
  · rw [gr_get hi]
    by_cases e2 : i = t
    · subst e2
      rw [List.getElem?_set_self (by rw [List.length_set, gr_len]; exact hi)]
      congr 1
      refine List.map_congr_left fun j _ => ?_
      rw [add_lows hD ho]
      unfold mx1
      rw [if_neg (show i ≠ g by omega), if_pos rfl]
    · rw [List.getElem?_set_ne (by omega)]
      by_cases e1 : i = g
      · subst e1
        rw [List.getElem?_set_self (by rw [gr_len]; exact hi)]
        congr 1
        refine List.map_congr_left fun j _ => ?_
        rw [sub_lows hD ho]
        unfold mx1
        rw [if_pos rfl]
      · rw [List.getElem?_set_ne (by omega), gr_get hi]
        congr 1
        refine List.map_congr_left fun j _ => ?_
        unfold mx1
        rw [if_neg e1, if_neg e2, Int.zero_mul, Int.add_zero, Int.mul_comm o]
        exact (low_scale hD ho).symm
  · rw [List.getElem?_eq_none (by rw [List.length_set, List.length_set, gr_len]; omega), List.getElem?_eq_none (by rw [gr_len]; omega)]
/-! ### the steps from any contents -/
def stg (C : Mx) (B : Int) (ns : List Int) (ts : List Tr) : Stt := ts.foldl st1 (C, B, ns)
theorem stg_take {C : Mx} {B : Int} {ns : List Int} {ts : List Tr} {k : Nat} {x : Tr} (h : ts[k]? = some x) : stg C B ns (ts.take (k + 1)) = st1 (stg C B ns (ts.take k)) x := by
  unfold stg
  rw [take_snoc h, List.foldl_append]
  rfl
theorem stg_vol (C : Mx) (B : Int) (ns : List Int) (ts : List Tr) : (stg C B ns ts).2.2 = ts.foldl vol1 ns := by
  unfold stg
  have : ∀ (ts : List Tr) (s : Stt), (ts.foldl st1 s).2.2 = ts.foldl vol1 s.2.2 := by
    intro ts
    induction ts with
    | nil => exact fun _ => rfl
    | cons x ts ih => exact fun s => ih (st1 s x)
  exact this ts _
theorem stg_app (C : Mx) (B : Int) (ns : List Int) (ts us : List Tr) : stg C B ns (ts ++ us) = stg (stg C B ns ts).1 (stg C B ns ts).2.1 (ts.foldl vol1 ns) us := by
  have e := stg_vol C B ns ts
  unfold stg at *
  rw [List.foldl_append, ← e]
structure GInv (ns : List Int) (w b k : Nat) (s : Stt) : Prop where
  len : s.2.2.length = ns.length
  pos : 0 < s.2.1
  dbt : Bt (25 * k + b) s.2.1
  mbt : ∀ i j, Bt (b + 26 * k) (s.1 i j)
  vol : ∀ x ∈ s.2.2, 1 ≤ x ∧ x ≤ 1000000 * (k + 1)
  row : ∀ i, i < ns.length → sm w (s.1 i) = s.2.1 * s.2.2.getD i 0
  nn : ∀ i j, 0 ≤ s.1 i j
theorem mx1_roww {n w : Nat} {M : Mx} {D own a : Int} {v : Nat → Int} {g t : Nat} (hg : g < n) (ho : own = v g) (h : ∀ i, i < n → sm w (M i) = D * v i) (i : Nat) (hi : i < n) :
    sm w (mx1 M own a g t i) = D * own * (if i = g then v g - a else if i = t then v t + a else v i) := by
  unfold mx1
  by_cases e : i = g
  · subst e
    simp only [if_true]
    rw [sm_mul, h i hi, ← ho, Int.mul_comm (own - a) (D * own)]
  · simp only [if_neg e]
    rw [sm_add, sm_mul, sm_mul, h i hi, h g hg, ← ho]
    by_cases e2 : i = t
    · subst e2
      simp only [if_true]
      rw [Int.mul_add, ← Int.mul_assoc, Int.mul_comm own D, Int.mul_comm a]
    · simp only [if_neg e2]
      rw [Int.zero_mul, Int.add_zero, ← Int.mul_assoc, Int.mul_comm own D]
theorem mx1_nn {M : Mx} {own a : Int} {g t : Nat} (ho : 0 ≤ own) (ha : 0 ≤ a) (hao : a ≤ own) (h : ∀ i j, 0 ≤ M i j) (i j : Nat) : 0 ≤ mx1 M own a g t i j := by
  unfold mx1
  split
  · exact Int.mul_nonneg (by omega) (h g j)
  · have h1 := Int.mul_nonneg ho (h i j)
    have h2 : 0 ≤ (if i = t then a else 0) * M g j := Int.mul_nonneg (by split <;> omega) (h g j)
    omega
theorem ginv1 {ns : List Int} {w b k : Nat} {s : Stt} {x : Tr} (h : GInv ns w b k s) (hp : psb1 s.2.2 x = true) (hx : x.2.2 ≤ 1000000) (hk : k ≤ 24) : GInv ns w b (k + 1) (st1 s x) := by
  obtain ⟨g, t, hg, ht, gl, tl, ne, d0, d1⟩ := psb1_of hp
  have gv := h.vol _ (getD_mem' gl)
  have eg : x.1.toNat = g := by omega
  have et : x.2.1.toNat = t := by omega
  have gl' : g < ns.length := by rw [← h.len]; exact gl
  have tl' : t < ns.length := by rw [← h.len]; exact tl
  unfold st1
  rw [eg, et]
  have o25 : s.2.2.getD g 0 < 2 ^ 25 := by omega
  refine ⟨?_, ?_, ?_, fun i j => ?_, fun y hy => ?_, fun i hi => ?_, fun i j => ?_⟩
  · show (vol1 s.2.2 x).length = _
    rw [vol1_len, h.len]
  · exact Int.mul_pos h.pos (by omega)
  · have bo : Bt 25 (s.2.2.getD g 0) := by unfold Bt; omega
    exact Bt.mono (Bt.mul h.dbt bo) (by omega)
  · exact Bt.mono (mx1_bt ⟨by omega, o25⟩ ⟨by omega, by omega⟩ h.mbt i j) (by omega)
  · have hy : y ∈ vol1 s.2.2 x := hy
    obtain ⟨i, hi, rfl⟩ := mem_getD hy
    rw [vol1_len] at hi
    rw [vol1_at hg ht gl tl ne]
    have tv := h.vol _ (getD_mem' tl)
    have iv := h.vol _ (getD_mem' hi)
    split
    · omega
    · split <;> omega
  · show sm w (mx1 s.1 (s.2.2.getD g 0) x.2.2 g t i) = s.2.1 * s.2.2.getD g 0 * (vol1 s.2.2 x).getD i 0
    rw [vol1_at hg ht gl tl ne]
    exact mx1_roww (v := fun i => s.2.2.getD i 0) gl' rfl h.row i hi
  · exact mx1_nn (by omega) (by omega) (by omega) h.nn i j
theorem ginv_at {C : Mx} {B : Int} {ns : List Int} {w b : Nat} {ts : List Tr} (h0 : GInv ns w b 0 (C, B, ns)) (hp : psb ns ts = true) (hx : ∀ x ∈ ts, x.2.2 ≤ 1000000) (hl : ts.length ≤ 24) : ∀ k, k ≤ ts.length → GInv ns w b k (stg C B ns (ts.take k))
  | 0, _ => h0
  | k + 1, hk => by
    obtain ⟨x, hx'⟩ : ∃ x, ts[k]? = some x := ⟨_, List.getElem?_eq_getElem (by omega)⟩
    rw [stg_take hx']
    exact ginv1 (ginv_at h0 hp hx hl k (by omega)) (by rw [stg_vol]; exact psb_snoc hp hx') (hx x (List.mem_of_getElem? hx')) (by omega)
theorem mvs_foldg {C : Mx} {B : Int} {ns : List Int} {w b : Nat} {ts : List Tr} (h0 : GInv ns w b 0 (C, B, ns)) (hp : psb ns ts = true) (hx : ∀ x ∈ ts, x.2.2 ≤ 1000000) (hl : ts.length ≤ 24) : ∀ k, k ≤ ts.length →
    ((mvs ns ts).take k).foldl mvm (gr ns.length w C B) = gr ns.length w (stg C B ns (ts.take k)).1 (stg C B ns (ts.take k)).2.1
  | 0, _ => rfl
  | k + 1, hk => by
    obtain ⟨x, hx'⟩ : ∃ x, ts[k]? = some x := ⟨_, List.getElem?_eq_getElem (by omega)⟩
    have hg := getD_at hx'
    have S := ginv_at h0 hp hx hl k (by omega)
    have hp1 := psb_snoc hp hx'
    obtain ⟨g, t, eg, et, gl, tl, ne, d0, d1⟩ := psb1_of hp1
    rw [vol_len] at gl tl
    rw [take_snoc' (mvs_at (show k < ts.length by omega)), List.foldl_append, mvs_foldg h0 hp hx hl k (by omega), stg_take hx', hg]
    show mvm _ _ = _
    unfold mvm st1
    rw [stg_vol]
    rw [eg, et, Int.toNat_natCast, Int.toNat_natCast]
    exact mv_gr gl tl ne S.pos (by omega)
/-! ### what is poured is a sum of what was there -/
def mxI : Mx := fun i k => if k = i then 1 else 0
theorem mx1_scale {M T : Mx} {c : Nat → Int} {own a : Int} {g t : Nat} (h : ∀ i j, M i j = T i j * c j) (i j : Nat) : mx1 M own a g t i j = mx1 T own a g t i j * c j := by
  unfold mx1
  split
  · rw [h, Int.mul_assoc]
  · rw [h i j, h g j, Int.add_mul, Int.mul_assoc, Int.mul_assoc]
theorem mx1_sum {n : Nat} {M T C : Mx} {own a : Int} {g t : Nat} (hg : g < n) (h : ∀ i, i < n → ∀ j, M i j = sm n fun k => T i k * C k j) (i : Nat) (hi : i < n) (j : Nat) : mx1 M own a g t i j = sm n fun k => mx1 T own a g t i k * C k j := by
  unfold mx1
  by_cases e : i = g
  · simp only [if_pos e]
    rw [h g hg, ← sm_mul]
    exact sm_congr fun k _ => (Int.mul_assoc _ _ _).symm
  · simp only [if_neg e]
    rw [h i hi, h g hg, ← sm_mul, ← sm_mul, ← sm_add]
    exact sm_congr fun k _ => by rw [Int.add_mul, Int.mul_assoc, Int.mul_assoc]
theorem stt_scale (ns : List Int) (ts : List Tr) : (∀ i j, (stt ns ts).1 i j = (stg mxI 1 ns ts).1 i j * ns.getD j 0) ∧ (stt ns ts).2 = (stg mxI 1 ns ts).2 := by
  unfold stt stg
  have : ∀ (ts : List Tr) (s u : Stt), (∀ i j, s.1 i j = u.1 i j * ns.getD j 0) → s.2 = u.2 → (∀ i j, (ts.foldl st1 s).1 i j = (ts.foldl st1 u).1 i j * ns.getD j 0) ∧ (ts.foldl st1 s).2 = (ts.foldl st1 u).2 := by
    intro ts
    induction ts with
    | nil => exact fun s u a b => ⟨a, b⟩
    | cons x ts ih =>
      intro s u a b
      refine ih (st1 s x) (st1 u x) (fun i j => ?_) ?_
      · show mx1 s.1 _ _ _ _ i j = mx1 u.1 _ _ _ _ i j * _
        rw [b]
        exact mx1_scale a i j
      · show (s.2.1 * _, vol1 s.2.2 x) = (u.2.1 * _, vol1 u.2.2 x)
        rw [b]
  refine this ts _ _ (fun i j => ?_) rfl
  show (if j = i then ns.getD i 0 else 0) = (if j = i then (1 : Int) else 0) * ns.getD j 0
  by_cases e : j = i
  · subst e
    rw [if_pos rfl, if_pos rfl, Int.one_mul]
  · rw [if_neg e, if_neg e, Int.zero_mul]
theorem stg_sum {C : Mx} {B : Int} {ns : List Int} {ts : List Tr} (hp : psb ns ts = true) : ∀ k, k ≤ ts.length → (∀ i, i < ns.length → ∀ j, (stg C B ns (ts.take k)).1 i j = sm ns.length fun m => (stg mxI 1 ns (ts.take k)).1 i m * C m j) ∧ (stg C B ns (ts.take k)).2.1 = B * (stg mxI 1 ns (ts.take k)).2.1
  | 0, _ => by
    refine ⟨fun i hi j => ?_, (Int.mul_one B).symm⟩
    show C i j = sm ns.length fun m => (if m = i then 1 else 0) * C m j
    rw [show (fun m => (if m = i then (1 : Int) else 0) * C m j) = fun m => if m = i then C i j else 0 from funext fun m => by
      by_cases e : m = i
      · subst e; rw [if_pos rfl, if_pos rfl, Int.one_mul]
      · rw [if_neg e, if_neg e, Int.zero_mul]]
    exact (sm_one hi _).symm
  | k + 1, hk => by
    obtain ⟨x, hx'⟩ : ∃ x, ts[k]? = some x := ⟨_, List.getElem?_eq_getElem (by omega)⟩
    obtain ⟨a, b⟩ := stg_sum (C := C) (B := B) hp k (by omega)
    have e1 := stg_vol C B ns (ts.take k)
    have e2 := stg_vol mxI 1 ns (ts.take k)
    obtain ⟨g, t, eg, et, gl, tl, ne, d0, d1⟩ := psb1_of (psb_snoc hp hx')
    rw [vol_len] at gl
    rw [stg_take hx', stg_take hx']
    unfold st1
    rw [e1, e2, eg, et, Int.toNat_natCast, Int.toNat_natCast]
    refine ⟨fun i hi j => mx1_sum gl a i hi j, ?_⟩
    show (stg C B ns (ts.take k)).2.1 * _ = B * ((stg mxI 1 ns (ts.take k)).2.1 * _)
    rw [b, Int.mul_assoc]
/-- equal shares stay so -/
theorem stg_even {p : Nat → Int} {S : Int} {ns : List Int} {ts : List Tr} (hp : psb ns ts = true) : ∀ k, k ≤ ts.length → ∀ i, i < ns.length → ∀ j, (stg (fun i j => p j * ns.getD i 0) S ns (ts.take k)).1 i j = p j * ((ts.take k).foldl vol1 ns).getD i 0 * (stg mxI 1 ns (ts.take k)).2.1
  | 0, _ => fun i _ j => by
    show p j * ns.getD i 0 = p j * ns.getD i 0 * 1
    rw [Int.mul_one]
  | k + 1, hk => fun i hi j => by
    obtain ⟨x, hx'⟩ : ∃ x, ts[k]? = some x := ⟨_, List.getElem?_eq_getElem (by omega)⟩
    have ih := stg_even (p := p) (S := S) hp k (by omega)
    have e1 := stg_vol (fun i j => p j * ns.getD i 0) S ns (ts.take k)
    have e2 := stg_vol mxI 1 ns (ts.take k)
    obtain ⟨g, t, eg, et, gl, tl, ne, d0, d1⟩ := psb1_of (psb_snoc hp hx')
    have gl' := gl
    rw [vol_len] at gl
    rw [stg_take hx', stg_take hx', take_snoc hx', List.foldl_append]
    unfold st1
    rw [e1, e2, eg, et, Int.toNat_natCast, Int.toNat_natCast]
    show mx1 _ _ _ _ _ i j = p j * (vol1 _ x).getD i 0 * _
    rw [vol1_at eg et gl' tl ne]
    generalize (ts.take k).foldl vol1 ns = cur at *
    generalize (stg mxI 1 ns (ts.take k)).2.1 = Dt at *
    unfold mx1
    rw [ih g gl, ih i hi]
    by_cases e : i = g
    · rw [if_pos e, if_pos e]
      grind
    · rw [if_neg e, if_neg e]
      by_cases e2 : i = t
      · subst e2
        rw [if_pos rfl, if_pos rfl]
        grind
      · rw [if_neg e2, if_neg e2]
        grind
end G
namespace G
open PySem PySem.Spec PyProof.Rows L2
def spRow (C : Addr) : Sp := fun vs H Q _ => ∃ v xs, vs = [v] ∧ RowR C H v xs ∧ 1 ≤ xs.length ∧ xs.length ≤ 8 ∧ ∀ H', Same H H' → Q (.bl true) H'
/-- contents: rows over one bottom -/
structure Ctn (C : Addr) (H : Hp) (a : Addr) (n w : Nat) (M : Mx) (D : Int) : Prop where
  tab : TabR C H a (gr n w M D)
  n1 : 1 ≤ n
  n8 : n ≤ 8
  w1 : 1 ≤ w
  w8 : w ≤ 8
  pos : 0 < D
  bD : Bt 1000 D
  bM : ∀ i j, Bt 1000 (M i j)
  nn : ∀ i j, 0 ≤ M i j
theorem Ctn.same {C : Addr} {H H' : Hp} {a : Addr} {n w : Nat} {M : Mx} {D : Int} (h : Ctn C H a n w M D) (e : Same H H') : Ctn C H' a n w M D := ⟨h.tab.same e, h.n1, h.n8, h.w1, h.w8, h.pos, h.bD, h.bM, h.nn⟩
def spRws (C : Addr) : Sp := fun vs H Q _ => ∃ a n w M D, vs = [.ref a] ∧ Ctn C H a n w M D ∧ ∀ H', Same H H' → Q (.bl true) H'
def spNoLess (C : Addr) : Sp := fun vs H Q _ => ∃ (v : V) (w : Nat) (f : Nat → Int) (D : Int), vs = [v] ∧ RowR C H v ((List.range w).map fun j => low (f j) D) ∧ w ≤ 8 ∧ 0 < D ∧ Bt 1000 D ∧ (∀ j, Bt 1000 (f j)) ∧ (∀ j, 0 ≤ f j) ∧ ∀ H', Same H H' → Q (.bl false) H'
def spFill (C : Addr) : Sp := fun vs H Q _ => ∃ (v : V) (w : Nat) (f : Nat → Int) (D x : Int), vs = [v, .int x] ∧ RowR C H v ((List.range w).map fun j => low (f j) D) ∧ w ≤ 8 ∧ 0 < D ∧ Bt 1000 D ∧ (∀ j, Bt 1000 (f j)) ∧ (∀ j, 0 ≤ f j) ∧ sm w f = D * x ∧ ∀ H', Same H H' → Q (.bl true) H'
def spIsCt (C : Addr) : Sp := fun vs H Q _ => ∃ (a c : Addr) (ns : List Int) (w : Nat) (M : Mx) (D : Int), vs = [.ref a, .ref c] ∧ H a = some (.lst (ns.map V.int)) ∧ Ctn C H c ns.length w M D ∧ (∀ i, i < ns.length → sm w (M i) = D * ns.getD i 0) ∧ ∀ H', Same H H' → Q (.bl true) H'
def spChkC (C : Addr) : Sp := fun vs H Q _ => ∃ (a c : Addr) (ns : List Int) (w : Nat) (M : Mx) (D : Int), vs = [.ref a, .ref c] ∧ H a = some (.lst (ns.map V.int)) ∧ Ctn C H c ns.length w M D ∧ (∀ i, i < ns.length → sm w (M i) = D * ns.getD i 0) ∧ ∀ H', Same H H' → Q .non H'
def spPour (C : Addr) : Sp := fun vs H Q _ => ∃ (a l c : Addr) (ns : List Int) (xs : List V) (ts : List Tr) (w b : Nat) (M : Mx) (B : Int), vs = [.ref a, .ref l, .ref c] ∧ Cs H a l ns xs ts ∧ TabR C H c (gr ns.length w M B) ∧ 1 ≤ w ∧ w ≤ 8 ∧ GInv ns w b 0 (M, B, ns) ∧ b + 26 * ts.length ≤ 900 ∧
  ∀ r H', H r = none → Same H H' → TabF C H H' r (gr ns.length w (stg M B ns ts).1 (stg M B ns ts).2.1) → Q (.ref r) H'
theorem low_nn {x D : Int} (hD : 0 < D) (h : 0 ≤ x) : 0 ≤ (low x D).1 := Int.ediv_nonneg h (by omega)
theorem cr_anyK {X : Cx} {K : PySem.W.Frag} (hK : X.K = K) (hc : X.calm = true) : CallR X (.builtin "any") (rAny K) := by rw [← hK]; exact cr_any hc
end G
namespace G
open PySem PySem.Spec PyProof.Rows L2
theorem call_lenK {X : Cx} {K : PySem.W.Frag} (hK : X.K = K) : CallR X (.builtin "len") (fun xs H Q => ∃ x n, xs = [x] ∧ LenV K x H n ∧ Q (.int ((n : Nat) : Int)) H) := by rw [← hK]; exact call_len
end G

/-! Sums of rows; contents, drawn. -/
namespace G
open PySem PySem.Spec PyProof.Rows L2
theorem w_walkZ {σ : L2.St} {H : Hp} {K : PySem.W.Frag} {D : Ends} {a b : Addr} {tb : TS} {g : TG} {xs ys : List V} {n : Nat} (lx : xs.length = n) (ly : ys.length = n) (Pv : Nat → L2.St → Hp → Prop) (h0 : Pv 0 σ H)
    (hk : ∀ i σ' H', i ≤ n → Pv i σ' H' → SqL K H' a xs ∧ SqL K H' b ys)
    (hs : ∀ (i : Nat) T x y σ' H' H2, xs[i]? = some x → ys[i]? = some y → Pv i σ' H' → Same H' H2 → H2 T = some (.tup [x, y]) → g (.ref T) σ' H2 fun σ2 H3 => tb { nx := Pv (i + 1), rt := D.rt, ct := Pv (i + 1), bk := D.nx } σ2 H3)
    (hd : ∀ σ' H', Pv n σ' H' → D.nx σ' H') : ForW (Itz K a b) g tb D σ H := by
  refine ⟨fun i m σ' H' => m = n - i ∧ i ≤ n ∧ Pv i σ' H', ⟨n, by omega, Nat.zero_le _, h0⟩, ?_⟩
  rintro i m σ' H' ⟨rfl, hi, p⟩
  obtain ⟨sa, sb⟩ := hk i σ' H' hi p
  by_cases lt : i < n
  · have gt : ∀ (rs : List V), rs.length = n → rs[i]? = some (rs.getD i .non) := fun rs h => by rw [List.getD_eq_getElem?_getD, List.getElem?_eq_getElem (by omega)]; rfl
    refine .inr ⟨⟨xs, ys, _, _, sa, sb, gt xs lx, gt ys ly⟩, Pv (i + 1), fun σ2 H2 p2 => ⟨n - (i + 1), by omega, rfl, by omega, p2⟩, ?_⟩
    rintro x H2 ⟨T, u, v, rfl, nT, rfl, hx, hy⟩
    exact hs i T u v σ' H' _ (hx _ sa) (hy _ sb) p (same_new nT) upd_same
  · obtain rfl : i = n := by omega
    exact .inl ⟨⟨xs, ys, sa, sb, .inl (by omega)⟩, hd σ' H' p⟩
theorem cr_sumK {X : Cx} {K : PySem.W.Frag} (hK : X.K = K) (hc : X.calm = true) : CallR X (.builtin "sum") (rSum K) := by rw [← hK]; exact cr_sum hc
theorem w_sum {K : PySem.W.Frag} {H : Hp} {Q : VK} {a : Addr} {ns : List Int} (h : SqL K H a (ns.map V.int)) (q : Q (.int ns.sum) H) : rSum K [.ref a] H Q := ⟨a, ns, rfl, h, q⟩
theorem w_sorted {K : PySem.W.Frag} {H : Hp} {Q : VK} {a : Addr} {ns : List Int} (h : SqL K H a (ns.map V.int)) (l : ns.length < 64) (q : ∀ (ms : List Int) p H', ms.Perm ns → ms.Pairwise (· ≤ ·) → H p = none → Same H H' → H' p = some (.lst (ms.map V.int)) → Q (.ref p) H') : rSorted K [.ref a] H Q :=
  ⟨a, ns, rfl, h, l, fun ms p pm st np => q ms p _ pm st np (same_new np) upd_same⟩
theorem add_lowsD {a b d : Int} (hd : 0 < d) : jn 0 (low a d) (low b d) = low (a + b) d := by
  rw [jn_lows (.inl rfl) hd hd, if_neg (by decide)]
  rw [show a * d + (1 - 2 * 0) * b * d = (a + b) * d from by grind]
  exact low_scale hd hd
def spSumOf (C : Addr) : Sp := fun vs H Q _ => ∃ (a t : Addr) (us : List V) (n w : Nat) (M : Mx) (B : Int) (f : Nat → Int) (E : Int), vs = [.ref a, .ref t] ∧ TabR C H a (gr n w M B) ∧ H t = some (.lst us) ∧ PL (RatV C H) us ((List.range n).map fun k => low (f k) E) ∧ 1 ≤ n ∧ n ≤ 8 ∧ w ≤ 8 ∧ 0 < B ∧ 0 < E ∧ Bt 100 B ∧ Bt 700 E ∧ (∀ i j, Bt 100 (M i j)) ∧ (∀ k, Bt 700 (f k)) ∧
  ∀ r H', H r = none → Same H H' → RowR C H' (.ref r) ((List.range w).map fun j => low (sm n fun k => f k * M k j) (E * B)) → Q (.ref r) H'
def spDueP (C : Addr) : Sp := fun vs H Q _ => ∃ (a l c : Addr) (ns : List Int) (xs : List V) (ts : List Tr) (w b : Nat) (M : Mx) (B : Int), vs = [.ref a, .ref l, .ref c] ∧ Cs H a l ns xs ts ∧ TabR C H c (gr ns.length w M B) ∧ 1 ≤ w ∧ w ≤ 8 ∧ GInv ns w b 0 (M, B, ns) ∧ b ≤ 100 ∧
  ∀ r H', H r = none → Same H H' → TabR C H' r (gr ns.length w (stg M B ns ts).1 (stg M B ns ts).2.1) → Q (.ref r) H'
def spCtd (C : Addr) : Sp := fun vs H Q _ => ∃ (s a : Addr) (ns : List Int) (w b : Nat), vs = [.ref s, .ref a, .int (w : Int)] ∧ Src b H s ∧ b + 300 < 2 ^ 60 ∧ Vl H a ns ∧ a ≠ s ∧ 1 ≤ w ∧ w ≤ 8 ∧
  ∀ r M B H', H r = none → Fr s H H' → Src (b + 200) H' s → TabF C H H' r (gr ns.length w M B) → GInv ns w 43 0 (M, B, ns) → Q (.ref r) H'
def spRightP (C : Addr) : Sp := fun vs H Q _ => ∃ (a l c : Addr) (ns : List Int) (xs : List V) (ts : List Tr) (w : Nat) (M : Mx) (B : Int), vs = [.ref a, .ref l, .ref c] ∧ Cs H a l ns xs ts ∧ TabR C H c (gr ns.length w M B) ∧ 1 ≤ w ∧ w ≤ 8 ∧ GInv ns w 43 0 (M, B, ns) ∧
  ∀ H', Same H H' → Q (.bl true) H'
theorem gr_snoc {k w : Nat} {M : Mx} {B : Int} {f : Nat → Int} : gr k w M B ++ [(List.range w).map fun j => low (f j) B] = gr (k + 1) w (fun i j => if i = k then f j else M i j) B := by
  unfold gr
  rw [List.range_succ, List.map_append, List.map_singleton]
  congr 1
  · refine List.map_congr_left fun i hi => ?_
    have := List.mem_range.mp hi
    simp only [if_neg (show i ≠ k by omega)]
  · simp
/-! ### parted at places -/
def gaps (w : Nat) (es : List Int) (c : Int) : Nat → Int := fun j => if j < w then (es.getD (j + 1) 0 - es.getD j 0) * c else 0
theorem sm_gaps {w : Nat} {es : List Int} {c : Int} : ∀ k, k ≤ w → sm k (gaps w es c) = (es.getD k 0 - es.getD 0 0) * c
  | 0, _ => by rw [sm_zero, Int.sub_self, Int.zero_mul]
  | k + 1, h => by
    rw [sm_succ, sm_gaps k (by omega)]
    unfold gaps
    rw [if_pos (by omega)]
    grind
theorem ends_in {w : Nat} {ms : List Int} {v : Int} (hl : ms.length + 1 = w) (h0 : 0 ≤ v) (hb : ∀ m ∈ ms, 0 ≤ m ∧ m ≤ v) (j : Nat) (hj : j ≤ w) : 0 ≤ (0 :: ms ++ [v]).getD j 0 ∧ (0 :: ms ++ [v]).getD j 0 ≤ v := by
  have hm : (0 :: ms ++ [v]).getD j 0 ∈ (0 :: ms ++ [v]) := getD_mem' (by simp; omega)
  simp only [List.cons_append, List.mem_cons, List.mem_append, List.not_mem_nil, or_false] at hm
  rcases hm with h | h | h
  · simp only [List.cons_append] at *; omega
  · exact hb _ h
  · simp only [List.cons_append] at *; omega
theorem ends_up {ms : List Int} {v : Int} (h0 : 0 ≤ v) (hb : ∀ m ∈ ms, 0 ≤ m ∧ m ≤ v) (hs : ms.Pairwise (· ≤ ·)) : (0 :: ms ++ [v]).Pairwise (· ≤ ·) := by
  rw [List.cons_append, List.pairwise_cons]
  refine ⟨fun x hx => ?_, ?_⟩
  · rcases List.mem_append.mp hx with h | h
    · exact (hb x h).1
    · rw [List.mem_singleton.mp h]; exact h0
  · rw [List.pairwise_append]
    refine ⟨hs, List.pairwise_singleton _ _, fun x hx y hy => ?_⟩
    rw [List.mem_singleton.mp hy]
    exact (hb x hx).2
theorem ends_le {es : List Int} (h : es.Pairwise (· ≤ ·)) {j : Nat} (hj : j + 1 < es.length) : es.getD j 0 ≤ es.getD (j + 1) 0 := by
  rw [List.getD_eq_getElem?_getD, List.getD_eq_getElem?_getD, List.getElem?_eq_getElem hj, List.getElem?_eq_getElem (by omega)]
  exact List.pairwise_iff_getElem.mp h j (j + 1) (by omega) hj (by omega)
theorem gaps_ok {w : Nat} {ms : List Int} {v c : Int} (hl : ms.length + 1 = w) (h0 : 0 ≤ v) (hb : ∀ m ∈ ms, 0 ≤ m ∧ m ≤ v) (hs : ms.Pairwise (· ≤ ·)) (hc : 0 ≤ c) (lt : v * c < 2 ^ 43) : sm w (gaps w (0 :: ms ++ [v]) c) = v * c ∧ (∀ j, 0 ≤ gaps w (0 :: ms ++ [v]) c j) ∧ ∀ j, Bt 43 (gaps w (0 :: ms ++ [v]) c j) := by
  have nn : ∀ j, 0 ≤ gaps w (0 :: ms ++ [v]) c j ∧ gaps w (0 :: ms ++ [v]) c j ≤ v * c := fun j => by
    unfold gaps
    split
    · next hj =>
      have i1 := ends_in hl h0 hb j (by omega)
      have i2 := ends_in hl h0 hb (j + 1) (by omega)
      have i3 := ends_le (ends_up h0 hb hs) (j := j) (by simp; omega)
      exact ⟨Int.mul_nonneg (by omega) hc, Int.mul_le_mul_of_nonneg_right (by omega) hc⟩
    · exact ⟨Int.le_refl _, Int.mul_nonneg h0 hc⟩
  refine ⟨?_, fun j => (nn j).1, fun j => ?_⟩
  · rw [sm_gaps w (Nat.le_refl _)]
    have e1 : (0 :: ms ++ [v]).getD w 0 = v := by
      rw [← hl, List.getD_eq_getElem?_getD, List.cons_append, List.getElem?_cons_succ, List.getElem?_append_right (Nat.le_refl _)]
      simp
    rw [e1]
    show (v - 0) * c = _
    rw [Int.sub_zero]
  · have := nn j
    unfold Bt
    generalize gaps w (0 :: ms ++ [v]) c j = x at *
    omega
theorem bt_at {d : Int} (h0 : 0 ≤ d) (h1 : d < 4) : ∃ m c : Int, atI [V.int 1, V.int 2, V.int 7, V.int 1000000] d = some (.int m) ∧ 0 < m ∧ m ≤ 1000000 ∧ 0 < c ∧ m * c = 7000000 := by
  have c : d = 0 ∨ d = 1 ∨ d = 2 ∨ d = 3 := by omega
  rcases c with rfl | rfl | rfl | rfl
  · exact ⟨1, 7000000, rfl, by decide, by decide, by decide, by decide⟩
  · exact ⟨2, 3500000, rfl, by decide, by decide, by decide, by decide⟩
  · exact ⟨7, 1000000, rfl, by decide, by decide, by decide, by decide⟩
  · exact ⟨1000000, 7, rfl, by decide, by decide, by decide, by decide⟩
end G
namespace G
open PySem PySem.Spec PyProof.Rows L2
theorem rowF_so {C D so : Addr} {H0 H H' : Hp} {b b0 : Nat} {v : V} {xs : List Pr} (o : RowF C D H0 H v xs) (S : Src b H so) (S0 : Src b0 H0 so) (f : Fr so H H') : RowF C D H0 H' v xs := by
  obtain ⟨l, rs, e, n, m, hl, c⟩ := o
  obtain ⟨x, y, z, hs, _⟩ := S
  exact ⟨l, rs, e, n, m, f _ _ (S0.ne m) hl, rats_fr c hs f⟩
theorem tabF_so {C D so : Addr} {H0 H H' : Hp} {b b0 : Nat} {rows : List (List Pr)} (o : TabF C H0 H D rows) (S : Src b H so) (S0 : Src b0 H0 so) (n : H0 D = none) (f : Fr so H H') : TabF C H0 H' D rows := by
  obtain ⟨vs, hD, p⟩ := o
  exact ⟨vs, f _ _ (S0.ne n) hD, p.imp fun _ _ o => rowF_so o S S0 f⟩
theorem w_catL {K : PySem.W.Frag} {H : Hp} {Q : VK} {l b : Addr} {xs zs : List V} (hl : SqL K H l xs) (hb : SqL K H b zs) (n : xs.length + zs.length ≤ 1000000) (q : ∀ p H', H p = none → Same H H' → H' p = some (.lst (xs ++ zs)) → Q (.ref p) H') : rCatL K (.ref l) (.ref b) H Q := ⟨l, b, xs, zs, rfl, rfl, hl, hb, n, q⟩
end G
namespace G
open PySem PySem.Spec PyProof.Rows L2
/-- every parameter by its name, the last one first -/
theorem kbn_rev {fd : FuncData} {ps ks : List Str} {K : PySem.W.Frag} (h : ∀ ws : List Value, ws.length = ks.length → bindArgs fd ⟨[], ks.zip ws⟩ = pure (ps.zip ws.reverse)) : KBn K fd ps 0 ks (fun _ ws => ws.reverse) (fun _ zs => zs.reverse) :=
  ⟨fun s us ws _ l1 l2 => by
    have e : us = [] := List.length_eq_zero_iff.mp l1
    subst e
    exact .of_eq (h ws l2), fun _ r => r.reverse⟩
theorem dlist_tabs {C : Addr} {H : Hp} {a b : Addr} {rows : List (List Pr)} (h : TabR C H a rows) (k : TabR C H b rows) : DList (DList (DIns C (RtE C))) (.ref a) (.ref b) H := by
  obtain ⟨vs, ha, p⟩ := h
  obtain ⟨ws, hb, q⟩ := k
  exact dlist_rows ha hb (p.imp fun _ _ o => o.row) (q.imp fun _ _ o => o.row)
end G
namespace G
open PySem PySem.Spec PyProof.Rows L2
theorem Cs.so {H H' : Hp} {a l p : Addr} {ns : List Int} {xs : List V} {ts : List Tr} {b : Nat} (h : Cs H a l ns xs ts) (S : Src b H p) (ap : a ≠ p) (lp : l ≠ p) (F : Fr p H H') : Cs H' a l ns xs ts := by
  obtain ⟨x, y, z, hs, _⟩ := S
  exact h.fr3 hs F ap lp
theorem psb_drop : ∀ {ns : List Int} {ts : List Tr} (k : Nat), psb ns ts = true → psb ((ts.take k).foldl vol1 ns) (ts.drop k) = true
  | ns, ts, 0, h => by rw [List.take_zero, List.drop_zero]; exact h
  | ns, [], k + 1, h => rfl
  | ns, x :: ts, k + 1, h => by
    obtain ⟨a, b⟩ := Bool.and_eq_true_iff.mp h
    exact psb_drop k b
theorem map_getD (ms : List Int) : (List.range ms.length).map (fun j => ms.getD j 0) = ms := by
  refine List.ext_getElem (by simp) fun i h1 h2 => ?_
  rw [List.getElem_map, List.getElem_range, List.getD_eq_getElem?_getD, List.getElem?_eq_getElem h2]
  rfl
theorem sm_parts {w : Nat} {ms : List Int} (h : ms.length = w) (v : Int) : sm w (fun j => ms.getD j 0 * v) = ms.sum * v := by
  rw [show (fun j => ms.getD j 0 * v) = fun j => v * ms.getD j 0 from funext fun j => Int.mul_comm _ _, sm_mul, Int.mul_comm]
  congr 1
  unfold sm
  rw [← h, map_getD]
theorem sum_parts : ∀ {ms : List Int}, (∀ m ∈ ms, 1 ≤ m ∧ m ≤ 5) → (ms.length : Int) ≤ ms.sum ∧ ms.sum ≤ 5 * (ms.length : Int)
  | [], _ => by simp
  | m :: ms, h => by
    have a := h m (List.mem_cons_self ..)
    have b := sum_parts fun x hx => h x (List.mem_cons_of_mem _ hx)
    rw [List.sum_cons, List.length_cons]
    omega
theorem getD_in {ns : List Int} {lo hi : Int} (h : ∀ n ∈ ns, lo ≤ n ∧ n ≤ hi) (h0 : lo ≤ 0) (h1 : 0 ≤ hi) (i : Nat) : lo ≤ ns.getD i 0 ∧ ns.getD i 0 ≤ hi := by
  by_cases c : i < ns.length
  · exact h _ (getD_mem' c)
  · rw [List.getD_eq_getElem?_getD, List.getElem?_eq_none (by omega)]
    exact ⟨h0, h1⟩
theorem ginv_even {ns ms : List Int} {w : Nat} (hv : ∀ x ∈ ns, 1 ≤ x ∧ x ≤ 1000000) (hl : ms.length = w) (w1 : 1 ≤ w) (w8 : w ≤ 8) (hm : ∀ m ∈ ms, 1 ≤ m ∧ m ≤ 5) : GInv ns w 43 0 (fun i j => ms.getD j 0 * ns.getD i 0, ms.sum, ns) := by
  have s := sum_parts hm
  refine ⟨rfl, by show 0 < ms.sum; omega, by show Bt _ ms.sum; unfold Bt; omega, fun i j => ?_, fun x hx => by have := hv x hx; omega, fun i hi => sm_parts hl _, fun i j => ?_⟩
  · have a := getD_in (lo := 0) (hi := 5) (fun m h => by have := hm m h; omega) (by decide) (by decide) j
    have b := getD_in (lo := 0) (hi := 1000000) (fun m h => by have := hv m h; omega) (by decide) (by decide) i
    show Bt 43 (ms.getD j 0 * ns.getD i 0)
    exact Bt.mono (Bt.mul (a := 3) (b := 20) (by unfold Bt; omega) (by unfold Bt; omega)) (by decide)
  · have a := getD_in (lo := 0) (hi := 5) (fun m h => by have := hm m h; omega) (by decide) (by decide) j
    have b := getD_in (lo := 0) (hi := 1000000) (fun m h => by have := hv m h; omega) (by decide) (by decide) i
    exact Int.mul_nonneg a.1 b.1
theorem gr_even {ns ms : List Int} {ts : List Tr} {w : Nat} (hp : psb ns ts = true) (hS : 0 < ms.sum) (hX : 0 < (stt ns ts).2.1) :
    gr ns.length w (stg (fun i j => ms.getD j 0 * ns.getD i 0) ms.sum ns ts).1 (stg (fun i j => ms.getD j 0 * ns.getD i 0) ms.sum ns ts).2.1 = gr ns.length w (fun i j => ms.getD j 0 * (ts.foldl vol1 ns).getD i 0) ms.sum := by
  have a := stg_even (p := fun j => ms.getD j 0) (S := ms.sum) hp ts.length (Nat.le_refl _)
  have b := (stg_sum (C := fun i j => ms.getD j 0 * ns.getD i 0) (B := ms.sum) hp ts.length (Nat.le_refl _)).2
  rw [List.take_length] at a b
  rw [(stt_scale ns ts).2] at hX
  refine gr_congr fun i j hi _ => ?_
  rw [a i hi j, b]
  exact low_scale hS hX
theorem ginv_next {M : Mx} {B : Int} {ns : List Int} {w k : Nat} {ts : List Tr} (h0 : GInv ns w 43 0 (M, B, ns)) (hp : psb ns ts = true) (hx : ∀ x ∈ ts, x.2.2 ≤ 1000000) (hl : ts.length ≤ 24) (hk : k ≤ ts.length) (hm : ∀ x ∈ (ts.take k).foldl vol1 ns, x ≤ 1000000) :
    GInv ((ts.take k).foldl vol1 ns) w (43 + 26 * k) 0 ((stg M B ns (ts.take k)).1, (stg M B ns (ts.take k)).2.1, (ts.take k).foldl vol1 ns) := by
  have S := ginv_at h0 hp hx hl k hk
  have e := stg_vol M B ns (ts.take k)
  refine ⟨rfl, S.pos, S.dbt.mono (by omega), fun i j => (S.mbt i j).mono (by omega), fun x hx => ?_, fun i hi => ?_, S.nn⟩
  · have := S.vol x (by rw [e]; exact hx)
    have := hm x hx
    omega
  · have := S.row i (by rw [← S.len, e]; exact hi)
    rw [e] at this
    exact this
theorem w_max {K : PySem.W.Frag} {H : Hp} {Q : VK} {a : Addr} {ns : List Int} (h : SqL K H a (ns.map V.int)) (l : 0 < ns.length) (q : ∀ m, m ∈ ns → (∀ y, y ∈ ns → y ≤ m) → Q (.int m) H) : rMax K [.ref a] H Q := ⟨a, ns, rfl, h, l, q⟩
theorem Cs.rest {H : Hp} {a l s v : Addr} {ns : List Int} {xs : List V} {ts : List Tr} (C : Cs H a l ns xs ts) (k : Nat) (h : H s = some (.lst (xs.drop k))) (hv : H v = some (.lst (((ts.take k).foldl vol1 ns).map V.int))) (hb : ∀ x ∈ (ts.take k).foldl vol1 ns, 1 ≤ x ∧ x ≤ 1000000) : Cs H v s ((ts.take k).foldl vol1 ns) (xs.drop k) (ts.drop k) :=
  ⟨⟨hv, by rw [vol_len]; exact C.v.pos, by rw [vol_len]; exact C.v.few, hb⟩, h, PL.drop C.t k, fun x hx => C.gd x (List.mem_of_mem_drop hx), by rw [List.length_drop]; have := C.few; omega, psb_drop k C.psb⟩
/-- one vessel, two substances -/
def oneM : Mx := fun _ j => if j = 0 then 1 else if j = 1 then 2 else 0
theorem ginv_one : GInv [1] 2 43 0 (oneM, 3, [1]) := by
  refine ⟨rfl, by decide, by show Bt _ (3 : Int); unfold Bt; decide, fun i j => ?_, fun x hx => ?_, fun i hi => ?_, fun i j => ?_⟩
  · show Bt 43 (oneM i j)
    unfold oneM
    split
    · decide
    · split <;> decide
  · rw [List.mem_singleton.mp hx]; decide
  · have : i = 0 := by have : i < 1 := hi; omega
    subst this
    rfl
  · show 0 ≤ oneM i j
    unfold oneM
    split
    · decide
    · split <;> decide
theorem gr_one : gr 1 2 oneM 3 = [[low 1 3, low 2 3]] := by decide +kernel
end G
namespace G
open PySem PySem.Spec PyProof.Rows L2
theorem w_iteC {b : Bool} {x y : Int} {σ : L2.St} {H : Hp} {Q : VK} (C : Int → Hp → Prop) (h : C x H) (h' : C y H) (k : ∀ m H', C m H' → Q (.int m) H') : if b = true then tC (.int x) σ H Q else tC (.int y) σ H Q := by
  cases b with
  | true => exact w_c (σ := σ) (k _ _ h)
  | false => exact w_c (σ := σ) (k _ _ h')
end G
namespace G
open PySem PySem.Spec PyProof.Rows L2
theorem w_nx {f : L2.St → Hp → Prop} {D : Ends} {σ : L2.St} {H : Hp} (h : f σ H) : ({ D with nx := f } : Ends).nx σ H := h
theorem w_nx4 {f b c : L2.St → Hp → Prop} {r : VK} {σ : L2.St} {H : Hp} (h : f σ H) : ({ nx := f, rt := r, bk := b, ct := c } : Ends).nx σ H := h
end G

/-! Determinants of tables of rationals, by the first row; what changes of rows do to them. -/
namespace DT
abbrev R := _root_.Rat
abbrev Mat := Nat → Nat → R
def sg (j : Nat) : R := if j % 2 = 0 then 1 else -1
def sumTo (n : Nat) (f : Nat → R) : R := match n with
  | 0 => 0
  | n + 1 => sumTo n f + f n
def skip (j k : Nat) : Nat := if k < j then k else k + 1
def mnr (M : Mat) (j : Nat) : Mat := fun i k => M (i + 1) (skip j k)
/-- by the first row -/
def det : Nat → Mat → R
  | 0, _ => 1
  | n + 1, M => sumTo (n + 1) fun j => sg j * M 0 j * det n (mnr M j)
theorem sumTo_succ (n : Nat) (f : Nat → R) : sumTo (n + 1) f = sumTo n f + f n := rfl
theorem sumTo_congr {n : Nat} {f g : Nat → R} (h : ∀ j, j < n → f j = g j) : sumTo n f = sumTo n g := by
  induction n with
  | zero => rfl
  | succ n ih => rw [sumTo_succ, sumTo_succ, ih fun j hj => h j (by omega), h n (by omega)]
theorem sumTo_add (n : Nat) (f g : Nat → R) : sumTo n (fun j => f j + g j) = sumTo n f + sumTo n g := by
  induction n with
  | zero => exact (Rat.add_zero 0).symm
  | succ n ih => rw [sumTo_succ, sumTo_succ, sumTo_succ, ih]; grind
theorem sumTo_mul (n : Nat) (c : R) (f : Nat → R) : sumTo n (fun j => c * f j) = c * sumTo n f := by
  induction n with
  | zero => exact (Rat.mul_zero c).symm
  | succ n ih => rw [sumTo_succ, sumTo_succ, ih]; grind
theorem sumTo_zero (n : Nat) {f : Nat → R} (h : ∀ j, j < n → f j = 0) : sumTo n f = 0 := by
  induction n with
  | zero => rfl
  | succ n ih => rw [sumTo_succ, ih fun j hj => h j (by omega), h n (by omega)]; exact Rat.add_zero 0
theorem sumTo_neg (n : Nat) (f : Nat → R) : sumTo n (fun j => -f j) = -sumTo n f := by
  induction n with
  | zero => show (0 : R) = -0; grind
  | succ n ih => rw [sumTo_succ, sumTo_succ, ih]; grind
theorem sumTo_one {n a : Nat} (h : a < n) {f : Nat → R} (z : ∀ j, j < n → j ≠ a → f j = 0) : sumTo n f = f a := by
  induction n with
  | zero => omega
  | succ n ih =>
    rw [sumTo_succ]
    by_cases e : a = n
    · subst e
      rw [sumTo_zero a fun j hj => z j (by omega) (by omega)]
      exact Rat.zero_add _
    · rw [ih (by omega) fun j hj hn => z j (by omega) hn, z n (by omega) (fun x => e x.symm)]
      exact Rat.add_zero _
theorem sumTo_swap (n m : Nat) (F : Nat → Nat → R) : sumTo n (fun i => sumTo m fun j => F i j) = sumTo m fun j => sumTo n fun i => F i j := by
  induction n with
  | zero => exact (sumTo_zero m fun j _ => rfl).symm
  | succ n ih =>
    rw [sumTo_succ, ih, ← sumTo_add]
    rfl
theorem reidx {j : Nat} (H : Nat → R) : ∀ m, j ≤ m → sumTo m (fun l => H (skip j l)) = sumTo (m + 1) fun k => if k = j then 0 else H k
  | 0, h => by
    have : j = 0 := by omega
    subst this
    show (0 : R) = 0 + (if 0 = 0 then 0 else H 0)
    rw [if_pos rfl]; exact (Rat.add_zero 0).symm
  | m + 1, h => by
    by_cases e : j = m + 1
    · subst e
      rw [sumTo_succ (m + 1), if_pos rfl]
      rw [sumTo_congr (g := fun k => if k = m + 1 then 0 else H k) fun l hl => ?_]
      · exact (Rat.add_zero _).symm
      · show H (skip (m + 1) l) = _
        rw [if_neg (by omega)]
        unfold skip
        rw [if_pos hl]
    · rw [sumTo_succ (m + 1), ← reidx H m (by omega), sumTo_succ, if_neg (by omega)]
      unfold skip
      rw [if_neg (by omega)]
theorem det_succ (n : Nat) (M : Mat) : det (n + 1) M = sumTo (n + 1) fun j => sg j * M 0 j * det n (mnr M j) := rfl
theorem det_congr : ∀ (n : Nat) {M N : Mat}, (∀ i j, i < n → j < n → M i j = N i j) → det n M = det n N
  | 0, _, _, _ => rfl
  | n + 1, M, N, h => by
    rw [det_succ, det_succ]
    refine sumTo_congr fun j hj => ?_
    rw [h 0 j (by omega) hj, det_congr n fun i k hi hk => ?_]
    unfold mnr skip
    split
    · exact h _ _ (by omega) (by omega)
    · exact h _ _ (by omega) (by omega)
def setR (M : Mat) (k : Nat) (r : Nat → R) : Mat := fun i j => if i = k then r j else M i j
theorem mnr_set0 (M : Mat) (r : Nat → R) (j : Nat) : mnr (setR M 0 r) j = mnr M j := by
  funext i k
  unfold mnr setR
  rw [if_neg (by omega)]
theorem mnr_setS (M : Mat) (k : Nat) (r : Nat → R) (j : Nat) : mnr (setR M (k + 1) r) j = setR (mnr M j) k fun l => r (skip j l) := by
  funext i l
  unfold mnr setR
  by_cases e : i = k
  · rw [if_pos (by omega), if_pos e]
  · rw [if_neg (by omega), if_neg e]
theorem det_lin : ∀ (n : Nat) (M : Mat) (k : Nat) (c : R) (r s : Nat → R), k < n → det n (setR M k fun j => r j + c * s j) = det n (setR M k r) + c * det n (setR M k s)
  | 0, _, _, _, _, _, h => by omega
  | n + 1, M, 0, c, r, s, _ => by
    rw [det_succ, det_succ, det_succ, ← sumTo_mul, ← sumTo_add]
    refine sumTo_congr fun j hj => ?_
    rw [mnr_set0, mnr_set0, mnr_set0]
    unfold setR
    rw [if_pos rfl, if_pos rfl, if_pos rfl]
    grind
  | n + 1, M, k + 1, c, r, s, h => by
    rw [det_succ, det_succ, det_succ, ← sumTo_mul, ← sumTo_add]
    refine sumTo_congr fun j hj => ?_
    rw [mnr_setS, mnr_setS, mnr_setS, det_lin n (mnr M j) k c (fun l => r (skip j l)) (fun l => s (skip j l)) (by omega)]
    have e : ∀ r : Nat → R, setR M (k + 1) r 0 j = M 0 j := fun r => by
      unfold setR
      rw [if_neg (by omega)]
    rw [e, e, e]
    grind
def swp (M : Mat) (a b : Nat) : Mat := fun i j => if i = a then M b j else if i = b then M a j else M i j
/-- two columns left out -/
def skip2 (a b k : Nat) : Nat := if a < b then skip a (skip (b - 1) k) else skip b (skip (a - 1) k)
def sg2 (a b : Nat) : R := sg a * sg (if b < a then b else b - 1)
theorem det_two (n : Nat) (M : Mat) : det (n + 2) M = sumTo (n + 2) fun a => sumTo (n + 2) fun b => if b = a then 0 else sg2 a b * (M 0 a * M 1 b) * det n fun i k => M (i + 2) (skip2 a b k) := by
  rw [det_succ]
  refine sumTo_congr fun a ha => ?_
  rw [det_succ, ← sumTo_mul, ← reidx (j := a) (fun b => sg2 a b * (M 0 a * M 1 b) * det n fun i k => M (i + 2) (skip2 a b k)) (n + 1) (by omega)]
  refine sumTo_congr fun l hl => ?_
  have e1 : (if skip a l < a then skip a l else skip a l - 1) = l := by
    by_cases c : l < a
    · have : skip a l = l := if_pos c
      rw [this, if_pos c]
    · have : skip a l = l + 1 := if_neg c
      rw [this, if_neg (by omega), Nat.add_sub_cancel]
  have e2 : (fun i k => M (i + 2) (skip2 a (skip a l) k)) = mnr (mnr M a) l := by
    funext i k
    unfold mnr
    show M (i + 2) _ = M (i + 1 + 1) _
    congr 1
    unfold skip2 skip
    repeat' split
    all_goals omega
  show _ = sg2 a (skip a l) * (M 0 a * M 1 (skip a l)) * det n _
  rw [e2]
  unfold sg2
  rw [e1]
  show sg a * M 0 a * (sg l * M 1 (skip a l) * _) = _
  grind
theorem sg_succ (j : Nat) : sg (j + 1) = -sg j := by
  unfold sg
  by_cases h : j % 2 = 0
  · rw [if_pos h, if_neg (by omega)]
  · rw [if_neg h, if_pos (by omega)]; grind
theorem sg2_swap {a b : Nat} (h : a ≠ b) : sg2 b a = -sg2 a b := by
  unfold sg2
  rcases Nat.lt_or_gt_of_ne h with l | l
  · obtain ⟨c, rfl⟩ : ∃ c, b = c + 1 := ⟨b - 1, by omega⟩
    rw [if_pos l, if_neg (by omega), sg_succ, Nat.add_sub_cancel]
    grind
  · obtain ⟨c, rfl⟩ : ∃ c, a = c + 1 := ⟨a - 1, by omega⟩
    rw [if_neg (by omega), if_pos l, sg_succ, Nat.add_sub_cancel]
    grind
theorem skip2_swap {a b : Nat} (h : a ≠ b) (k : Nat) : skip2 b a k = skip2 a b k := by
  unfold skip2
  rcases Nat.lt_or_gt_of_ne h with l | l
  · rw [if_neg (by omega), if_pos l]
  · rw [if_pos l, if_neg (by omega)]
theorem det_swp0 (n : Nat) (M : Mat) : det (n + 2) (swp M 0 1) = -det (n + 2) M := by
  rw [det_two, det_two, ← sumTo_neg, sumTo_swap]
  refine sumTo_congr fun a ha => ?_
  rw [← sumTo_neg]
  refine sumTo_congr fun b hb => ?_
  by_cases e : a = b
  · rw [if_pos e, if_pos e.symm]; grind
  · rw [if_neg e, if_neg (fun x => e x.symm), sg2_swap e]
    have e2 : (fun i k => swp M 0 1 (i + 2) (skip2 b a k)) = fun i k => M (i + 2) (skip2 a b k) := by
      funext i k
      unfold swp
      rw [if_neg (by omega), if_neg (by omega), skip2_swap e]
    rw [e2]
    have e3 : swp M 0 1 0 b = M 1 b := rfl
    have e4 : swp M 0 1 1 a = M 0 a := rfl
    rw [e3, e4]
    grind
theorem det_swpN : ∀ (n k : Nat) (M : Mat), k + 1 < n → det n (swp M k (k + 1)) = -det n M
  | n, 0, M, h => by
    obtain ⟨m, rfl⟩ : ∃ m, n = m + 2 := ⟨n - 2, by omega⟩
    exact det_swp0 m M
  | 0, _, _, h => by omega
  | n + 1, k + 1, M, h => by
    rw [det_succ, det_succ, ← sumTo_neg]
    refine sumTo_congr fun j hj => ?_
    have e : mnr (swp M (k + 1) (k + 2)) j = swp (mnr M j) k (k + 1) := by
      funext i l
      unfold mnr swp
      by_cases c : i = k
      · rw [if_pos (by omega), if_pos c]
      · rw [if_neg (by omega), if_neg c]
        by_cases d : i = k + 1
        · rw [if_pos (by omega), if_pos d]
        · rw [if_neg (by omega), if_neg d]
    have e0 : swp M (k + 1) (k + 2) 0 j = M 0 j := by
      unfold swp
      rw [if_neg (by omega), if_neg (by omega)]
    show sg j * swp M (k + 1) (k + 2) 0 j * det n (mnr (swp M (k + 1) (k + 2)) j) = _
    rw [e, e0, det_swpN n k (mnr M j) (by omega)]
    grind
theorem half {x : R} (h : x = -x) : x = 0 := by grind
theorem det_eq1 {n k : Nat} {M : Mat} (h : k + 1 < n) (e : M k = M (k + 1)) : det n M = 0 := by
  have s : swp M k (k + 1) = M := by
    funext i j
    unfold swp
    by_cases c : i = k
    · rw [if_pos c, c, e]
    · rw [if_neg c]
      by_cases d : i = k + 1
      · rw [if_pos d, d, e]
      · rw [if_neg d]
  have := det_swpN n k M h
  rw [s] at this
  exact half this
theorem det_eqG (n : Nat) : ∀ (d a : Nat) (M : Mat), a + d + 1 < n → M a = M (a + d + 1) → det n M = 0
  | 0, a, M, h, e => det_eq1 h e
  | d + 1, a, M, h, e => by
    have s := det_swpN n (a + d + 1) M h
    have z := det_eqG n d a (swp M (a + d + 1) (a + d + 2)) (by omega) (by
      funext j
      unfold swp
      rw [if_neg (by omega), if_neg (by omega), if_pos rfl]
      exact congrFun e j)
    rw [z] at s
    grind
theorem det_eq {n a b : Nat} {M : Mat} (ha : a < n) (hb : b < n) (ne : a ≠ b) (e : M a = M b) : det n M = 0 := by
  rcases Nat.lt_or_gt_of_ne ne with l | l
  · obtain ⟨d, rfl⟩ : ∃ d, b = a + d + 1 := ⟨b - a - 1, by omega⟩
    exact det_eqG n d a M hb e
  · obtain ⟨d, rfl⟩ : ∃ d, a = b + d + 1 := ⟨a - b - 1, by omega⟩
    exact det_eqG n d b M ha e.symm
theorem setR_self (M : Mat) (k : Nat) : setR M k (M k) = M := by
  funext i j
  unfold setR
  by_cases c : i = k
  · rw [if_pos c, c]
  · rw [if_neg c]
/-- a multiple of another row more -/
theorem det_add {n a b : Nat} (M : Mat) (c : R) (ha : a < n) (hb : b < n) (ne : a ≠ b) : det n (setR M b fun j => M b j + c * M a j) = det n M := by
  rw [det_lin n M b c (M b) (M a) hb, setR_self, det_eq (M := setR M b (M a)) ha hb ne]
  · grind
  · funext j
    unfold setR
    rw [if_neg ne, if_pos rfl]
theorem det_zeroR {n k : Nat} (M : Mat) (h : k < n) : det n (setR M k fun _ => 0) = 0 := by
  have := det_lin n M k 1 (fun _ => 0) (fun _ => 0) h
  have e : (fun j : Nat => (0 : R) + 1 * 0) = fun _ => 0 := by funext j; grind
  rw [e] at this
  grind
theorem det_mulR {n k : Nat} (M : Mat) (c : R) (r : Nat → R) (h : k < n) : det n (setR M k fun j => c * r j) = c * det n (setR M k r) := by
  have := det_lin n M k c (fun _ => 0) r h
  have e : (fun j : Nat => (0 : R) + c * r j) = fun j => c * r j := by funext j; grind
  rw [e, det_zeroR M h] at this
  grind
theorem det_col0 : ∀ (n : Nat) (M : Mat), (∀ i, i < n + 1 → M i 0 = 0) → det (n + 1) M = 0
  | 0, M, h => by
    rw [det_succ, sumTo_succ, h 0 (by omega)]
    show (0 : R) + _ = 0
    grind
  | n + 1, M, h => by
    rw [det_succ]
    refine sumTo_zero _ fun j hj => ?_
    cases j with
    | zero => rw [h 0 (by omega)]; grind
    | succ j =>
      rw [det_col0 n (mnr M (j + 1)) fun i hi => ?_]
      · grind
      · unfold mnr skip
        rw [if_pos (by omega)]
        exact h _ (by omega)
/-- row p to the front -/
def frt (M : Mat) (p : Nat) : Mat := fun i j => if i = 0 then M p j else if i ≤ p then M (i - 1) j else M i j
theorem det_frt (n : Nat) : ∀ (p : Nat) (M : Mat), p < n → det n (frt M p) = sg p * det n M
  | 0, M, h => by
    have e : frt M 0 = M := by
      funext i j
      unfold frt
      by_cases c : i = 0
      · rw [if_pos c, c]
      · rw [if_neg c, if_neg (by omega)]
    rw [e]
    show _ = (if 0 % 2 = 0 then (1 : R) else -1) * _
    rw [if_pos rfl]
    grind
  | p + 1, M, h => by
    have e : frt M (p + 1) = frt (swp M p (p + 1)) p := by
      funext i j
      unfold frt swp
      by_cases c : i = 0
      · rw [if_pos c, if_pos c, if_pos rfl]
      · rw [if_neg c, if_neg c]
        by_cases d : i ≤ p
        · rw [if_pos (by omega), if_pos d, if_neg (by omega), if_neg (by omega)]
        · rw [if_neg d]
          by_cases f : i = p + 1
          · subst f
            rw [if_pos (by omega), if_neg (by omega), if_pos rfl]
            rfl
          · rw [if_neg (by omega), if_neg (by omega), if_neg f]
    rw [e, det_frt n p _ (by omega), det_swpN n p M h, sg_succ]
    grind
/-- each row from the second to the k-th less a multiple of the first -/
def clr (M : Mat) (c : Nat → R) (k : Nat) : Mat := fun i j => if 0 < i ∧ i < k + 1 then M i j - M 0 j * c i else M i j
theorem det_clr (n : Nat) (M : Mat) (c : Nat → R) : ∀ k, k < n → det n (clr M c k) = det n M
  | 0, h => by
    refine det_congr n fun i j hi hj => ?_
    unfold clr
    rw [if_neg (by omega)]
  | k + 1, h => by
    rw [← det_clr n M c k (by omega), ← det_add (a := 0) (b := k + 1) (clr M c k) (-(c (k + 1))) (by omega) h (by omega)]
    refine det_congr n fun i j hi hj => ?_
    unfold setR
    by_cases e : i = k + 1
    · subst e
      rw [if_pos rfl]
      show clr M c (k + 1) (k + 1) j = clr M c k (k + 1) j + -(c (k + 1)) * clr M c k 0 j
      unfold clr
      rw [if_pos (by omega), if_neg (by omega), if_neg (by omega)]
      grind
    · rw [if_neg e]
      unfold clr
      by_cases f : 0 < i ∧ i < k + 1
      · rw [if_pos (by omega), if_pos f]
      · rw [if_neg (by omega), if_neg f]
/-- one step of elimination -/
theorem det_step (n p : Nat) (M : Mat) (hp : p < n + 1) (nz : M p 0 ≠ 0) :
    det (n + 1) M = sg p * M p 0 * det n fun i k => M (skip p i) (k + 1) - M p (k + 1) * (M (skip p i) 0 / M p 0) := by
  have h1 := det_frt (n + 1) p M hp
  have h2 := det_clr (n + 1) (frt M p) (fun i => frt M p i 0 / M p 0) n (by omega)
  have sq : sg p * sg p = 1 := by
    unfold sg
    split <;> grind
  have h3 : det (n + 1) M = sg p * det (n + 1) (clr (frt M p) (fun i => frt M p i 0 / M p 0) n) := by
    rw [h2, h1]
    grind
  rw [h3, det_succ]
  have f0 : ∀ j, frt M p 0 j = M p j := fun j => rfl
  have fS : ∀ i j, frt M p (i + 1) j = M (skip p i) j := fun i j => by
    unfold frt skip
    rw [if_neg (by omega)]
    by_cases c : i < p
    · rw [if_pos (by omega), if_pos c]
      rfl
    · rw [if_neg (by omega), if_neg c]
  rw [sumTo_one (a := 0) (by omega) fun j hj hn => ?_]
  · have e : det n (mnr (clr (frt M p) (fun i => frt M p i 0 / M p 0) n) 0) = det n fun i k => M (skip p i) (k + 1) - M p (k + 1) * (M (skip p i) 0 / M p 0) := by
      refine det_congr n fun i k hi hk => ?_
      unfold mnr clr
      rw [if_pos (by omega), f0, fS]
      show _ - _ * (frt M p (i + 1) 0 / M p 0) = _
      rw [fS]
      rfl
    rw [e]
    have c0 : clr (frt M p) (fun i => frt M p i 0 / M p 0) n 0 0 = M p 0 := by
      unfold clr
      rw [if_neg (by omega), f0]
    rw [c0]
    show sg p * (1 * _ * _) = _
    grind
  · obtain ⟨m, rfl⟩ : ∃ m, n = m + 1 := ⟨n - 1, by omega⟩
    rw [det_col0 m _ fun i hi => ?_]
    · grind
    · unfold mnr clr skip
      rw [if_pos (by omega), if_pos (by omega), f0, fS]
      grind
theorem set2 (M : Mat) (a b : Nat) (ne : a ≠ b) (r s : Nat → R) : setR (setR M a r) b s = setR (setR M b s) a r := by
  funext i j
  unfold setR
  by_cases c : i = a
  · by_cases d : i = b
    · omega
    · rw [if_neg d, if_pos c, if_pos c]
  · rw [if_neg c]
    by_cases d : i = b
    · rw [if_pos d, if_neg c]
    · rw [if_neg d, if_neg c]
/-- two rows exchanged -/
theorem det_swp {n a b : Nat} (M : Mat) (ha : a < n) (hb : b < n) (ne : a ≠ b) : det n (swp M a b) = -det n M := by
  have F : ∀ r s : Nat → R, det n (setR (setR M a r) b s) = det n (setR (setR M a r) b s) := fun _ _ => rfl
  have z : ∀ r : Nat → R, det n (setR (setR M a r) b r) = 0 := fun r => by
    refine det_eq ha hb ne ?_
    funext j
    unfold setR
    rw [if_neg ne, if_pos rfl, if_pos rfl]
  have l2 : ∀ r s t : Nat → R, det n (setR (setR M a r) b fun j => s j + 1 * t j) = det n (setR (setR M a r) b s) + 1 * det n (setR (setR M a r) b t) := fun r s t => det_lin n (setR M a r) b 1 s t hb
  have l1 : ∀ r s t : Nat → R, det n (setR (setR M a fun j => r j + 1 * t j) b s) = det n (setR (setR M a r) b s) + 1 * det n (setR (setR M a t) b s) := fun r s t => by
    rw [set2 M a b ne, set2 M a b ne, set2 M a b ne]
    exact det_lin n (setR M b s) a 1 r t ha
  have e := z fun j => M a j + 1 * M b j
  rw [l2, l1, l1, z, z] at e
  have m1 : setR (setR M a (M a)) b (M b) = M := by
    rw [setR_self, setR_self]
  have m2 : setR (setR M a (M b)) b (M a) = swp M a b := by
    funext i j
    unfold setR swp
    by_cases d : i = b
    · rw [if_pos d, if_neg (by omega), if_pos d]
    · rw [if_neg d]
      by_cases c : i = a
      · rw [if_pos c, if_pos c]
      · rw [if_neg c, if_neg c, if_neg d]
  rw [m1, m2] at e
  grind
def prodTo (n : Nat) (f : Nat → R) : R := match n with
  | 0 => 1
  | n + 1 => prodTo n f * f n
theorem prodTo_succ (n : Nat) (f : Nat → R) : prodTo (n + 1) f = prodTo n f * f n := rfl
theorem prodTo_first (n : Nat) (f : Nat → R) : prodTo (n + 1) f = f 0 * prodTo n fun j => f (j + 1) := by
  induction n with
  | zero =>
    show 1 * f 0 = f 0 * 1
    grind
  | succ n ih => rw [prodTo_succ, ih, prodTo_succ]; grind
/-- nothing below the diagonal -/
theorem det_tri : ∀ (n : Nat) (M : Mat), (∀ i j, i < n → j < i → M i j = 0) → det n M = prodTo n fun i => M i i
  | 0, _, _ => rfl
  | n + 1, M, h => by
    rw [det_succ, prodTo_first, sumTo_one (a := 0) (by omega) fun j hj hn => ?_]
    · rw [det_tri n (mnr M 0) fun i j hi hj => by
        show M (i + 1) (j + 1) = 0
        exact h _ _ (by omega) (by omega)]
      show 1 * M 0 0 * prodTo n (fun i => M (i + 1) (i + 1)) = _
      grind
    · cases n with
      | zero => omega
      | succ m =>
        rw [det_col0 m (mnr M j) fun i hi => ?_]
        · grind
        · unfold mnr skip
          rw [if_pos (by omega)]
          exact h _ _ (by omega) (by omega)
/-- one row is a sum of multiples of the others -/
theorem det_made {n k : Nat} (M : Mat) (hk : k < n) : ∀ (m : Nat) (c : Nat → R), m ≤ n → (c k = 0) → det n (setR M k fun j => sumTo m fun i => c i * M i j) = 0
  | 0, c, _, _ => det_zeroR M hk
  | m + 1, c, hm, z => by
    have e : (fun j => sumTo (m + 1) fun i => c i * M i j) = fun j => (sumTo m fun i => c i * M i j) + c m * M m j := by
      funext j
      rfl
    rw [e, det_lin n M k (c m) (fun j => sumTo m fun i => c i * M i j) (M m) hk, det_made M hk m c (by omega) z]
    by_cases h : m = k
    · rw [h, z]
      grind
    · rw [det_eq (M := setR M k (M m)) (a := m) (b := k) (by omega) hk h ?_]
      · grind
      · funext j
        unfold setR
        rw [if_neg h, if_pos rfl]
/-- the pivots' rows, then the rows f; the first c columns, then the columns g -/
def blk (c : Nat) (π ρ : Mat) (f g : Nat → Nat) : Mat := fun i j => (if i < c then π i else ρ (f (i - c))) (if j < c then j else g (j - c))
/-- behind c steps: each determinant of the pivots' rows with any others is P times that of what is left -/
def Inv (c : Nat) (π ρ : Mat) (P : R) (E : Mat) : Prop := ∀ m (f g : Nat → Nat), det (c + m) (blk c π ρ f g) = P * det m fun a b => E (f a) (g b)
theorem inv0 (π ρ : Mat) : Inv 0 π ρ 1 ρ := fun m f g => by
  have e : blk 0 π ρ f g = fun a b => ρ (f a) (g b) := by
    funext i j
    unfold blk
    rw [if_neg (by omega), if_neg (by omega)]
    rfl
  rw [e, Nat.zero_add]
  grind
theorem inv_step {c p : Nat} {π ρ : Mat} {P : R} {E : Mat} (h : Inv c π ρ P E) (nz : E p c ≠ 0) :
    Inv (c + 1) (fun i => if i = c then ρ p else π i) (fun i => ρ (skip p i)) (P * E p c) fun i j => E (skip p i) j - E p j * (E (skip p i) c / E p c) := fun m f g => by
  have k := h (m + 1) (fun a => if a = 0 then p else skip p (f (a - 1))) (fun b => if b = 0 then c else g (b - 1))
  rw [det_step m 0 _ (by omega) (by exact nz)] at k
  have e : blk (c + 1) (fun i => if i = c then ρ p else π i) (fun i => ρ (skip p i)) f g = blk c π ρ (fun a => if a = 0 then p else skip p (f (a - 1))) (fun b => if b = 0 then c else g (b - 1)) := by
    funext i j
    unfold blk
    have col : (if j < c + 1 then j else g (j - (c + 1))) = if j < c then j else if j - c = 0 then c else g (j - c - 1) := by
      by_cases a : j < c
      · rw [if_pos (by omega), if_pos a]
      · rw [if_neg a]
        by_cases b : j = c
        · rw [if_pos (by omega), if_pos (by omega), b]
        · rw [if_neg (by omega), if_neg (by omega), show j - (c + 1) = j - c - 1 from by omega]
    rw [col]
    by_cases a : i < c
    · rw [if_pos (show i < c + 1 by omega), if_pos a]
      dsimp only
      rw [if_neg (show i ≠ c by omega)]
    · rw [if_neg a]
      by_cases b : i = c
      · rw [if_pos (show i < c + 1 by omega)]
        dsimp only
        rw [if_pos b, if_pos (show i - c = 0 by omega)]
      · rw [if_neg (show ¬ i < c + 1 by omega)]
        dsimp only
        rw [if_neg (show i - c ≠ 0 by omega), show i - (c + 1) = i - c - 1 from by omega]
  have s0 : sg 0 = 1 := rfl
  rw [e, show c + 1 + m = c + (m + 1) from by omega, k, s0]
  have e2 : (fun i k => E (if skip 0 i = 0 then p else skip p (f (skip 0 i - 1))) (if k + 1 = 0 then c else g (k + 1 - 1)) - E (if 0 = 0 then p else skip p (f (0 - 1))) (if k + 1 = 0 then c else g (k + 1 - 1)) * (E (if skip 0 i = 0 then p else skip p (f (skip 0 i - 1))) (if 0 = 0 then c else g (0 - 1)) / E (if 0 = 0 then p else skip p (f (0 - 1))) (if 0 = 0 then c else g (0 - 1)))) = fun a b => E (skip p (f a)) (g b) - E p (g b) * (E (skip p (f a)) c / E p c) := by
    funext a b
    rfl
  show P * (1 * E p c * det m (fun i k => E (if skip 0 i = 0 then p else skip p (f (skip 0 i - 1))) (if k + 1 = 0 then c else g (k + 1 - 1)) - E (if 0 = 0 then p else skip p (f (0 - 1))) (if k + 1 = 0 then c else g (k + 1 - 1)) * (E (if skip 0 i = 0 then p else skip p (f (skip 0 i - 1))) (if 0 = 0 then c else g (0 - 1)) / E (if 0 = 0 then p else skip p (f (0 - 1))) (if 0 = 0 then c else g (0 - 1))))) = _
  rw [e2]
  grind
theorem det_one (M : Mat) : det 1 M = M 0 0 := by
  show 0 + 1 * M 0 0 * 1 = _
  grind
/-- the product of the pivots, and what is left, by minors -/
theorem inv_P {c : Nat} {π ρ : Mat} {P : R} {E : Mat} (h : Inv c π ρ P E) : det c (fun i j => π i j) = P := by
  have k := h 0 (fun _ => 0) (fun _ => 0)
  have e : det c (blk c π ρ (fun _ => 0) fun _ => 0) = det c fun i j => π i j := det_congr c fun i j hi hj => by
    unfold blk
    rw [if_pos hi, if_pos hj]
  rw [Nat.add_zero, e] at k
  rw [k]
  show P * 1 = P
  grind
theorem inv_E {c : Nat} {π ρ : Mat} {P : R} {E : Mat} (h : Inv c π ρ P E) (i j : Nat) : det (c + 1) (blk c π ρ (fun _ => i) fun _ => j) = P * E i j := by
  rw [h 1, det_one]
/-! ### whole numbers -/
def sgI (j : Nat) : Int := if j % 2 = 0 then 1 else -1
def sumI (n : Nat) (f : Nat → Int) : Int := match n with
  | 0 => 0
  | n + 1 => sumI n f + f n
def detI : Nat → (Nat → Nat → Int) → Int
  | 0, _ => 1
  | n + 1, M => sumI (n + 1) fun j => sgI j * M 0 j * detI n fun i k => M (i + 1) (skip j k)
def fac : Nat → Nat
  | 0 => 1
  | n + 1 => (n + 1) * fac n
theorem sumI_le {n : Nat} {f : Nat → Int} {b : Nat} (h : ∀ j, j < n → (f j).natAbs ≤ b) : (sumI n f).natAbs ≤ n * b := by
  induction n with
  | zero => show (0 : Int).natAbs ≤ _; simp
  | succ n ih =>
    show (sumI n f + f n).natAbs ≤ _
    have h1 := ih fun j hj => h j (by omega)
    have h2 := h n (by omega)
    have h3 := Int.natAbs_add_le (sumI n f) (f n)
    rw [Nat.succ_mul]
    omega
theorem detI_le : ∀ (n : Nat) (M : Nat → Nat → Int) (B : Nat), (∀ i j, (M i j).natAbs ≤ B) → (detI n M).natAbs ≤ fac n * B ^ n
  | 0, _, _, _ => Nat.le_refl 1
  | n + 1, M, B, h => by
    have k := sumI_le (n := n + 1) (f := fun j => sgI j * M 0 j * detI n fun i k => M (i + 1) (skip j k)) (b := B * (fac n * B ^ n)) fun j hj => by
      have h1 := detI_le n (fun i k => M (i + 1) (skip j k)) B fun i k => h _ _
      have h2 := h 0 j
      have h3 : (sgI j).natAbs = 1 := by
        unfold sgI
        split <;> rfl
      rw [Int.natAbs_mul, Int.natAbs_mul, h3, Nat.one_mul]
      exact Nat.mul_le_mul h2 h1
    refine Nat.le_trans k (Nat.le_of_eq ?_)
    show (n + 1) * (B * (fac n * B ^ n)) = (n + 1) * fac n * B ^ (n + 1)
    rw [Nat.pow_succ]
    grind
theorem sumTo_cast (n : Nat) (f : Nat → Int) : sumTo n (fun j => ((f j : Int) : R)) = ((sumI n f : Int) : R) := by
  induction n with
  | zero => rfl
  | succ n ih =>
    rw [sumTo_succ, ih]
    show _ = ((sumI n f + f n : Int) : R)
    rw [Rat.intCast_add]
theorem sg_cast (j : Nat) : sg j = ((sgI j : Int) : R) := by
  unfold sg sgI
  split <;> rfl
theorem det_cast : ∀ (n : Nat) (N : Nat → Nat → Int), det n (fun i j => ((N i j : Int) : R)) = ((detI n N : Int) : R)
  | 0, _ => rfl
  | n + 1, N => by
    show _ = ((sumI (n + 1) _ : Int) : R)
    rw [det_succ, ← sumTo_cast]
    refine sumTo_congr fun j hj => ?_
    have e := det_cast n fun i k => N (i + 1) (skip j k)
    show sg j * ((N 0 j : Int) : R) * det n (fun i k => ((N (i + 1) (skip j k) : Int) : R)) = _
    rw [e, sg_cast, Rat.intCast_mul, Rat.intCast_mul]
/-- all entries times d -/
theorem det_scale : ∀ (n : Nat) (M : Mat) (d : R), det n (fun i j => d * M i j) = d ^ n * det n M
  | 0, _, d => by
    show (1 : R) = d ^ 0 * 1
    grind
  | n + 1, M, d => by
    rw [det_succ, det_succ, ← sumTo_mul]
    refine sumTo_congr fun j hj => ?_
    have e : mnr (fun i j => d * M i j) j = fun i k => d * mnr M j i k := rfl
    rw [e, det_scale n (mnr M j) d]
    grind
/-- what is left, as a fraction of whole numbers -/
theorem inv_frac {c : Nat} {π ρ : Nat → Nat → Int} {D : Int} (hD : D ≠ 0) {P : R} {E : Mat} (h : Inv c (fun i j => (π i j : R) / (D : R)) (fun i j => (ρ i j : R) / (D : R)) P E) (nz : P ≠ 0) (i j : Nat) :
    E i j * ((D * detI c π : Int) : R) = ((detI (c + 1) fun a b => (if a < c then π a else ρ i) (if b < c then b else j) : Int) : R) ∧ detI c π ≠ 0 := by
  have d0 : (D : R) ≠ 0 := by
    intro z
    exact hD (Rat.intCast_inj.mp (by rw [z]; rfl))
  have h1 := inv_P h
  have h2 := inv_E h i j
  have e1 : (fun a b => (fun i j => (π i j : R) / (D : R)) a b) = fun a b => (1 / (D : R)) * ((π a b : Int) : R) := by
    funext a b
    grind
  have e2 : blk c (fun i j => (π i j : R) / (D : R)) (fun i j => (ρ i j : R) / (D : R)) (fun _ => i) (fun _ => j) = fun a b => (1 / (D : R)) * (((if a < c then π a else ρ i) (if b < c then b else j) : Int) : R) := by
    funext a b
    unfold blk
    by_cases q : a < c
    · rw [if_pos q, if_pos q]
      grind
    · rw [if_neg q, if_neg q]
      grind
  rw [e1, det_scale, det_cast] at h1
  rw [e2, det_scale, det_cast] at h2
  have p0 : (1 / (D : R)) ^ c ≠ 0 := fun z => nz (by rw [← h1, z]; grind)
  refine ⟨?_, fun z => nz (by rw [← h1, z]; grind)⟩
  rw [Rat.intCast_mul]
  rw [← h1] at h2
  have e3 : (1 / (D : R)) ^ (c + 1) = (1 / (D : R)) ^ c * (1 / (D : R)) := by grind
  rw [e3] at h2
  have e4 : (1 / (D : R)) ^ c * ((detI (c + 1) fun a b => (if a < c then π a else ρ i) (if b < c then b else j) : Int) : R) = (1 / (D : R)) ^ c * (E i j * ((D : R) * ((detI c π : Int) : R))) := by
    have := congrArg (fun x => (D : R) * x) h2
    grind
  grind
end DT

/-! A ratio in lowest terms is no longer than any fraction that it equals. -/
namespace G
open PySem PySem.Spec PyProof.Rows L2
theorem lp_frac {m n : Nat} {x : Int × Int} {a b : Int} (hx : Lp m x) (h : val x * (b : _root_.Rat) = (a : _root_.Rat)) (hb : b ≠ 0) (ba : Bt n a) (bb : Bt n b) (n1 : 0 < n) : Lp n x := by
  obtain ⟨x0, xg, _, _⟩ := hx
  have x2 : (x.2 : _root_.Rat) ≠ 0 := by
    intro z
    have : x.2 = 0 := Rat.intCast_inj.mp (by rw [z]; rfl)
    omega
  have e : x.1 * b = a * x.2 := by
    refine Rat.intCast_inj.mp ?_
    rw [Rat.intCast_mul, Rat.intCast_mul, ← h]
    unfold val
    grind
  have d2 : x.2 ∣ b := by
    have : x.2 ∣ x.1 * b := ⟨a, by rw [e, Int.mul_comm]⟩
    exact dvd_of this (by rw [Int.gcd_comm]; exact xg)
  have d1 : x.1 ∣ a := by
    have : x.1 ∣ x.2 * a := ⟨b, by rw [e, Int.mul_comm]⟩
    exact dvd_of this xg
  refine ⟨x0, xg, ?_, ?_⟩
  · by_cases a0 : a = 0
    · have : x.1 = 0 := by
        rw [a0, Int.zero_mul] at e
        rcases Int.mul_eq_zero.mp e with q | q
        · exact q
        · exact absurd q hb
      rw [this]
      unfold Bt
      exact Nat.two_pow_pos n
    · exact ba.of_le (Nat.le_of_dvd (by omega) (Int.natAbs_dvd_natAbs.mpr d1))
  · exact bb.of_le (Nat.le_of_dvd (by omega) (Int.natAbs_dvd_natAbs.mpr d2))
end G
namespace G
open PySem PySem.Spec PyProof.Rows L2
/-- one of the rows less a multiple of the pivot's row -/
def clrP (r p : List (Int × Int)) (c : Nat) : List (Int × Int) := (List.range r.length).map fun j => jn 1 (r.getD j (0, 1)) (jn 2 (p.getD j (0, 1)) (qt (r.getD c (0, 1)) (p.getD c (0, 1))))
/-- the other rows, each less its multiple of the pivot's row -/
def wop (rows : List (List (Int × Int))) (p c : Nat) : List (List (Int × Int)) := (rows.take p ++ rows.drop (p + 1)).map fun r => clrP r (rows.getD p []) c
def matE (rows : List (List (Int × Int))) : DT.Mat := fun i j => val ((rows.getD i []).getD j (0, 1))
theorem val0 : val (0, 1) = 0 := by unfold val; decide +kernel
/-- rows of n ratios in lowest terms -/
def Rws (rows : List (List (Int × Int))) (n m : Nat) : Prop := ∀ r ∈ rows, r.length = n ∧ ∀ x ∈ r, Lp m x
theorem lp_00 (m : Nat) (h : 0 < m) : Lp m (0, 1) := ⟨by decide, by decide, by unfold Bt; exact Nat.two_pow_pos m, by unfold Bt; exact Nat.one_lt_two_pow (by omega)⟩
theorem Rws.at_ {rows : List (List (Int × Int))} {n m : Nat} (h : Rws rows n m) (m0 : 0 < m) (i j : Nat) : Lp m ((rows.getD i []).getD j (0, 1)) := by
  rw [List.getD_eq_getElem?_getD, List.getD_eq_getElem?_getD]
  cases hi : rows[i]? with
  | none => exact lp_00 m m0
  | some r =>
    cases hj : r[j]? with
    | none =>
      show Lp m ((r[j]?).getD (0, 1))
      rw [hj]
      exact lp_00 m m0
    | some x =>
      show Lp m ((r[j]?).getD (0, 1))
      rw [hj]
      exact (h r (List.mem_of_getElem? hi)).2 x (List.mem_of_getElem? hj)
theorem getD_skip (rows : List (List (Int × Int))) (p i : Nat) (hp : p < rows.length) : (rows.take p ++ rows.drop (p + 1)).getD i [] = rows.getD (DT.skip p i) [] := by
  rw [List.getD_eq_getElem?_getD, List.getD_eq_getElem?_getD]
  congr 1
  unfold DT.skip
  by_cases c : i < p
  · rw [if_pos c, List.getElem?_append_left (by rw [List.length_take]; omega), List.getElem?_take_of_lt c]
  · rw [if_neg c, List.getElem?_append_right (by rw [List.length_take]; omega), List.getElem?_drop, List.length_take]
    congr 1
    omega
theorem clrP_at {r p : List (Int × Int)} {c j m : Nat} (m0 : 0 < m) (lr : ∀ j, Lp m (r.getD j (0, 1))) (lp : ∀ j, Lp m (p.getD j (0, 1))) (len : p.length = r.length ∨ r = []) (nz : (p.getD c (0, 1)).1 ≠ 0) :
    val ((clrP r p c).getD j (0, 1)) = val (r.getD j (0, 1)) - val (p.getD j (0, 1)) * (val (r.getD c (0, 1)) / val (p.getD c (0, 1))) := by
  unfold clrP
  by_cases h : j < r.length
  · have e : ((List.range r.length).map fun j => jn 1 (r.getD j (0, 1)) (jn 2 (p.getD j (0, 1)) (qt (r.getD c (0, 1)) (p.getD c (0, 1))))).getD j (0, 1) = jn 1 (r.getD j (0, 1)) (jn 2 (p.getD j (0, 1)) (qt (r.getD c (0, 1)) (p.getD c (0, 1)))) := by
      rw [List.getD_eq_getElem?_getD, List.getElem?_map, List.getElem?_range h]
      rfl
    have q := qt_lp (lr c) (lp c) nz
    have t := jn_lp (w := 2) (.inr (.inr rfl)) (lp j) q
    rw [e, val_jn1 (lr j) t, val_jn2 (lp j) q, val_qt (lr c) (lp c) nz]
  · have e : ∀ (f : Nat → Int × Int), ((List.range r.length).map f).getD j (0, 1) = (0, 1) := fun f => by
      rw [List.getD_eq_getElem?_getD, List.getElem?_eq_none (by simpa using h)]
      rfl
    have er : r.getD j (0, 1) = (0, 1) := by
      rw [List.getD_eq_getElem?_getD, List.getElem?_eq_none (by omega)]
      rfl
    rw [e, er, val0]
    rcases len with l | l
    · have ep : p.getD j (0, 1) = (0, 1) := by
        rw [List.getD_eq_getElem?_getD, List.getElem?_eq_none (by omega)]
        rfl
      rw [ep, val0]
      grind
    · subst l
      have : ([] : List (Int × Int)).getD c (0, 1) = (0, 1) := rfl
      rw [this, val0]
      grind
theorem matE_wop {rows : List (List (Int × Int))} {n m p c : Nat} (h : Rws rows n m) (m0 : 0 < m) (hp : p < rows.length) (nz : ((rows.getD p []).getD c (0, 1)).1 ≠ 0) :
    matE (wop rows p c) = fun i j => matE rows (DT.skip p i) j - matE rows p j * (matE rows (DT.skip p i) c / matE rows p c) := by
  funext i j
  have e : (wop rows p c).getD i [] = clrP (rows.getD (DT.skip p i) []) (rows.getD p []) c := by
    rw [← getD_skip rows p i hp]
    unfold wop
    generalize rows.take p ++ rows.drop (p + 1) = xs
    generalize rows.getD p [] = q
    have e1 := List.getD_eq_getElem?_getD (l := xs.map fun r => clrP r q c) (i := i) (a := [])
    have e2 := List.getD_eq_getElem?_getD (l := xs) (i := i) (a := [])
    rw [e1, e2, List.getElem?_map]
    cases xs[i]? <;> rfl
  unfold matE
  rw [e]
  refine clrP_at m0 (fun j => h.at_ m0 _ j) (fun j => h.at_ m0 _ j) ?_ nz
  have lp : (rows.getD p []).length = n := by
    rw [List.getD_eq_getElem?_getD, List.getElem?_eq_getElem hp]
    exact (h _ (List.getElem_mem hp)).1
  rw [lp]
  by_cases q : DT.skip p i < rows.length
  · left
    rw [List.getD_eq_getElem?_getD, List.getElem?_eq_getElem q]
    exact (h _ (List.getElem_mem q)).1.symm
  · right
    rw [List.getD_eq_getElem?_getD, List.getElem?_eq_none (by omega)]
    rfl
end G
namespace G
open PySem PySem.Spec PyProof.Rows L2
theorem wop_rws {rows : List (List (Int × Int))} {n m p c : Nat} (h : Rws rows n m) (m0 : 0 < m) (hp : p < rows.length) (nz : ((rows.getD p []).getD c (0, 1)).1 ≠ 0) : Rws (wop rows p c) n (m + (m + (m + m) + 1) + 1) := fun r hr => by
  unfold wop at hr
  obtain ⟨s, hs, rfl⟩ := List.mem_map.mp hr
  have hs : s ∈ rows := by
    rcases List.mem_append.mp hs with q | q
    · exact List.mem_of_mem_take q
    · exact List.mem_of_mem_drop q
  obtain ⟨i, hi⟩ := List.mem_iff_getElem?.mp hs
  have es : rows.getD i [] = s := by rw [List.getD_eq_getElem?_getD, hi]; rfl
  refine ⟨by unfold clrP; rw [List.length_map, List.length_range]; exact (h s hs).1, fun x hx => ?_⟩
  unfold clrP at hx
  obtain ⟨j, _, rfl⟩ := List.mem_map.mp hx
  have l1 : ∀ j, Lp m (s.getD j (0, 1)) := fun j => by rw [← es]; exact h.at_ m0 i j
  exact jn_lp (.inr (.inl rfl)) (l1 j) (jn_lp (.inr (.inr rfl)) (h.at_ m0 p j) (qt_lp (l1 c) (h.at_ m0 p c) nz))
/-- behind c steps: what is left of n rows, all over one bottom D of b bits at first -/
structure El (n c b : Nat) (D : Int) (π ρ : Nat → Nat → Int) (P : _root_.Rat) (rest : List (List (Int × Int))) : Prop where
  inv : DT.Inv c (fun i j => (π i j : _root_.Rat) / (D : _root_.Rat)) (fun i j => (ρ i j : _root_.Rat) / (D : _root_.Rat)) P (matE rest)
  nz : P ≠ 0
  d0 : D ≠ 0
  bd : D.natAbs ≤ 2 ^ b
  bp : ∀ i j, (π i j).natAbs ≤ 2 ^ b
  br : ∀ i j, (ρ i j).natAbs ≤ 2 ^ b
  rws : Rws rest n (n * b + 17)
  len : rest.length + c = n
theorem fac_le {c : Nat} (h : c ≤ 8) : DT.fac c ≤ 2 ^ 16 := by
  have : c = 0 ∨ c = 1 ∨ c = 2 ∨ c = 3 ∨ c = 4 ∨ c = 5 ∨ c = 6 ∨ c = 7 ∨ c = 8 := by omega
  rcases this with rfl | rfl | rfl | rfl | rfl | rfl | rfl | rfl | rfl <;> decide
theorem pw_le {n b : Nat} (k : Nat) (hk : k ≤ n) : (2 ^ b) ^ k ≤ 2 ^ (n * b) := by
  rw [← Nat.pow_mul, Nat.mul_comm]
  exact Nat.pow_le_pow_right (by decide) (Nat.mul_le_mul_right b hk)
theorem pw_lt {n b : Nat} : (2 : Nat) ^ 16 * 2 ^ (n * b) < 2 ^ (n * b + 17) := by
  rw [← Nat.pow_add]
  exact Nat.pow_lt_pow_right (by decide) (by omega)
theorem minor_bt {n c b : Nat} (M : Nat → Nat → Int) (h : ∀ i j, (M i j).natAbs ≤ 2 ^ b) (c8 : c ≤ n) (n8 : n ≤ 8) : Bt (n * b + 17) (DT.detI c M) := by
  unfold Bt
  exact Nat.lt_of_le_of_lt (DT.detI_le c _ (2 ^ b) h) (Nat.lt_of_le_of_lt (Nat.mul_le_mul (fac_le (by omega)) (pw_le c c8)) pw_lt)
theorem lp_left {m n c b : Nat} {D : Int} {π ρ : Nat → Nat → Int} {P : _root_.Rat} {E : DT.Mat} (inv : DT.Inv c (fun i j => (π i j : _root_.Rat) / (D : _root_.Rat)) (fun i j => (ρ i j : _root_.Rat) / (D : _root_.Rat)) P E) (nz : P ≠ 0) (d0 : D ≠ 0)
    (bd : D.natAbs ≤ 2 ^ b) (bp : ∀ i j, (π i j).natAbs ≤ 2 ^ b) (br : ∀ i j, (ρ i j).natAbs ≤ 2 ^ b) (c8 : c + 1 ≤ n) (n8 : n ≤ 8) {i j : Nat} {x : Int × Int} (hx : Lp m x) (e : val x = E i j) : Lp (n * b + 17) x := by
  obtain ⟨h1, h2⟩ := DT.inv_frac d0 inv nz i j
  refine lp_frac hx (by rw [e]; exact h1) (fun z => ?_) ?_ ?_ (by omega)
  · rcases Int.mul_eq_zero.mp z with q | q
    · exact d0 q
    · exact h2 q
  · refine minor_bt _ (fun a k => ?_) c8 n8
    split
    · exact bp _ _
    · exact br _ _
  · unfold Bt
    rw [Int.natAbs_mul]
    have q := DT.detI_le c π (2 ^ b) bp
    refine Nat.lt_of_le_of_lt (Nat.mul_le_mul bd q) (Nat.lt_of_le_of_lt ?_ (pw_lt (n := n) (b := b)))
    have q2 : 2 ^ b * (DT.fac c * (2 ^ b) ^ c) = DT.fac c * (2 ^ b) ^ (c + 1) := by
      rw [Nat.pow_succ]
      grind
    rw [q2]
    exact Nat.mul_le_mul (fac_le (by omega)) (pw_le (c + 1) c8)
/-- the multiples of the pivot's row are no longer either -/
theorem El.quot {m n c b p i : Nat} {D : Int} {π ρ : Nat → Nat → Int} {P : _root_.Rat} {rest : List (List (Int × Int))} (h : El n c b D π ρ P rest) (n8 : n ≤ 8) (c8 : c + 1 ≤ n) {q : Int × Int} (hq : Lp m q) (nz : matE rest p c ≠ 0)
    (e : val q = matE rest i c / matE rest p c) : Lp (n * b + 17) q := by
  obtain ⟨h1, h2⟩ := DT.inv_frac h.d0 h.inv h.nz i c
  obtain ⟨h3, _⟩ := DT.inv_frac h.d0 h.inv h.nz p c
  have bm : ∀ k, ∀ a b', ((fun a b => (if a < c then π a else ρ k) (if b < c then b else c)) a b').natAbs ≤ 2 ^ b := fun k a b' => by
    dsimp only
    split
    · exact h.bp _ _
    · exact h.br _ _
  have dn : ((D * DT.detI c π : Int) : _root_.Rat) ≠ 0 := cast_ne (fun z => by
    rcases Int.mul_eq_zero.mp z with q | q
    · exact h.d0 q
    · exact h2 q)
  refine lp_frac (a := DT.detI (c + 1) fun a b => (if a < c then π a else ρ i) (if b < c then b else c)) (b := DT.detI (c + 1) fun a b => (if a < c then π a else ρ p) (if b < c then b else c)) hq ?_ (fun z => ?_) (minor_bt _ (bm i) c8 n8) (minor_bt _ (bm p) c8 n8) (by omega)
  · rw [e, ← h1, ← h3]
    grind
  · rw [z] at h3
    have z0 : ((0 : Int) : _root_.Rat) = 0 := rfl
    rw [z0] at h3
    rcases Rat.mul_eq_zero.mp h3 with q | q
    · exact nz q
    · exact dn q
theorem El.step {n c b p : Nat} {D : Int} {π ρ : Nat → Nat → Int} {P : _root_.Rat} {rest : List (List (Int × Int))} (h : El n c b D π ρ P rest) (n8 : n ≤ 8) (hp : p < rest.length) (nz : ((rest.getD p []).getD c (0, 1)).1 ≠ 0) :
    El n (c + 1) b D (fun i => if i = c then ρ p else π i) (fun i => ρ (DT.skip p i)) (P * matE rest p c) (wop rest p c) := by
  have m0 : 0 < n * b + 17 := by omega
  have pv : matE rest p c ≠ 0 := val_ne (h.rws.at_ m0 p c) nz
  have st := DT.inv_step h.inv pv
  rw [← matE_wop h.rws m0 hp nz] at st
  have e1 : (fun i => if i = c then (fun i j => (ρ i j : _root_.Rat) / (D : _root_.Rat)) p else (fun i j => (π i j : _root_.Rat) / (D : _root_.Rat)) i) = fun i j => (((fun i => if i = c then ρ p else π i) i j : Int) : _root_.Rat) / (D : _root_.Rat) := by
    funext i j
    by_cases q : i = c
    · simp only [if_pos q]
    · simp only [if_neg q]
  rw [e1] at st
  have hl := h.len
  have ll : (wop rest p c).length + 1 = rest.length := by
    unfold wop
    rw [List.length_map, List.length_append, List.length_take, List.length_drop]
    omega
  have bp' : ∀ i j, ((fun i => if i = c then ρ p else π i) i j).natAbs ≤ 2 ^ b := fun i j => by
    dsimp only
    split
    · exact h.br _ _
    · exact h.bp _ _
  have nz' : P * matE rest p c ≠ 0 := fun z => by
    rcases Rat.mul_eq_zero.mp z with q | q
    · exact h.nz q
    · exact pv q
  refine ⟨st, nz', h.d0, h.bd, bp', fun i j => h.br _ _, fun r hr => ?_, by omega⟩
  have w := wop_rws h.rws m0 hp nz r hr
  refine ⟨w.1, fun x hx => ?_⟩
  obtain ⟨i, hi⟩ := List.mem_iff_getElem?.mp hr
  obtain ⟨j, hj⟩ := List.mem_iff_getElem?.mp hx
  have il := (List.getElem?_eq_some_iff.mp hi).1
  refine lp_left (i := i) (j := j) st nz' h.d0 h.bd bp' (fun i j => h.br _ _) (by omega) n8 (w.2 x hx) ?_
  unfold matE
  rw [List.getD_eq_getElem?_getD, List.getD_eq_getElem?_getD, hi]
  show _ = val ((r[j]?).getD (0, 1))
  rw [hj]
  rfl
end G
namespace G
open PySem PySem.Spec PyProof.Rows L2
/-- what is left, from column c on -/
def rdE (c : Nat) (rows : List (List (Int × Int))) : DT.Mat := fun i j => matE rows i (j + c)
theorem det_wop {rows : List (List (Int × Int))} {n m p c k : Nat} (h : Rws rows n m) (m0 : 0 < m) (hk : rows.length = k + 1) (hp : p < k + 1) (nz : ((rows.getD p []).getD c (0, 1)).1 ≠ 0) :
    DT.det (k + 1) (rdE c rows) = DT.sg p * matE rows p c * DT.det k (rdE (c + 1) (wop rows p c)) := by
  have pv : rdE c rows p 0 ≠ 0 := by
    unfold rdE
    rw [Nat.zero_add]
    exact val_ne (h.at_ m0 p c) nz
  rw [DT.det_step k p (rdE c rows) hp pv]
  have e0 : rdE c rows p 0 = matE rows p c := by unfold rdE; rw [Nat.zero_add]
  have e1 : rdE (c + 1) (wop rows p c) = fun i j => rdE c rows (DT.skip p i) (j + 1) - rdE c rows p (j + 1) * (rdE c rows (DT.skip p i) 0 / rdE c rows p 0) := by
    funext i j
    unfold rdE
    rw [matE_wop h m0 (by omega) nz, Nat.zero_add, show j + (c + 1) = j + 1 + c from by omega]
  rw [e1, e0]
theorem det_none {rows : List (List (Int × Int))} {c k : Nat} (z : ∀ i, i < k + 1 → ((rows.getD i []).getD c (0, 1)).1 = 0) : DT.det (k + 1) (rdE c rows) = 0 := by
  refine DT.det_col0 k _ fun i hi => ?_
  unfold rdE matE val
  rw [Nat.zero_add, z i hi]
  show (0 : _root_.Rat) / _ = 0
  grind
theorem El.start {n b m : Nat} {D : Int} {ρ : Nat → Nat → Int} {rows : List (List (Int × Int))} (h : Rws rows n m) (len : rows.length = n) (d0 : D ≠ 0) (bd : D.natAbs ≤ 2 ^ b) (br : ∀ i j, (ρ i j).natAbs ≤ 2 ^ b) (n8 : n ≤ 8)
    (e : ∀ i j, matE rows i j = (ρ i j : _root_.Rat) / (D : _root_.Rat)) : El n 0 b D (fun _ _ => 0) ρ 1 rows := by
  have iv := DT.inv0 (fun i j => (((fun _ _ => 0 : Nat → Nat → Int) i j : Int) : _root_.Rat) / (D : _root_.Rat)) (matE rows)
  have e2 : matE rows = fun i j => (ρ i j : _root_.Rat) / (D : _root_.Rat) := by
    funext i j
    exact e i j
  have iv2 : DT.Inv 0 (fun i j => (((fun _ _ => 0 : Nat → Nat → Int) i j : Int) : _root_.Rat) / (D : _root_.Rat)) (fun i j => (ρ i j : _root_.Rat) / (D : _root_.Rat)) 1 (matE rows) := by
    rw [← e2]
    exact iv
  have bp : ∀ i j, ((fun _ _ => 0 : Nat → Nat → Int) i j).natAbs ≤ 2 ^ b := fun _ _ => Nat.zero_le _
  refine ⟨iv2, by decide, d0, bd, bp, br, fun r hr => ⟨(h r hr).1, fun x hx => ?_⟩, by omega⟩
  obtain ⟨i, hi⟩ := List.mem_iff_getElem?.mp hr
  obtain ⟨j, hj⟩ := List.mem_iff_getElem?.mp hx
  refine lp_left (i := i) (j := j) iv2 (by decide) d0 bd bp br (by have := (List.getElem?_eq_some_iff.mp hi).1; omega) n8 ((h r hr).2 x hx) ?_
  unfold matE
  rw [List.getD_eq_getElem?_getD, List.getD_eq_getElem?_getD, hi]
  show _ = val ((r[j]?).getD (0, 1))
  rw [hj]
  rfl
/-- the product of the pivots is no longer -/
theorem El.lpP {n c b m : Nat} {D : Int} {π ρ : Nat → Nat → Int} {P : _root_.Rat} {rest : List (List (Int × Int))} (h : El n c b D π ρ P rest) (n8 : n ≤ 8) {x : Int × Int} (hx : Lp m x) (e : val x = P ∨ val x = -P) : Lp (n * b + 17) x := by
  have c8 : c ≤ n := by have := h.len; omega
  have d1 : (D : _root_.Rat) ≠ 0 := cast_ne h.d0
  have k := DT.inv_P h.inv
  have e1 : (fun a b => (fun i j => (π i j : _root_.Rat) / (D : _root_.Rat)) a b) = fun a b => (1 / (D : _root_.Rat)) * ((π a b : Int) : _root_.Rat) := by
    funext a b
    grind
  rw [e1, DT.det_scale, DT.det_cast] at k
  have dp : ((D ^ c : Int) : _root_.Rat) = (D : _root_.Rat) ^ c := by
    clear k e1 e hx h c8
    induction c with
    | zero => rfl
    | succ c ih => rw [Int.pow_succ, Rat.intCast_mul, ih]; grind
  have inv1 : ∀ c : Nat, (1 / (D : _root_.Rat)) ^ c * (D : _root_.Rat) ^ c = 1 := fun c => by
    induction c with
    | zero => grind
    | succ c ih => grind
  have bb : Bt (n * b + 17) (D ^ c) := by
    unfold Bt
    rw [Int.natAbs_pow]
    have := Nat.pow_le_pow_left h.bd c
    have q := pw_le (b := b) c c8
    have : (2 : Nat) ^ (n * b) < 2 ^ (n * b + 17) := Nat.pow_lt_pow_right (by decide) (by omega)
    omega
  have iv := inv1 c
  rcases e with e | e
  · refine lp_frac (a := DT.detI c π) (b := D ^ c) hx ?_ (Int.pow_ne_zero h.d0) (minor_bt _ h.bp c8 n8) bb (by omega)
    rw [e, ← k, dp]
    grind
  · refine lp_frac (a := -DT.detI c π) (b := D ^ c) hx ?_ (Int.pow_ne_zero h.d0) (minor_bt _ h.bp c8 n8).neg bb (by omega)
    rw [e, ← k, dp, Rat.intCast_neg]
    grind
end G

/-! Elimination with any columns; minors over one bottom. -/
namespace DT
/-- behind c steps: the pivots' rows s, their columns κ, the rows s' that are left -/
def InvK (M0 : Mat) (c : Nat) (s κ s' : Nat → Nat) (P : R) (E : Mat) : Prop := ∀ m (f g : Nat → Nat), det (c + m) (fun i j => M0 (if i < c then s i else s' (f (i - c))) (if j < c then κ j else g (j - c))) = P * det m fun a b => E (f a) (g b)
theorem invK0 (M0 : Mat) : InvK M0 0 (fun i => i) (fun i => i) (fun i => i) 1 M0 := fun m f g => by
  have e : (fun i j => M0 (if i < 0 then i else f (i - 0)) (if j < 0 then j else g (j - 0))) = fun a b => M0 (f a) (g b) := by
    funext i j
    rw [if_neg (by omega), if_neg (by omega)]
    rfl
  rw [Nat.zero_add]
  show det m (fun i j => M0 (if i < 0 then i else f (i - 0)) (if j < 0 then j else g (j - 0))) = _
  rw [e]
  grind
theorem invK_step {M0 : Mat} {c p γ : Nat} {s κ s' : Nat → Nat} {P : R} {E : Mat} (h : InvK M0 c s κ s' P E) (nz : E p γ ≠ 0) :
    InvK M0 (c + 1) (fun i => if i = c then s' p else s i) (fun j => if j = c then γ else κ j) (fun i => s' (skip p i)) (P * E p γ) fun i j => E (skip p i) j - E p j * (E (skip p i) γ / E p γ) := fun m f g => by
  have k := h (m + 1) (fun a => if a = 0 then p else skip p (f (a - 1))) (fun b => if b = 0 then γ else g (b - 1))
  rw [det_step m 0 _ (by omega) (by exact nz)] at k
  have e : (fun i j => M0 (if i < c + 1 then (fun i => if i = c then s' p else s i) i else (fun i => s' (skip p i)) (f (i - (c + 1)))) (if j < c + 1 then (fun j => if j = c then γ else κ j) j else g (j - (c + 1)))) = fun i j => M0 (if i < c then s i else s' ((fun a => if a = 0 then p else skip p (f (a - 1))) (i - c))) (if j < c then κ j else (fun b => if b = 0 then γ else g (b - 1)) (j - c)) := by
    funext i j
    dsimp only
    congr 1
    · by_cases a : i < c
      · rw [if_pos (show i < c + 1 by omega), if_pos a, if_neg (show i ≠ c by omega)]
      · rw [if_neg a]
        by_cases b : i = c
        · rw [if_pos (show i < c + 1 by omega), if_pos b, if_pos (show i - c = 0 by omega)]
        · rw [if_neg (show ¬ i < c + 1 by omega), if_neg (show i - c ≠ 0 by omega), show i - (c + 1) = i - c - 1 from by omega]
    · by_cases a : j < c
      · rw [if_pos (show j < c + 1 by omega), if_pos a, if_neg (show j ≠ c by omega)]
      · rw [if_neg a]
        by_cases b : j = c
        · rw [if_pos (show j < c + 1 by omega), if_pos b, if_pos (show j - c = 0 by omega)]
        · rw [if_neg (show ¬ j < c + 1 by omega), if_neg (show j - c ≠ 0 by omega), show j - (c + 1) = j - c - 1 from by omega]
  have s0 : sg 0 = 1 := rfl
  show det (c + 1 + m) (fun i j => M0 (if i < c + 1 then (fun i => if i = c then s' p else s i) i else (fun i => s' (skip p i)) (f (i - (c + 1)))) (if j < c + 1 then (fun j => if j = c then γ else κ j) j else g (j - (c + 1)))) = _
  rw [e, show c + 1 + m = c + (m + 1) from by omega, k, s0]
  show P * (1 * E p γ * det m (fun a b => E (skip p (f a)) (g b) - E p (g b) * (E (skip p (f a)) γ / E p γ))) = _
  grind
theorem invK_P {M0 : Mat} {c : Nat} {s κ s' : Nat → Nat} {P : R} {E : Mat} (h : InvK M0 c s κ s' P E) : det c (fun i j => M0 (s i) (κ j)) = P := by
  have k := h 0 (fun _ => 0) (fun _ => 0)
  rw [Nat.add_zero] at k
  have e : det c (fun i j => M0 (if i < c then s i else s' ((fun _ => 0) (i - c))) (if j < c then κ j else (fun _ => 0) (j - c))) = det c fun i j => M0 (s i) (κ j) := det_congr c fun i j hi hj => by
    rw [if_pos hi, if_pos hj]
  rw [e] at k
  rw [k]
  show P * 1 = P
  grind
theorem invK_E {M0 : Mat} {c : Nat} {s κ s' : Nat → Nat} {P : R} {E : Mat} (h : InvK M0 c s κ s' P E) (i j : Nat) : det (c + 1) (fun a b => M0 (if a < c then s a else s' i) (if b < c then κ b else j)) = P * E i j := by
  have k := h 1 (fun _ => i) (fun _ => j)
  rw [det_one] at k
  exact k
end DT
namespace G
open PySem PySem.Spec PyProof.Rows L2
/-- all minors of up to eight rows over one bottom B, with at most l bits -/
def Mb (M : DT.Mat) (l : Nat) : Prop := ∃ B : Int, B ≠ 0 ∧ B.natAbs < 2 ^ l ∧ ∀ k, k ≤ 8 → ∀ f g : Nat → Nat, ∃ z : Int, z.natAbs < 2 ^ l ∧ DT.det k (fun i j => M (f i) (g j)) = (z : _root_.Rat) / (B : _root_.Rat)
theorem Mb.mono {M : DT.Mat} {l l' : Nat} (h : Mb M l) (e : l ≤ l') : Mb M l' := by
  obtain ⟨B, b0, bB, hz⟩ := h
  have p : (2 : Nat) ^ l ≤ 2 ^ l' := Nat.pow_le_pow_right (by decide) e
  exact ⟨B, b0, Nat.lt_of_lt_of_le bB p, fun k hk f g => let ⟨z, a, b⟩ := hz k hk f g; ⟨z, Nat.lt_of_lt_of_le a p, b⟩⟩
/-- behind c steps of q rows of n -/
structure Elm (M0 : DT.Mat) (n q l c : Nat) (P : _root_.Rat) (s κ s' : Nat → Nat) (rest : List (List (Int × Int))) : Prop where
  inv : DT.InvK M0 c s κ s' P (matE rest)
  nz : P ≠ 0
  rws : Rws rest n l
  len : rest.length + c = q
theorem Mb.lp {M0 : DT.Mat} {l c m : Nat} {P : _root_.Rat} {s κ s' : Nat → Nat} {E : DT.Mat} (h : Mb M0 l) (iv : DT.InvK M0 c s κ s' P E) (nz : P ≠ 0) (c8 : c + 1 ≤ 8) (l0 : 0 < l) {i j : Nat} {x : Int × Int} (hx : Lp m x) (e : val x = E i j) : Lp l x := by
  obtain ⟨B, b0, bB, hz⟩ := h
  obtain ⟨z0, bz0, e0⟩ := hz c (by omega) s κ
  obtain ⟨z1, bz1, e1⟩ := hz (c + 1) c8 (fun a => if a < c then s a else s' i) (fun b => if b < c then κ b else j)
  rw [DT.invK_P iv] at e0
  rw [DT.invK_E iv] at e1
  have bb := cast_ne b0
  have zz : z0 ≠ 0 := fun z => nz (by
    rw [e0, z]
    show (0 : _root_.Rat) / _ = 0
    grind)
  refine lp_frac (a := z1) (b := z0) hx ?_ zz bz1 bz0 l0
  rw [e]
  have z0' := cast_ne zz
  rw [e0] at e1
  grind
theorem Elm.quot {M0 : DT.Mat} {n q l c m p i γ : Nat} {P : _root_.Rat} {s κ s' : Nat → Nat} {rest : List (List (Int × Int))} (hM : Mb M0 l) (h : Elm M0 n q l c P s κ s' rest) (c8 : c + 1 ≤ 8) (l0 : 0 < l) {x : Int × Int} (hx : Lp m x) (nz : matE rest p γ ≠ 0)
    (e : val x = matE rest i γ / matE rest p γ) : Lp l x := by
  obtain ⟨B, b0, bB, hz⟩ := hM
  obtain ⟨z1, bz1, e1⟩ := hz (c + 1) c8 (fun a => if a < c then s a else s' i) (fun b => if b < c then κ b else γ)
  obtain ⟨z2, bz2, e2⟩ := hz (c + 1) c8 (fun a => if a < c then s a else s' p) (fun b => if b < c then κ b else γ)
  rw [DT.invK_E h.inv] at e1 e2
  have bb := cast_ne b0
  have pz := h.nz
  have zz : z2 ≠ 0 := fun z => by
    rw [z] at e2
    have : ((0 : Int) : _root_.Rat) = 0 := rfl
    rw [this] at e2
    have : P * matE rest p γ = 0 := by grind
    rcases Rat.mul_eq_zero.mp this with q | q
    · exact pz q
    · exact nz q
  refine lp_frac (a := z1) (b := z2) hx ?_ zz bz1 bz2 l0
  have z2' := cast_ne zz
  rw [e]
  have h1 : (z1 : _root_.Rat) = P * matE rest i γ * (B : _root_.Rat) := by grind
  have h2 : (z2 : _root_.Rat) = P * matE rest p γ * (B : _root_.Rat) := by grind
  rw [h1, h2]
  grind
theorem Elm.step {M0 : DT.Mat} {n q l c p γ : Nat} {P : _root_.Rat} {s κ s' : Nat → Nat} {rest : List (List (Int × Int))} (hM : Mb M0 l) (h : Elm M0 n q l c P s κ s' rest) (q8 : q ≤ 8) (l0 : 0 < l) (hp : p < rest.length) (nz : ((rest.getD p []).getD γ (0, 1)).1 ≠ 0) :
    Elm M0 n q l (c + 1) (P * matE rest p γ) (fun i => if i = c then s' p else s i) (fun j => if j = c then γ else κ j) (fun i => s' (DT.skip p i)) (wop rest p γ) := by
  have pv : matE rest p γ ≠ 0 := val_ne (h.rws.at_ l0 p γ) nz
  have st := DT.invK_step h.inv pv
  rw [← matE_wop h.rws l0 hp nz] at st
  have hl := h.len
  have ll : (wop rest p γ).length + 1 = rest.length := by
    unfold wop
    rw [List.length_map, List.length_append, List.length_take, List.length_drop]
    omega
  have nz' : P * matE rest p γ ≠ 0 := fun z => by
    rcases Rat.mul_eq_zero.mp z with q | q
    · exact h.nz q
    · exact pv q
  refine ⟨st, nz', fun r hr => ?_, by omega⟩
  have w := wop_rws h.rws l0 hp nz r hr
  refine ⟨w.1, fun x hx => ?_⟩
  obtain ⟨i, hi⟩ := List.mem_iff_getElem?.mp hr
  obtain ⟨j, hj⟩ := List.mem_iff_getElem?.mp hx
  have il := (List.getElem?_eq_some_iff.mp hi).1
  refine hM.lp (i := i) (j := j) st nz' (by omega) l0 (w.2 x hx) ?_
  unfold matE
  rw [List.getD_eq_getElem?_getD, List.getD_eq_getElem?_getD, hi]
  show _ = val ((r[j]?).getD (0, 1))
  rw [hj]
  rfl
theorem Elm.start {rows : List (List (Int × Int))} {n m l : Nat} (hM : Mb (matE rows) l) (h : Rws rows n m) (l0 : 0 < l) : Elm (matE rows) n rows.length l 0 1 (fun i => i) (fun i => i) (fun i => i) rows := by
  have iv := DT.invK0 (matE rows)
  refine ⟨iv, by decide, fun r hr => ⟨(h r hr).1, fun x hx => ?_⟩, rfl⟩
  obtain ⟨i, hi⟩ := List.mem_iff_getElem?.mp hr
  obtain ⟨j, hj⟩ := List.mem_iff_getElem?.mp hx
  refine hM.lp (i := i) (j := j) iv (by decide) (by decide) l0 ((h r hr).2 x hx) ?_
  unfold matE
  rw [List.getD_eq_getElem?_getD, List.getD_eq_getElem?_getD, hi]
  show _ = val ((r[j]?).getD (0, 1))
  rw [hj]
  rfl
theorem Elm.lpP {M0 : DT.Mat} {n q l c m : Nat} {P : _root_.Rat} {s κ s' : Nat → Nat} {rest : List (List (Int × Int))} (hM : Mb M0 l) (h : Elm M0 n q l c P s κ s' rest) (q8 : q ≤ 8) (l0 : 0 < l) {x : Int × Int} (hx : Lp m x) (e : val x = P ∨ val x = -P) : Lp l x := by
  have hl := h.len
  obtain ⟨B, b0, bB, hz⟩ := hM
  obtain ⟨z0, bz0, e0⟩ := hz c (by omega) s κ
  rw [DT.invK_P h.inv] at e0
  have bb := cast_ne b0
  rcases e with e | e
  · refine lp_frac (a := z0) (b := B) hx ?_ b0 bz0 bB l0
    rw [e, e0]
    grind
  · refine lp_frac (a := -z0) (b := B) hx ?_ b0 (Bt.neg bz0) bB l0
    rw [e, e0, Rat.intCast_neg]
    grind
/-- rows over one bottom -/
theorem mb_ov {M : DT.Mat} {b : Nat} (h : ∃ D : Int, D ≠ 0 ∧ D.natAbs ≤ 2 ^ b ∧ ∀ i j, ∃ z : Int, z.natAbs ≤ 2 ^ b ∧ M i j = (z : _root_.Rat) / (D : _root_.Rat)) : Mb M (8 * b + 17) := by
  obtain ⟨D, d0, bd, hz⟩ := h
  have dd := cast_ne d0
  have pD : ∀ k : Nat, ((D ^ k : Int) : _root_.Rat) = (D : _root_.Rat) ^ k := fun k => by
    induction k with
    | zero => rfl
    | succ k ih => rw [Int.pow_succ, Rat.intCast_mul, ih]; grind
  have lt : ∀ k, k ≤ 8 → (D ^ k).natAbs ≤ 2 ^ (b * k) := fun k hk => by
    rw [Int.natAbs_pow, Nat.pow_mul]
    exact Nat.pow_le_pow_left bd k
  refine ⟨D ^ 8, Int.pow_ne_zero d0, ?_, fun k hk f g => ?_⟩
  · have := lt 8 (Nat.le_refl _)
    have : (2 : Nat) ^ (b * 8) < 2 ^ (8 * b + 17) := Nat.pow_lt_pow_right (by decide) (by omega)
    omega
  · refine ⟨DT.detI k (fun i j => (hz (f i) (g j)).choose) * D ^ (8 - k), ?_, ?_⟩
    · have h1 := DT.detI_le k (fun i j => (hz (f i) (g j)).choose) (2 ^ b) fun i j => (hz (f i) (g j)).choose_spec.1
      have h2 := lt (8 - k) (by omega)
      rw [Int.natAbs_mul]
      refine Nat.lt_of_le_of_lt (Nat.mul_le_mul (Nat.le_trans h1 (Nat.mul_le_mul (fac_le hk) (Nat.le_refl _))) h2) ?_
      rw [← Nat.pow_mul, Nat.mul_assoc, ← Nat.pow_add, ← Nat.pow_add]
      refine Nat.pow_lt_pow_right (by decide) ?_
      have : b * k + b * (8 - k) = 8 * b := by
        rw [← Nat.mul_add, show k + (8 - k) = 8 from by omega, Nat.mul_comm]
      omega
    · have e : (fun i j => M (f i) (g j)) = fun i j => (1 / (D : _root_.Rat)) * (((hz (f i) (g j)).choose : Int) : _root_.Rat) := by
        funext i j
        refine (hz (f i) (g j)).choose_spec.2.trans ?_
        generalize (((hz (f i) (g j)).choose : Int) : _root_.Rat) = x
        grind
      rw [e, DT.det_scale, DT.det_cast, Rat.intCast_mul, pD, pD]
      have inv1 : ∀ c : Nat, (1 / (D : _root_.Rat)) ^ c * (D : _root_.Rat) ^ c = 1 := fun c => by
        induction c with
        | zero => grind
        | succ c ih => grind
      have i1 := inv1 k
      have pz : ∀ c : Nat, (D : _root_.Rat) ^ c ≠ 0 := fun c z => by
        have := inv1 c
        rw [z] at this
        grind
      have sp : (D : _root_.Rat) ^ 8 = (D : _root_.Rat) ^ k * (D : _root_.Rat) ^ (8 - k) := by
        rw [← pD, ← pD, ← pD, ← Rat.intCast_mul, ← Int.pow_add, show k + (8 - k) = 8 from by omega]
      rw [sp]
      have a1 := pz k
      have a2 := pz (8 - k)
      generalize (D : _root_.Rat) ^ k = u at *
      generalize (D : _root_.Rat) ^ (8 - k) = v at *
      generalize (1 / (D : _root_.Rat)) ^ k = w at *
      generalize ((DT.detI k fun i j => (hz (f i) (g j)).choose : Int) : _root_.Rat) = x
      grind
end G

/-! Rows of ratios: what is drawn into them, and the promises of elimination. -/
namespace G
open PySem PySem.Spec PyProof.Rows L2
/-- a comprehension whose element draws from a source: R is what is known of the values so far -/
theorem w_lcDrawG {β : Type} {J : It} {O : Addr → Hp → V → β → Prop} {g : TG} {tt : TT} {te : TE} {σ : L2.St} {Q : VK} {H1 : Hp} {vs : List Nat} {a : Addr} {b d n : Nat} (S : Src b H1 a) (hn : n ≤ 1000)
    (KS : ∀ {D H H' v y b}, O D H v y → Src b H a → Fr a H H' → O D H' v y) (KD : ∀ {D H H' zs v y}, O D H v y → H D = some (.lst zs) → Fr D H H' → O D H' v y)
    (item : Nat → V → Prop) (R : List β → Prop) (R0 : R [])
    (go : ∀ i H', i < n → Fr a H1 H' → J.go i H') (stop : ∀ H', Fr a H1 H' → J.stop n H') (yld : ∀ i H' x H2, i < n → Fr a H1 H' → J.yld i H' x H2 → Same H' H2 ∧ item i x)
    (step : ∀ (k : Nat) x H2 (Rk : VK) (Rn : Hp → Prop) D zs ys, k < n → item k x → H1 D = none → D ≠ a → H2 D = some (.lst zs) → Src (b + d * k) H2 a → Fr a H1 H2 → R ys → ys.length = k →
      (∀ u y H', O D H' u y → R (ys ++ [y]) → Src (b + d * (k + 1)) H' a → Fr a H2 H' → Rk u H') → g x (wipe σ vs) H2 fun σ2 H3 => wipe σ2 vs = wipe σ vs ∧ tt σ2 H3 fun b H4 => if b = true then te σ2 H4 Rk else Rn H4)
    (q : ∀ L acc ys H', H1 L = none → Fr a H1 H' → H' L = some (.lst acc) → PL (O L H') acc ys → ys.length = n → R ys → Src (b + d * n) H' a → Q (.ref L) H') : LcW J g tt te vs σ Q H1 := by
  intro D nD
  have aD : D ≠ a := S.ne nD
  refine ⟨fun i m H' => m = n - i ∧ i ≤ n ∧ Fr a H1 H' ∧ Src (b + d * i) H' a ∧ ∃ acc ys, H' D = some (.lst acc) ∧ PL (O D H') acc ys ∧ ys.length = i ∧ R ys, ⟨n, by omega, Nat.zero_le _, .same (same_new nD), (S.same (same_new nD)).mono (by omega), [], [], upd_same, .nil, rfl, R0⟩, ?_⟩
  rintro i m H' ⟨rfl, hi, F, S', acc, ys, hD, pa, ly, ry⟩
  by_cases lt : i < n
  · refine .inr ⟨go i H' lt F, fun H' => Fr a H1 H' ∧ Src (b + d * (i + 1)) H' a ∧ ∃ acc ys, H' D = some (.lst acc) ∧ PL (O D H') acc ys ∧ ys.length = i + 1 ∧ R ys, fun H' ⟨x, y, z⟩ => ⟨n - (i + 1), by omega, rfl, by omega, x, y, z⟩, ?_⟩
    intro x H2 hx
    obtain ⟨e2, it⟩ := yld i H' x H2 lt F hx
    have F2 := F.trans (.same e2)
    have S2 := S'.same e2
    have pa2 : PL (O D H2) acc ys := pa.imp fun _ _ o => KS o S' (.same e2)
    refine step i x H2 _ _ D acc ys lt it nD aD (e2 _ _ hD) S2 F2 ry ly fun u y H4 o ry' S4 f4 => ?_
    have hD4 := f4 _ _ aD (e2 _ _ hD)
    have la := PL.len pa
    refine ⟨acc, hD4, by rw [show sizeLine = 16777216 from sizeLine_eq]; omega, fun c o nc hc => ?_, S4.fr (Ne.symm aD) Fr.at_, _, _, upd_same, ?_, by rw [List.length_append, ly]; rfl, ry'⟩
    · rw [upd_ne (ne_of_none hc nD)]
      exact f4 _ _ nc (F2 _ _ nc hc)
    · exact (pa2.imp fun _ _ o => KD (KS o S2 f4) hD4 Fr.at_).snoc (KD o hD4 Fr.at_)
  · obtain rfl : i = n := by omega
    exact .inl ⟨stop H' F, q D acc ys H' nD F hD pa ly ry S'⟩
end G
namespace G
open PySem PySem.Spec PyProof.Rows L2
/-- over a range -/
theorem w_lcDrawR {β : Type} {O : Addr → Hp → V → β → Prop} {te : TE} {σ : L2.St} {Q : VK} {H1 : Hp} {j : Nat} {a : Addr} {b d n : Nat} (S : Src b H1 a) (hn : n ≤ 1000)
    (KS : ∀ {D H H' v y b}, O D H v y → Src b H a → Fr a H H' → O D H' v y) (KD : ∀ {D H H' zs v y}, O D H v y → H D = some (.lst zs) → Fr D H H' → O D H' v y)
    (R : List β → Prop) (R0 : R [])
    (step : ∀ (k : Nat) H2 (Rk : VK) D zs ys, k < n → H1 D = none → D ≠ a → H2 D = some (.lst zs) → Src (b + d * k) H2 a → Fr a H1 H2 → R ys → ys.length = k →
      (∀ u y H', O D H' u y → R (ys ++ [y]) → Src (b + d * (k + 1)) H' a → Fr a H2 H' → Rk u H') → te ((σ.set j none).set j (some (.int (k : Int)))) H2 Rk)
    (q : ∀ L acc ys H', H1 L = none → Fr a H1 H' → H' L = some (.lst acc) → PL (O L H') acc ys → ys.length = n → R ys → Src (b + d * n) H' a → Q (.ref L) H') : LcW (Itr 0 n) (gName j) tYes te [j] σ Q H1 := by
  refine w_lcDrawG (O := O) S hn KS KD (fun i x => x = .int (i : Int)) R R0 (fun i H' h _ => h) (fun H' _ => Nat.le_refl _) (fun i H' x H2 h e hy => ?_) (fun k x H2 Rk Rn D zs ys lt it nD aD hD S2 F2 ry ly k' => ?_) q
  · obtain ⟨rfl, rfl⟩ := hy
    exact ⟨Same.refl _, by rw [Int.zero_add]⟩
  · subst it
    refine w_gn ⟨?_, w_yes (w_iteT rfl (step k H2 Rk D zs ys lt nD aD hD S2 F2 ry ly k'))⟩
    show ((σ.set j none).set j _).set j none = σ.set j none
    rw [List.set_set, List.set_set]
/-- over a list that nothing changes -/
theorem w_lcDrawL {β : Type} {K : PySem.W.Frag} {O : Addr → Hp → V → β → Prop} {te : TE} {σ : L2.St} {Q : VK} {H1 : Hp} {j : Nat} {a t : Addr} {rs : List V} {b d : Nat} (S : Src b H1 a) (ht : H1 t = some (.lst rs)) (ta : t ≠ a) (hn : rs.length ≤ 1000)
    (KS : ∀ {D H H' v y b}, O D H v y → Src b H a → Fr a H H' → O D H' v y) (KD : ∀ {D H H' zs v y}, O D H v y → H D = some (.lst zs) → Fr D H H' → O D H' v y)
    (R : List β → Prop) (R0 : R [])
    (step : ∀ (k : Nat) v H2 (Rk : VK) D zs ys, k < rs.length → rs[k]? = some v → H1 D = none → D ≠ a → H2 D = some (.lst zs) → Src (b + d * k) H2 a → Fr a H1 H2 → R ys → ys.length = k →
      (∀ u y H', O D H' u y → R (ys ++ [y]) → Src (b + d * (k + 1)) H' a → Fr a H2 H' → Rk u H') → te ((σ.set j none).set j (some v)) H2 Rk)
    (q : ∀ L acc ys H', H1 L = none → Fr a H1 H' → H' L = some (.lst acc) → PL (O L H') acc ys → ys.length = rs.length → R ys → Src (b + d * rs.length) H' a → Q (.ref L) H') : LcW (Itl K t) (gName j) tYes te [j] σ Q H1 := by
  have gt : ∀ i, i < rs.length → rs[i]? = some (rs.getD i .non) := fun i h => by rw [List.getD_eq_getElem?_getD, List.getElem?_eq_getElem h]; rfl
  refine w_lcDrawG (O := O) S hn KS KD (fun i x => rs[i]? = some x) R R0 (fun i H' h F => ⟨rs, _, SqL.of (F _ _ ta ht), gt i h⟩) (fun H' F => ⟨rs, SqL.of (F _ _ ta ht), Nat.le_refl _⟩) (fun i H' x H2 h F hy => ?_) (fun k x H2 Rk Rn D zs ys lt it nD aD hD S2 F2 ry ly k' => ?_) q
  · obtain ⟨rfl, hx⟩ := hy
    exact ⟨Same.refl _, hx _ (SqL.of (F _ _ ta ht))⟩
  · refine w_gn ⟨?_, w_yes (w_iteT rfl (step k x H2 Rk D zs ys lt it nD aD hD S2 F2 ry ly k'))⟩
    show ((σ.set j none).set j _).set j none = σ.set j none
    rw [List.set_set, List.set_set]
theorem ratV_so {C a : Addr} {H H' : Hp} {b : Nat} {v : V} {x : Pr} (o : RatV C H v x) (S : Src b H a) (f : Fr a H H') : RatV C H' v x := let ⟨s, e, R⟩ := o; ⟨s, e, R.fr S f⟩
theorem ratV_fill {C D : Addr} {H H' : Hp} {zs : List V} {v : V} {x : Pr} (o : RatV C H v x) (hD : H D = some (.lst zs)) (f : Fr D H H') : RatV C H' v x := kept_rat.fill o hD f
theorem rats_so {C a : Addr} {H H' : Hp} {b : Nat} {rs : List V} {xs : List Pr} (h : PL (RatV C H) rs xs) (S : Src b H a) (f : Fr a H H') : PL (RatV C H') rs xs := h.imp fun _ _ o => ratV_so o S f
/-- a list of ratios is no source -/
theorem row_ne {C a l : Addr} {H : Hp} {b : Nat} {rs : List V} {xs : List Pr} (S : Src b H a) (hl : H l = some (.lst rs)) (h : PL (RatV C H) rs xs) : l ≠ a := fun e => by
  subst e
  obtain ⟨x, y, z, h1, _⟩ := S
  rw [hl] at h1
  cases h1
  cases h with
  | cons o _ =>
    obtain ⟨s, e, _⟩ := o
    cases e
theorem tab_ne {C a l : Addr} {H : Hp} {b : Nat} {rows : List (List Pr)} (S : Src b H a) (h : TabR C H l rows) : l ≠ a := fun e => by
  subst e
  obtain ⟨x, y, z, h1, _⟩ := S
  obtain ⟨vs, h2, p⟩ := h
  rw [h2] at h1
  cases h1
  cases p with
  | cons o _ =>
    obtain ⟨_, _, e, _⟩ := o
    cases e
theorem rowX_so {C a D : Addr} {H H' : Hp} {b : Nat} {v : V} {xs : List Pr} (o : RowX C D H v xs) (S : Src b H a) (f : Fr a H H') : RowX C D H' v xs :=
  let ⟨l, rs, e, n, h, p⟩ := o; ⟨l, rs, e, n, f _ _ (row_ne S h p) h, rats_so p S f⟩
theorem tabR_so {C a l : Addr} {H H' : Hp} {b : Nat} {rows : List (List Pr)} (h : TabR C H l rows) (S : Src b H a) (f : Fr a H H') : TabR C H' l rows :=
  let na := tab_ne S h
  let ⟨vs, h2, p⟩ := h; ⟨vs, f _ _ na h2, p.imp fun _ _ o => rowX_so o S f⟩
/-- a drawn ratio -/
def Dr (w : Int) (x : Pr) : Prop := ∃ t b : Int, x = low t b ∧ t.natAbs < (max 10 w).toNat ∧ 1 ≤ b ∧ b ≤ max 9 w
def spLawR (C : Addr) : Sp := fun vs H Q _ => ∃ (a : Addr) (b : Nat) (w : Int), vs = [.ref a, .int w] ∧ Src b H a ∧ b + 100 < 2 ^ 60 ∧ 1 ≤ w ∧ w ≤ 1000000000 ∧
  ∀ r x H', Dr w x → Rat C H' r x.1 x.2 → Src (b + 6) H' a → Fr a H H' → Q (.ref r) H'
/-- n rows of w ratios -/
structure Ws (rows : List (List Pr)) (n w : Nat) : Prop where
  len : rows.length = n
  n1 : 1 ≤ n
  n8 : n ≤ 8
  w1 : 1 ≤ w
  w8 : w ≤ 8
  each : ∀ r ∈ rows, r.length = w
def spIsRws (C : Addr) : Sp := fun vs H Q _ => ∃ a rows n w, vs = [.ref a] ∧ TabR C H a rows ∧ Ws rows n w ∧ ∀ H', Same H H' → Q (.bl true) H'
def spChkRws (C : Addr) : Sp := fun vs H Q _ => ∃ a rows n w, vs = [.ref a] ∧ TabR C H a rows ∧ Ws rows n w ∧ ∀ H', Same H H' → Q .non H'
def spPivot (C : Addr) : Sp := fun vs H Q _ => ∃ (a : Addr) (rows : List (List Pr)) (c n m : Nat), vs = [.ref a, .int (c : Int)] ∧ TabR C H a rows ∧ Rws rows n m ∧ c < n ∧ n ≤ 8 ∧ rows.length ≤ 8 ∧
  (∀ (p : Nat) H', Same H H' → p < rows.length → ((rows.getD p []).getD c (0, 1)).1 ≠ 0 → Q (.int (p : Int)) H') ∧ (∀ H', Same H H' → (∀ i, i < rows.length → ((rows.getD i []).getD c (0, 1)).1 = 0) → Q .non H')
def spCleared (C : Addr) : Sp := fun vs H Q _ => ∃ (v u : V) (xs ps : List Pr) (c : Nat), vs = [v, u, .int (c : Int)] ∧ RowR C H v xs ∧ RowR C H u ps ∧ xs.length = ps.length ∧ xs.length ≤ 8 ∧ c < xs.length ∧ (∀ x ∈ xs, Lp 2660 x) ∧ (∀ x ∈ ps, Lp 2660 x) ∧ (ps.getD c (0, 1)).1 ≠ 0 ∧ Lp 2660 (qt (xs.getD c (0, 1)) (ps.getD c (0, 1))) ∧
  ∀ l rs H', H l = none → Same H H' → H' l = some (.lst rs) → PL (RatV C H') rs (clrP xs ps c) → Q (.ref l) H'
def spWop (C : Addr) : Sp := fun vs H Q _ => ∃ (a : Addr) (rows : List (List Pr)) (p c n : Nat), vs = [.ref a, .int (p : Int), .int (c : Int)] ∧ TabR C H a rows ∧ Rws rows n 2660 ∧ rows.length ≤ 8 ∧ p < rows.length ∧ c < n ∧ n ≤ 8 ∧ ((rows.getD p []).getD c (0, 1)).1 ≠ 0 ∧ (∀ i, i < rows.length → Lp 2660 (qt ((rows.getD i []).getD c (0, 1)) ((rows.getD p []).getD c (0, 1)))) ∧
  ∀ l H', H l = none → Same H H' → TabR C H' l (wop rows p c) → Q (.ref l) H'
/-- rows over one bottom -/
def Ov (rows : List (List Pr)) (b : Nat) : Prop := ∃ (D : Int) (ρ : Nat → Nat → Int), D ≠ 0 ∧ D.natAbs ≤ 2 ^ b ∧ (∀ i j, (ρ i j).natAbs ≤ 2 ^ b) ∧ ∀ i j, matE rows i j = (ρ i j : _root_.Rat) / (D : _root_.Rat)
def spDet (C : Addr) : Sp := fun vs H Q _ => ∃ (a : Addr) (rows : List (List Pr)) (n b m : Nat), vs = [.ref a] ∧ TabR C H a rows ∧ rows.length = n ∧ 1 ≤ n ∧ n ≤ 8 ∧ Rws rows n m ∧ Ov rows b ∧ n * b + 17 ≤ 2660 ∧
  ∀ r x H', H r = none → Same H H' → Rat C H' r x.1 x.2 → Lp 3000 x → val x = DT.det n (matE rows) → Q (.ref r) H'
/-- the wide promise of an operator -/
def spBinW (C : Addr) (w : Int) : Sp := fun vs H Q _ => ∃ p q x y, vs = [.ref p, .ref q] ∧ Rat C H p x.1 x.2 ∧ Rat C H q y.1 y.2 ∧ Lp 2660 x ∧ Lp 5321 y ∧
  ∀ r H', H r = none → Same H H' → Rat C H' r (jn w x y).1 (jn w x y).2 → Q (.ref r) H'
end G
namespace G
open PySem PySem.Spec PyProof.Rows L2
theorem getP {xs : List Pr} {k : Nat} (h : k < xs.length) : xs[k]? = some (xs.getD k (0, 1)) := by
  rw [List.getD_eq_getElem?_getD, List.getElem?_eq_getElem h]; rfl
theorem val_11 : val (1, 1) = 1 := by unfold val; decide +kernel
theorem w_binRW {C : Addr} {H : Hp} {Q : VK} {E : XK} {p q : Addr} {x y : Pr} {w : Int} (R : Rat C H p x.1 x.2) (S : Rat C H q y.1 y.2) (hx : Lp 2660 x) (hy : Lp 5321 y) (k : ∀ r H', H r = none → Same H H' → Rat C H' r (jn w x y).1 (jn w x y).2 → Q (.ref r) H') : rOwn C (spBinW C w) E (.ref p) (.ref q) H Q :=
  let ⟨dx, h⟩ := R
  let ⟨dy, h'⟩ := S
  ⟨p, dx, _, q, dy, _, rfl, rfl, h, h', p, q, x, y, rfl, ⟨dx, h⟩, ⟨dy, h'⟩, hx, hy, k⟩
end G
namespace G
open PySem PySem.Spec PyProof.Rows L2
theorem Dr.lp {w : Int} {x : Pr} {m : Nat} (h : Dr w x) (hw : (max 10 w).toNat < 2 ^ m) : Lp m x := by
  obtain ⟨t, b, rfl, ht, b1, b9⟩ := h
  refine Lp.low (by omega) (Nat.lt_trans ht hw) ?_
  have : b.natAbs ≤ (max 10 w).toNat := by omega
  exact Nat.lt_of_le_of_lt this hw
end G

/-! Shares as a matrix: its minors over one bottom, its determinant the factor. -/
namespace DT
/-- the taker's row behind a transfer: w times its own and u times the giver's -/
def shs (S : Mat) (w u : R) (g t : Nat) : Mat := fun i j => if i = t then w * S t j + u * S g j else S i j
def Mn (S : Mat) (D : Int) : Prop := ∀ k (f g : Nat → Nat), ∃ z : Int, det k (fun i j => S (f i) (g j)) * (D : R) = (z : R)
theorem det_shs {n : Nat} {S : Mat} {w u : R} {g t : Nat} (hg : g < n) (ht : t < n) (ne : g ≠ t) : det n (shs S w u g t) = w * det n S := by
  have e : shs S w u g t = setR S t fun j => w * S t j + u * S g j := rfl
  rw [e, det_lin n S t u (fun j => w * S t j) (S g) ht, det_mulR S w (S t) ht, setR_self, det_eq (M := setR S t (S g)) hg ht ne]
  · grind
  · funext j
    unfold setR
    rw [if_neg ne, if_pos rfl]
theorem Mn.step {S : Mat} {D b a : Int} {g t : Nat} (h : Mn S D) (hs : b + a ≠ 0) : Mn (shs S ((b : R) / ((b + a : Int) : R)) ((a : R) / ((b + a : Int) : R)) g t) (D * (b + a)) := fun k f l => by
  have zero : det k (fun i j => shs S ((b : R) / ((b + a : Int) : R)) ((a : R) / ((b + a : Int) : R)) g t (f i) (l j)) = 0 → ∃ z : Int, det k (fun i j => shs S ((b : R) / ((b + a : Int) : R)) ((a : R) / ((b + a : Int) : R)) g t (f i) (l j)) * ((D * (b + a) : Int) : R) = (z : R) := fun e => ⟨0, by
    rw [e]
    exact Rat.zero_mul _⟩
  have s0 : ((b + a : Int) : R) ≠ 0 := fun z => hs (Rat.intCast_inj.mp (by rw [z]; rfl))
  by_cases inj : ∀ i1 i2, i1 < k → i2 < k → f i1 = f i2 → i1 = i2
  · by_cases ht : ∃ i, i < k ∧ f i = t
    · obtain ⟨i0, hi0, e0⟩ := ht
      obtain ⟨z1, h1⟩ := h k f l
      obtain ⟨z2, h2⟩ := h k (fun i => if i = i0 then g else f i) l
      have e : det k (fun i j => shs S ((b : R) / ((b + a : Int) : R)) ((a : R) / ((b + a : Int) : R)) g t (f i) (l j)) = det k (setR (fun i j => S (f i) (l j)) i0 fun j => (b : R) / ((b + a : Int) : R) * S t (l j) + (a : R) / ((b + a : Int) : R) * S g (l j)) := det_congr k fun i j hi hj => by
        unfold shs setR
        by_cases c : i = i0
        · rw [if_pos c, c, if_pos e0]
        · rw [if_neg c, if_neg fun z => c (inj i i0 hi hi0 (by rw [z, e0]))]
      have e1 : det k (setR (fun i j => S (f i) (l j)) i0 fun j => S t (l j)) = det k fun i j => S (f i) (l j) := det_congr k fun i j _ _ => by
        unfold setR
        by_cases c : i = i0
        · rw [if_pos c, c, e0]
        · rw [if_neg c]
      have e2 : det k (setR (fun i j => S (f i) (l j)) i0 fun j => S g (l j)) = det k fun i j => S ((fun i => if i = i0 then g else f i) i) (l j) := det_congr k fun i j _ _ => by
        unfold setR
        dsimp only
        by_cases c : i = i0
        · rw [if_pos c, if_pos c]
        · rw [if_neg c, if_neg c]
      have q := det_lin k (fun i j => S (f i) (l j)) i0 ((a : R) / ((b + a : Int) : R)) (fun j => (b : R) / ((b + a : Int) : R) * S t (l j)) (fun j => S g (l j)) hi0
      rw [det_mulR _ _ (fun j => S t (l j)) hi0, e1, e2] at q
      refine ⟨b * z1 + a * z2, ?_⟩
      have r1 : ((b * z1 + a * z2 : Int) : R) = (b : R) * (z1 : R) + (a : R) * (z2 : R) := by rw [Rat.intCast_add, Rat.intCast_mul, Rat.intCast_mul]
      have r2 : ((D * (b + a) : Int) : R) = (D : R) * ((b + a : Int) : R) := Rat.intCast_mul ..
      rw [e, q, r1, r2, ← h1, ← h2]
      generalize ((b + a : Int) : R) = c at *
      generalize det k (fun i j => S (f i) (l j)) = x
      generalize det k (fun i j => S ((fun i => if i = i0 then g else f i) i) (l j)) = y
      grind
    · obtain ⟨z1, h1⟩ := h k f l
      have e : det k (fun i j => shs S ((b : R) / ((b + a : Int) : R)) ((a : R) / ((b + a : Int) : R)) g t (f i) (l j)) = det k fun i j => S (f i) (l j) := det_congr k fun i j hi _ => by
        unfold shs
        rw [if_neg fun z => ht ⟨i, hi, z⟩]
      refine ⟨z1 * (b + a), ?_⟩
      rw [e, Rat.intCast_mul, Rat.intCast_mul, ← h1]
      grind
  · refine zero ?_
    have : ∃ i1 i2, i1 < k ∧ i2 < k ∧ f i1 = f i2 ∧ i1 ≠ i2 := by
      refine Classical.byContradiction fun no => inj fun i1 i2 h1 h2 e => ?_
      refine Classical.byContradiction fun ne => no ⟨i1, i2, h1, h2, e, ne⟩
    obtain ⟨i1, i2, h1, h2, e, ne⟩ := this
    refine det_eq h1 h2 ne ?_
    funext j
    rw [e]
def ones (n : Nat) : Mat := fun i j => if i = j ∧ i < n then 1 else 0
theorem mn_ones (n : Nat) : Mn (ones n) 1 := fun k f g => by
  refine ⟨detI k fun i j => if f i = g j ∧ f i < n then 1 else 0, ?_⟩
  rw [← det_cast]
  have e : (fun i j => ones n (f i) (g j)) = fun i j => (((if f i = g j ∧ f i < n then 1 else 0 : Int)) : R) := by
    funext i j
    unfold ones
    split
    · rfl
    · rfl
  rw [e]
  exact Rat.mul_one _
theorem det_ones : ∀ n, det n (ones n) = 1 := fun n => by
  rw [det_tri n (ones n) fun i j hi hj => by unfold ones; rw [if_neg (by omega)]]
  have : ∀ k, k ≤ n → prodTo k (fun i => ones n i i) = 1 := fun k => by
    induction k with
    | zero => intro _; rfl
    | succ k ih =>
      intro hk
      rw [prodTo_succ, ih (by omega)]
      unfold ones
      rw [if_pos ⟨rfl, by omega⟩]
      exact Rat.mul_one _
  exact this n (Nat.le_refl _)
/-- all entries are between 0 and 1 -/
def Un (S : Mat) : Prop := ∀ i j, 0 ≤ S i j ∧ S i j ≤ 1
theorem un_ones (n : Nat) : Un (ones n) := fun i j => by
  unfold ones
  split
  · exact ⟨by decide, by decide⟩
  · exact ⟨by decide, by decide⟩
theorem Un.step {S : Mat} {w u : R} {g t : Nat} (h : Un S) (hw : 0 ≤ w) (hu : 0 ≤ u) (hs : w + u = 1) : Un (shs S w u g t) := fun i j => by
  unfold shs
  split
  · obtain ⟨a1, a2⟩ := h t j
    obtain ⟨b1, b2⟩ := h g j
    have c1 := Rat.mul_nonneg hw a1
    have c2 := Rat.mul_nonneg hu b1
    have c3 := Rat.mul_le_mul_of_nonneg_left a2 hw
    have c4 := Rat.mul_le_mul_of_nonneg_left b2 hu
    constructor <;> grind
  · exact h i j
theorem sum_le {n : Nat} {f : Nat → R} {c : R} (h : ∀ j, j < n → -c ≤ f j ∧ f j ≤ c) : -((n : R) * c) ≤ sumTo n f ∧ sumTo n f ≤ (n : R) * c := by
  induction n with
  | zero =>
    have : ((0 : Nat) : R) = 0 := rfl
    rw [this]
    show -(0 * c) ≤ (0 : R) ∧ (0 : R) ≤ 0 * c
    constructor <;> grind
  | succ n ih =>
    obtain ⟨a, b⟩ := ih fun j hj => h j (by omega)
    obtain ⟨x, y⟩ := h n (by omega)
    have e : ((n + 1 : Nat) : R) = (n : R) + 1 := by rw [Rat.natCast_add]; rfl
    rw [sumTo_succ, e]
    constructor <;> grind
theorem det_un {S : Mat} (h : Un S) : ∀ (k : Nat) (f g : Nat → Nat), -((fac k : Nat) : R) ≤ det k (fun i j => S (f i) (g j)) ∧ det k (fun i j => S (f i) (g j)) ≤ ((fac k : Nat) : R)
  | 0, f, g => by
    show -((1 : Nat) : R) ≤ (1 : R) ∧ (1 : R) ≤ ((1 : Nat) : R)
    exact ⟨by decide, by decide⟩
  | k + 1, f, g => by
    have e : fac (k + 1) = (k + 1) * fac k := rfl
    rw [e, Rat.natCast_mul, det_succ]
    refine sum_le fun j _ => ?_
    obtain ⟨a, b⟩ := det_un h k (fun i => f (i + 1)) (fun l => g (skip j l))
    have e2 : mnr (fun i j => S (f i) (g j)) j = fun i l => S (f (i + 1)) (g (skip j l)) := rfl
    rw [e2]
    obtain ⟨x0, x1⟩ := h (f 0) (g j)
    generalize S (f 0) (g j) = x at *
    generalize det k (fun i l => S (f (i + 1)) (g (skip j l))) = y at *
    generalize ((fac k : Nat) : R) = c at *
    have m1 := Rat.mul_le_mul_of_nonneg_left b x0
    have m2 := Rat.mul_le_mul_of_nonneg_left a x0
    have c0 : 0 ≤ c := by grind
    have m3 := Rat.mul_le_mul_of_nonneg_right x1 c0
    have s : sg j = 1 ∨ sg j = -1 := by
      unfold sg
      split
      · exact .inl rfl
      · exact .inr rfl
    rcases s with s | s <;> rw [s] <;> constructor <;> grind
end DT
namespace G
open PySem PySem.Spec PyProof.Rows L2
theorem mb_un {S : DT.Mat} {D : Int} {l : Nat} (hM : DT.Mn S D) (hU : DT.Un S) (d0 : 0 < D) (bd : D.natAbs ≤ 2 ^ l) : Mb S (l + 17) := by
  have p : (2 : Nat) ^ (l + 17) = 2 ^ l * 131072 := by rw [Nat.pow_add]
  have dd := cast_ne (show D ≠ 0 by omega)
  refine ⟨D, by omega, by rw [p]; have := Nat.two_pow_pos l; omega, fun k hk f g => ?_⟩
  obtain ⟨z, hz⟩ := hM k f g
  obtain ⟨a, b⟩ := DT.det_un hU k f g
  refine ⟨z, ?_, by rw [← hz]; grind⟩
  have fk := fac_le hk
  have dp : (0 : _root_.Rat) < (D : _root_.Rat) := Rat.intCast_pos.mpr d0
  have m1 := Rat.mul_le_mul_of_nonneg_right b (Rat.le_of_lt dp)
  have m2 := Rat.mul_le_mul_of_nonneg_right a (Rat.le_of_lt dp)
  rw [hz] at m1 m2
  have c1 : ((DT.fac k : Nat) : _root_.Rat) * (D : _root_.Rat) = (((DT.fac k : Int) * D : Int) : _root_.Rat) := by rw [Rat.intCast_mul]; rfl
  have c2 : -((DT.fac k : Nat) : _root_.Rat) * (D : _root_.Rat) = ((-((DT.fac k : Int) * D) : Int) : _root_.Rat) := by
    rw [Rat.intCast_neg, ← c1]
    grind
  rw [c1] at m1
  rw [c2] at m2
  have m1 := Rat.intCast_le_intCast.mp m1
  have m2 := Rat.intCast_le_intCast.mp m2
  have q : ((DT.fac k : Int) * D).natAbs ≤ 2 ^ 16 * 2 ^ l := by
    rw [Int.natAbs_mul]
    exact Nat.mul_le_mul (by rw [Int.natAbs_natCast]; exact fk) bd
  have : (2 : Nat) ^ 16 = 65536 := rfl
  rw [p]
  have := Nat.two_pow_pos l
  generalize (DT.fac k : Int) * D = m at *
  omega
theorem val_lt {n m : Nat} {x y : Pr} (hx : Lp n x) (hy : Lp m y) : val x < val y ↔ x.1 * y.2 < y.1 * x.2 := by
  have hx2 : (0 : _root_.Rat) < (x.2 : _root_.Rat) := Rat.intCast_pos.mpr hx.1
  have hy2 : (0 : _root_.Rat) < (y.2 : _root_.Rat) := Rat.intCast_pos.mpr hy.1
  unfold val
  rw [Rat.div_lt_iff hx2]
  have e : (y.1 : _root_.Rat) / (y.2 : _root_.Rat) * (x.2 : _root_.Rat) = ((y.1 * x.2 : Int) : _root_.Rat) / (y.2 : _root_.Rat) := by
    rw [Rat.intCast_mul]
    grind
  rw [e, Rat.lt_div_iff hy2, ← Rat.intCast_mul, Rat.intCast_lt_intCast]
end G

/-! Shares behind transfers, and the factor. -/
namespace G
open PySem PySem.Spec PyProof.Rows L2
abbrev QQ := _root_.Rat
def shM (ns : List Int) (ts : List Tr) : DT.Mat := fun i j => ((stt ns ts).1 i j : QQ) / (((stt ns ts).2.1 * (stt ns ts).2.2.getD i 0 : Int) : QQ)
def shr (ns : List Int) (ts : List Tr) : List (List Pr) := (List.range ns.length).map fun i => (List.range ns.length).map fun j => low ((stt ns ts).1 i j) ((stt ns ts).2.1 * (stt ns ts).2.2.getD i 0)
def fc1 (s : QQ × List Int) (x : Tr) : QQ × List Int := (s.1 * ((s.2.getD x.2.1.toNat 0 : QQ) / ((s.2.getD x.2.1.toNat 0 + x.2.2 : Int) : QQ)), vol1 s.2 x)
def fac (ns : List Int) (ts : List Tr) : QQ := (ts.foldl fc1 (1, ns)).1
theorem fc_vol (ts : List Tr) : ∀ (c : QQ) (ns : List Int), (ts.foldl fc1 (c, ns)).2 = ts.foldl vol1 ns := by
  induction ts with
  | nil => intro c ns; rfl
  | cons x ts ih => intro c ns; exact ih _ _
theorem fc_mul (ts : List Tr) : ∀ (c : QQ) (ns : List Int), (ts.foldl fc1 (c, ns)).1 = c * fac ns ts := by
  unfold fac
  induction ts with
  | nil => intro c ns; exact (Rat.mul_one c).symm
  | cons x ts ih =>
    intro c ns
    show (ts.foldl fc1 (fc1 (c, ns) x)).1 = c * (ts.foldl fc1 (fc1 (1, ns) x)).1
    have a := ih (c * ((ns.getD x.2.1.toNat 0 : QQ) / ((ns.getD x.2.1.toNat 0 + x.2.2 : Int) : QQ))) (vol1 ns x)
    have b := ih (1 * ((ns.getD x.2.1.toNat 0 : QQ) / ((ns.getD x.2.1.toNat 0 + x.2.2 : Int) : QQ))) (vol1 ns x)
    have e1 : fc1 (c, ns) x = (c * ((ns.getD x.2.1.toNat 0 : QQ) / ((ns.getD x.2.1.toNat 0 + x.2.2 : Int) : QQ)), vol1 ns x) := rfl
    have e2 : fc1 (1, ns) x = (1 * ((ns.getD x.2.1.toNat 0 : QQ) / ((ns.getD x.2.1.toNat 0 + x.2.2 : Int) : QQ)), vol1 ns x) := rfl
    rw [e1, e2, a, b]
    grind
theorem fac_app (ns : List Int) (ts us : List Tr) : fac ns (ts ++ us) = fac ns ts * fac (ts.foldl vol1 ns) us := by
  have h : (us.foldl fc1 (ts.foldl fc1 (1, ns))).1 = (ts.foldl fc1 (1, ns)).1 * fac (ts.foldl fc1 (1, ns)).2 us := fc_mul us _ _
  rw [fc_vol] at h
  unfold fac
  rw [List.foldl_append]
  exact h
theorem fac_take {ns : List Int} {ts : List Tr} {k : Nat} {x : Tr} (h : ts[k]? = some x) : fac ns (ts.take (k + 1)) = fac ns (ts.take k) * ((((ts.take k).foldl vol1 ns).getD x.2.1.toNat 0 : QQ) / ((((ts.take k).foldl vol1 ns).getD x.2.1.toNat 0 + x.2.2 : Int) : QQ)) := by
  rw [take_snoc h, fac_app]
  congr 1
  show 1 * _ = _
  exact Rat.one_mul _
theorem stt_out {ns : List Int} {ts : List Tr} (hp : psb ns ts = true) : ∀ k, k ≤ ts.length → ∀ i j, ns.length ≤ i ∨ ns.length ≤ j → (stt ns (ts.take k)).1 i j = 0
  | 0, _, i, j, h => by
    show (if j = i then ns.getD i 0 else 0) = 0
    by_cases c : j = i
    · rw [if_pos c, List.getD_eq_getElem?_getD, List.getElem?_eq_none (by omega)]
      rfl
    · rw [if_neg c]
  | k + 1, hk, i, j, h => by
    obtain ⟨x, hx⟩ : ∃ x, ts[k]? = some x := ⟨_, List.getElem?_eq_getElem (by omega)⟩
    obtain ⟨g, t, eg, et, gl, tl, ne, d0, d1⟩ := psb1_of (psb_snoc hp hx)
    have ih := stt_out hp k (by omega)
    rw [vol_len] at gl tl
    rw [stt_take hx]
    show mx1 _ _ _ x.1.toNat x.2.1.toNat i j = 0
    rw [eg, et, Int.toNat_natCast, Int.toNat_natCast]
    unfold mx1
    rcases h with h | h
    · rw [if_neg (by omega), if_neg (by omega), ih i j (.inl h), Int.mul_zero, Int.zero_mul, Int.zero_add]
    · rw [ih i j (.inr h), ih g j (.inr h), Int.mul_zero, Int.mul_zero, Int.mul_zero]
      split <;> rfl
theorem shM_step {ns : List Int} {ts : List Tr} {k g t : Nat} {x : Tr} (hn : ∀ x ∈ ns, 1 ≤ x ∧ x ≤ 1000000) (hp : psb ns ts = true) (hg : ∀ x ∈ ts, x.2.2 ≤ 1000000) (hl : ts.length ≤ 24) (hx : ts[k]? = some x) (eg : x.1 = (g : Int)) (et : x.2.1 = (t : Int)) (gl : g < ns.length) (tl : t < ns.length) (ne : g ≠ t) (d0 : 0 < x.2.2) (d1 : x.2.2 < ((ts.take k).foldl vol1 ns).getD g 0) :
    shM ns (ts.take (k + 1)) = DT.shs (shM ns (ts.take k)) ((((ts.take k).foldl vol1 ns).getD t 0 : QQ) / ((((ts.take k).foldl vol1 ns).getD t 0 + x.2.2 : Int) : QQ)) ((x.2.2 : QQ) / ((((ts.take k).foldl vol1 ns).getD t 0 + x.2.2 : Int) : QQ)) g t := by
  have kl := (List.getElem?_eq_some_iff.mp hx).1
  have S := sinv_at hn hp hg hl k (by omega)
  have ev := stt_vol ns (ts.take k)
  have vl := vol_len ns (ts.take k)
  have pos := S.pos
  have vb := S.vol
  rw [ev] at vb
  unfold shM
  rw [stt_take hx]
  generalize stt ns (ts.take k) = s at *
  obtain ⟨M, D, v⟩ := s
  dsimp only at ev pos
  subst ev
  have tv := (vb _ (getD_mem' (ns := (ts.take k).foldl vol1 ns) (k := t) (by omega))).1
  have gv := (vb _ (getD_mem' (ns := (ts.take k).foldl vol1 ns) (k := g) (by omega))).1
  generalize (ts.take k).foldl vol1 ns = v at *
  have D0 := cast_ne (show D ≠ 0 by omega)
  have g0 := cast_ne (show v.getD g 0 ≠ 0 by omega)
  have g1 := cast_ne (show v.getD g 0 - x.2.2 ≠ 0 by omega)
  have t0 := cast_ne (show v.getD t 0 ≠ 0 by omega)
  have t1 := cast_ne (show v.getD t 0 + x.2.2 ≠ 0 by omega)
  funext i j
  show ((mx1 M (v.getD x.1.toNat 0) x.2.2 x.1.toNat x.2.1.toNat i j : Int) : QQ) / (((D * v.getD x.1.toNat 0) * (vol1 v x).getD i 0 : Int) : QQ) = _
  have e2 : (vol1 v x).getD i 0 = if i = t then v.getD t 0 + x.2.2 else if i = g then v.getD g 0 - x.2.2 else v.getD i 0 := by
    unfold vol1
    rw [eg, et, Int.toNat_natCast, Int.toNat_natCast, List.getD_eq_getElem?_getD (l := (v.set g (v.getD g 0 - x.2.2)).set t (v.getD t 0 + x.2.2))]
    by_cases c : i = t
    · rw [if_pos c, c, List.getElem?_set_self (by rw [List.length_set]; omega)]
      rfl
    · rw [if_neg c, List.getElem?_set_ne (Ne.symm c)]
      by_cases c2 : i = g
      · rw [if_pos c2, c2, List.getElem?_set_self (by omega)]
        rfl
      · rw [if_neg c2, List.getElem?_set_ne (Ne.symm c2), ← List.getD_eq_getElem?_getD]
  rw [e2, eg, et, Int.toNat_natCast, Int.toNat_natCast]
  unfold mx1 DT.shs
  dsimp only
  have r1 : ∀ a b : Int, ((a * b : Int) : QQ) = (a : QQ) * (b : QQ) := fun a b => Rat.intCast_mul ..
  by_cases c : i = t
  · subst c
    rw [if_neg (Ne.symm ne), if_pos rfl, if_pos rfl, if_pos rfl]
    have r2 : ((v.getD g 0 * M i j + x.2.2 * M g j : Int) : QQ) = (v.getD g 0 : QQ) * (M i j : QQ) + (x.2.2 : QQ) * (M g j : QQ) := by rw [Rat.intCast_add, r1, r1]
    rw [r2]
    simp only [r1]
    generalize ((v.getD i 0 + x.2.2 : Int) : QQ) = c at *
    grind
  · simp only [if_neg c]
    by_cases c2 : i = g
    · subst c2
      rw [if_pos rfl, if_pos rfl]
      simp only [r1]
      generalize ((v.getD i 0 - x.2.2 : Int) : QQ) = c at *
      grind
    · rw [if_neg c2, if_neg c2, Int.zero_mul, Int.add_zero]
      simp only [r1]
      grind
theorem shM_zero {ns : List Int} (hn : ∀ x ∈ ns, 1 ≤ x ∧ x ≤ 1000000) : shM ns [] = DT.ones ns.length := by
  funext i j
  show (((if j = i then ns.getD i 0 else 0 : Int)) : QQ) / (((1 : Int) * ns.getD i 0 : Int) : QQ) = _
  unfold DT.ones
  have z : ((0 : Int) : QQ) = 0 := rfl
  by_cases hi : i < ns.length
  · have := (hn _ (getD_mem' hi)).1
    have g0 := cast_ne (show ns.getD i 0 ≠ 0 by omega)
    rw [Int.one_mul]
    by_cases c : i = j
    · rw [if_pos c.symm, if_pos ⟨c, hi⟩]
      grind
    · rw [if_neg (Ne.symm c), if_neg (fun h : i = j ∧ i < ns.length => c h.1), z]
      grind
  · have : ns.getD i 0 = 0 := by rw [List.getD_eq_getElem?_getD, List.getElem?_eq_none (by omega)]; rfl
    rw [this, if_neg (fun h : i = j ∧ i < ns.length => hi h.2)]
    split <;> (rw [z]; grind)
/-- what is known of the shares behind k transfers -/
theorem shM_ok {ns : List Int} {ts : List Tr} (hn : ∀ x ∈ ns, 1 ≤ x ∧ x ≤ 1000000) (hp : psb ns ts = true) (hg : ∀ x ∈ ts, x.2.2 ≤ 1000000) (hl : ts.length ≤ 24) : ∀ k, k ≤ ts.length →
    (∃ D : Int, 0 < D ∧ D.natAbs ≤ 2 ^ (25 * k) ∧ DT.Mn (shM ns (ts.take k)) D) ∧ DT.Un (shM ns (ts.take k)) ∧ DT.det ns.length (shM ns (ts.take k)) = fac ns (ts.take k) ∧ 0 < fac ns (ts.take k)
  | 0, _ => by
    rw [List.take_zero, shM_zero hn]
    exact ⟨⟨1, by decide, by decide, DT.mn_ones _⟩, DT.un_ones _, DT.det_ones _, by show (0 : QQ) < 1; decide⟩
  | k + 1, hk => by
    obtain ⟨x, hx⟩ : ∃ x, ts[k]? = some x := ⟨_, List.getElem?_eq_getElem (by omega)⟩
    obtain ⟨g, t, eg, et, gl, tl, ne, d0, d1⟩ := psb1_of (psb_snoc hp hx)
    obtain ⟨⟨D, D0, bD, mn⟩, un, de, pf⟩ := shM_ok hn hp hg hl k (by omega)
    have S := sinv_at hn hp hg hl k (by omega)
    have vb := S.vol
    rw [stt_vol] at vb
    have tv := vb _ (getD_mem' (ns := (ts.take k).foldl vol1 ns) (k := t) tl)
    have hd := hg x (List.mem_of_getElem? hx)
    rw [vol_len] at gl tl
    rw [shM_step hn hp hg hl hx eg et gl tl ne d0 d1, fac_take hx, et, Int.toNat_natCast]
    generalize ((ts.take k).foldl vol1 ns).getD t 0 = b at *
    have s0 : b + x.2.2 ≠ 0 := by omega
    have bp : (0 : QQ) < (b : QQ) := Rat.intCast_pos.mpr (by omega)
    have ap : (0 : QQ) < (x.2.2 : QQ) := Rat.intCast_pos.mpr d0
    have sp : (0 : QQ) < ((b + x.2.2 : Int) : QQ) := Rat.intCast_pos.mpr (by omega)
    have ip := Rat.inv_pos.mpr sp
    have w0 : 0 < (b : QQ) / ((b + x.2.2 : Int) : QQ) := by rw [Rat.div_def]; exact Rat.mul_pos bp ip
    have u0 : 0 < (x.2.2 : QQ) / ((b + x.2.2 : Int) : QQ) := by rw [Rat.div_def]; exact Rat.mul_pos ap ip
    have ws : (b : QQ) / ((b + x.2.2 : Int) : QQ) + (x.2.2 : QQ) / ((b + x.2.2 : Int) : QQ) = 1 := by
      have e : ((b + x.2.2 : Int) : QQ) = (b : QQ) + (x.2.2 : QQ) := Rat.intCast_add ..
      have z := cast_ne s0
      rw [e] at z ⊢
      grind
    refine ⟨⟨D * (b + x.2.2), Int.mul_pos D0 (by omega), ?_, mn.step s0⟩, un.step (Rat.le_of_lt w0) (Rat.le_of_lt u0) ws, ?_, ?_⟩
    · rw [Int.natAbs_mul, show 25 * (k + 1) = 25 * k + 25 from by omega, Nat.pow_add]
      refine Nat.mul_le_mul bD ?_
      have : (2 : Nat) ^ 25 = 33554432 := rfl
      have h1 : b ≤ 1000000 * (k + 1) := tv.2
      omega
    · rw [DT.det_shs gl tl ne, de]
      grind
    · exact Rat.mul_pos pf w0
theorem matE_shr {ns : List Int} {ts : List Tr} (hn : ∀ x ∈ ns, 1 ≤ x ∧ x ≤ 1000000) (hp : psb ns ts = true) (hg : ∀ x ∈ ts, x.2.2 ≤ 1000000) (hl : ts.length ≤ 24) : matE (shr ns ts) = shM ns ts := by
  have S := sinv_at hn hp hg hl ts.length (Nat.le_refl _)
  have O := stt_out hp ts.length (Nat.le_refl _)
  rw [List.take_length] at S O
  have vb := S.vol
  have vl := S.len
  have pos := S.pos
  funext i j
  unfold matE shr shM
  have z : ((0 : Int) : QQ) = 0 := rfl
  by_cases hi : i < ns.length
  · have e1 : ((List.range ns.length).map fun i => (List.range ns.length).map fun j => low ((stt ns ts).1 i j) ((stt ns ts).2.1 * (stt ns ts).2.2.getD i 0)).getD i [] = (List.range ns.length).map fun j => low ((stt ns ts).1 i j) ((stt ns ts).2.1 * (stt ns ts).2.2.getD i 0) := by
      rw [List.getD_eq_getElem?_getD, List.getElem?_map, List.getElem?_range hi]; rfl
    rw [e1]
    by_cases hj : j < ns.length
    · have e2 : ((List.range ns.length).map fun j => low ((stt ns ts).1 i j) ((stt ns ts).2.1 * (stt ns ts).2.2.getD i 0)).getD j (0, 1) = low ((stt ns ts).1 i j) ((stt ns ts).2.1 * (stt ns ts).2.2.getD i 0) := by
        rw [List.getD_eq_getElem?_getD, List.getElem?_map, List.getElem?_range hj]; rfl
      rw [e2]
      refine val_low (Int.mul_pos pos ?_)
      have := (vb _ (getD_mem' (ns := (stt ns ts).2.2) (k := i) (by omega))).1
      omega
    · have e2 : ((List.range ns.length).map fun j => low ((stt ns ts).1 i j) ((stt ns ts).2.1 * (stt ns ts).2.2.getD i 0)).getD j (0, 1) = (0, 1) := by
        rw [List.getD_eq_getElem?_getD, List.getElem?_eq_none (by rw [List.length_map, List.length_range]; omega)]; rfl
      rw [e2, val0, O i j (.inr (by omega)), z]
      grind
  · have e1 : ((List.range ns.length).map fun i => (List.range ns.length).map fun j => low ((stt ns ts).1 i j) ((stt ns ts).2.1 * (stt ns ts).2.2.getD i 0)).getD i [] = [] := by
      rw [List.getD_eq_getElem?_getD, List.getElem?_eq_none (by rw [List.length_map, List.length_range]; omega)]; rfl
    rw [e1, O i j (.inl (by omega)), z]
    show val (0, 1) = _
    rw [val0]
    grind
theorem shr_rws {ns : List Int} {ts : List Tr} (hn : ∀ x ∈ ns, 1 ≤ x ∧ x ≤ 1000000) (hp : psb ns ts = true) (hg : ∀ x ∈ ts, x.2.2 ≤ 1000000) (hl : ts.length ≤ 24) : Rws (shr ns ts) ns.length 700 := fun r hr => by
  have S := sinv_at hn hp hg hl ts.length (Nat.le_refl _)
  rw [List.take_length] at S
  have vb := S.vol
  have vl := S.len
  have pos := S.pos
  unfold shr at hr
  obtain ⟨i, hi, rfl⟩ := List.mem_map.mp hr
  have hi := List.mem_range.mp hi
  refine ⟨by rw [List.length_map, List.length_range], fun x hx => ?_⟩
  obtain ⟨j, hj, rfl⟩ := List.mem_map.mp hx
  have v1 := vb _ (getD_mem' (ns := (stt ns ts).2.2) (k := i) (by omega))
  have bv : Bt 25 ((stt ns ts).2.2.getD i 0) := by
    unfold Bt
    have : (2 : Nat) ^ 25 = 33554432 := rfl
    omega
  refine Lp.low (Int.mul_pos pos (by omega)) ((S.mbt i j).mono (by omega)) ((Bt.mul S.dbt bv).mono (by omega))
theorem mb_shr {ns : List Int} {ts : List Tr} (hn : ∀ x ∈ ns, 1 ≤ x ∧ x ≤ 1000000) (hp : psb ns ts = true) (hg : ∀ x ∈ ts, x.2.2 ≤ 1000000) (hl : ts.length ≤ 24) : Mb (matE (shr ns ts)) 620 := by
  rw [matE_shr hn hp hg hl]
  obtain ⟨⟨D, D0, bD, mn⟩, un, _, _⟩ := shM_ok hn hp hg hl ts.length (Nat.le_refl _)
  rw [List.take_length] at mn un
  exact (mb_un mn un D0 bD).mono (by omega)
theorem shr_len {ns : List Int} {ts : List Tr} : (shr ns ts).length = ns.length := by
  unfold shr
  rw [List.length_map, List.length_range]
def spDetM (C : Addr) : Sp := fun vs H Q _ => ∃ (a : Addr) (rows : List (List Pr)) (n l m : Nat), vs = [.ref a] ∧ TabR C H a rows ∧ rows.length = n ∧ 1 ≤ n ∧ n ≤ 8 ∧ Rws rows n m ∧ Mb (matE rows) l ∧ 0 < l ∧ l ≤ 2660 ∧
  ∀ r x H', H r = none → Same H H' → Rat C H' r x.1 x.2 → Lp 2660 x → val x = DT.det n (matE rows) → Q (.ref r) H'
def spSharesV (C : Addr) : Sp := fun vs H Q _ => ∃ a l ns xs ts, vs = [.ref a, .ref l] ∧ Cs H a l ns xs ts ∧ ∀ b H', H b = none → Same H H' → TabR C H' b (shr ns ts) → Q (.ref b) H'
def spFact (C : Addr) : Sp := fun vs H Q _ => ∃ a l ns xs ts, vs = [.ref a, .ref l] ∧ Cs H a l ns xs ts ∧ ∀ r x H', H r = none → Same H H' → Rat C H' r x.1 x.2 → Lp 700 x → val x = fac ns ts → Q (.ref r) H'
def spAfterV : Sp := fun vs H Q _ => ∃ a l ns xs ts, vs = [.ref a, .ref l] ∧ Cs H a l ns xs ts ∧ ∀ w H', Same H H' → H' w = some (.lst ((ts.foldl vol1 ns).map V.int)) → Q (.ref w) H'
def spNowV : Sp := fun vs H Q _ => ∃ a l ns xs ts, vs = [.ref a, .ref l] ∧ H a = some (.lst (ns.map V.int)) ∧ H l = some (.lst xs) ∧ Ts H xs ts ∧ psb ns ts = true ∧ ∀ w H', H w = none → Same H H' → H' w = some (.lst ((ts.foldl vol1 ns).map V.int)) → Q (.ref w) H'
/-- over two lists side by side, the second one not longer -/
theorem w_walkZS {σ : L2.St} {H : Hp} {K : PySem.W.Frag} {D : Ends} {a b : Addr} {tb : TS} {g : TG} {xs ys : List V} {n : Nat} (lx : n ≤ xs.length) (ly : ys.length = n) (Pv : Nat → L2.St → Hp → Prop) (h0 : Pv 0 σ H)
    (hk : ∀ i σ' H', i ≤ n → Pv i σ' H' → SqL K H' a xs ∧ SqL K H' b ys)
    (hs : ∀ (i : Nat) T x y σ' H' H2, xs[i]? = some x → ys[i]? = some y → Pv i σ' H' → Same H' H2 → H2 T = some (.tup [x, y]) → g (.ref T) σ' H2 fun σ2 H3 => tb { nx := Pv (i + 1), rt := D.rt, ct := Pv (i + 1), bk := D.nx } σ2 H3)
    (hd : ∀ σ' H', Pv n σ' H' → D.nx σ' H') : ForW (Itz K a b) g tb D σ H := by
  refine ⟨fun i m σ' H' => m = n - i ∧ i ≤ n ∧ Pv i σ' H', ⟨n, by omega, Nat.zero_le _, h0⟩, ?_⟩
  rintro i m σ' H' ⟨rfl, hi, p⟩
  obtain ⟨sa, sb⟩ := hk i σ' H' hi p
  by_cases lt : i < n
  · have gt : ∀ (rs : List V), n ≤ rs.length → rs[i]? = some (rs.getD i .non) := fun rs h => by rw [List.getD_eq_getElem?_getD, List.getElem?_eq_getElem (by omega)]; rfl
    refine .inr ⟨⟨xs, ys, _, _, sa, sb, gt xs lx, gt ys (by omega)⟩, Pv (i + 1), fun σ2 H2 p2 => ⟨n - (i + 1), by omega, rfl, by omega, p2⟩, ?_⟩
    rintro x H2 ⟨T, u, v, rfl, nT, rfl, hx, hy⟩
    exact hs i T u v σ' H' _ (hx _ sa) (hy _ sb) p (same_new nT) upd_same
  · obtain rfl : i = n := by omega
    exact .inl ⟨⟨xs, ys, sa, sb, .inr (by omega)⟩, hd σ' H' p⟩
end G
namespace G
open PySem PySem.Spec PyProof.Rows L2
theorem w_lcZipD {β : Type} {K : PySem.W.Frag} {O : Addr → Hp → V → β → Prop} (KO : ∀ D, KeptD D (O D)) {g : TG} {tt : TT} {te : TE} {σ : L2.St} {Q : VK} {H1 : Hp} {vs : List Nat} {a b : Addr} {rs ss : List V} (cond : Nat → Bool) (f : Nat → β) (ha : SqL K H1 a rs) (hb : SqL K H1 b ss) (hl : rs.length = ss.length) (hn : rs.length ≤ 1000)
    (body : ∀ (i : Nat) T x y H2 (Re : VK) (Rn : Hp → Prop), rs[i]? = some x → ss[i]? = some y → H2 T = some (.tup [x, y]) → Same H1 H2 → (cond i = false → ∀ H', Same H2 H' → Rn H') → (∃ D zs, H1 D = none ∧ H2 D = some (.lst zs) ∧ (cond i = true → ∀ u H', Same H2 H' → O D H' u (f i) → Re u H')) →
      g (.ref T) (wipe σ vs) H2 fun σ2 H3 => wipe σ2 vs = wipe σ vs ∧ tt σ2 H3 fun b H4 => if b = true then te σ2 H4 Re else Rn H4)
    (q : ∀ L acc H', H1 L = none → Same H1 H' → H' L = some (.lst acc) → PL (O L H') acc (((List.range rs.length).filter cond).map f) → Q (.ref L) H') : LcW (Itz K a b) g tt te vs σ Q H1 := by
  have gt : ∀ (rs : List V) i, i < rs.length → rs[i]? = some (rs.getD i .non) := fun rs i h => by rw [List.getD_eq_getElem?_getD, List.getElem?_eq_getElem h]; rfl
  refine w_lcGenD KO rs.length (fun i v H2 => ∃ T x y, v = .ref T ∧ rs[i]? = some x ∧ ss[i]? = some y ∧ H2 T = some (.tup [x, y])) cond f hn (fun i H' h e => ⟨rs, ss, _, _, e.seq ha, e.seq hb, gt rs i h, gt ss i (by omega)⟩) (fun H' e => ⟨rs, ss, e.seq ha, e.seq hb, .inl (Nat.le_refl _)⟩) (fun i H' v H2 h e hy => ?_) (fun i v H2 Re Rn h e it => ?_) q
  · obtain ⟨T, x, y, rfl, nT, rfl, hx, hy⟩ := hy
    exact ⟨same_new nT, T, x, y, rfl, hx _ (e.seq ha), hy _ (e.seq hb), upd_same⟩
  · obtain ⟨T, x, y, rfl, hx, hy, hT⟩ := it
    exact body i T x y H2 Re Rn hx hy hT e
theorem psb_one {ns : List Int} {x : Tr} (h : psb1 ns x = true) : psb ns [x] = true := psb_app (us := []) rfl h
theorem tr_get {ns : List Int} {ts : List Tr} {k : Nat} (h : k ≤ ts.length) : (tr ns ts)[k]? = some ((ts.take k).foldl vol1 ns) := by
  unfold tr
  rw [List.getElem?_map, List.getElem?_range (by omega)]
  rfl
theorem tr_len {ns : List Int} {ts : List Tr} : (tr ns ts).length = ts.length + 1 := by
  unfold tr
  rw [List.length_map, List.length_range]
/-- one volume more -/
theorem vol1_t {v : List Int} {x : Tr} {g t : Nat} (eg : x.1 = (g : Int)) (et : x.2.1 = (t : Int)) (tl : t < v.length) : (vol1 v x).getD t 0 = v.getD t 0 + x.2.2 := by
  unfold vol1
  rw [eg, et, Int.toNat_natCast, Int.toNat_natCast, List.getD_eq_getElem?_getD, List.getElem?_set_self (by rw [List.length_set]; omega)]
  rfl
end G
namespace G
open PySem PySem.Spec PyProof.Rows L2
theorem fac_lt {ns : List Int} {ts : List Tr} {k : Nat} (hn : ∀ x ∈ ns, 1 ≤ x ∧ x ≤ 1000000) (hp : psb ns ts = true) (hg : ∀ x ∈ ts, x.2.2 ≤ 1000000) (hl : ts.length ≤ 24) (hk : k < ts.length) : fac ns (ts.take (k + 1)) < fac ns (ts.take k) := by
  obtain ⟨x, hx⟩ : ∃ x, ts[k]? = some x := ⟨_, List.getElem?_eq_getElem hk⟩
  obtain ⟨g, t, eg, et, gl, tl, ne, d0, d1⟩ := psb1_of (psb_snoc hp hx)
  obtain ⟨_, _, _, pf⟩ := shM_ok hn hp hg hl k (by omega)
  have S := sinv_at hn hp hg hl k (by omega)
  have vb := S.vol
  rw [stt_vol] at vb
  have tv := vb _ (getD_mem' (ns := (ts.take k).foldl vol1 ns) (k := t) tl)
  rw [fac_take hx, et, Int.toNat_natCast]
  generalize ((ts.take k).foldl vol1 ns).getD t 0 = b at *
  have sp : (0 : QQ) < ((b + x.2.2 : Int) : QQ) := Rat.intCast_pos.mpr (by omega)
  have w1 : (b : QQ) / ((b + x.2.2 : Int) : QQ) < 1 := by
    rw [Rat.div_lt_iff sp, Rat.one_mul]
    exact Rat.intCast_lt_intCast.mpr (by omega)
  have := Rat.mul_lt_mul_of_pos_left w1 pf
  grind
theorem fac_pos {ns : List Int} {ts : List Tr} {k : Nat} (hn : ∀ x ∈ ns, 1 ≤ x ∧ x ≤ 1000000) (hp : psb ns ts = true) (hg : ∀ x ∈ ts, x.2.2 ≤ 1000000) (hl : ts.length ≤ 24) (hk : k ≤ ts.length) : 0 < fac ns (ts.take k) := (shM_ok hn hp hg hl k hk).2.2.2
theorem fac_ex : fac [3, 2] exT = val (4, 9) := by unfold fac val exT; decide +kernel
end G

namespace K38
open PySem L2 G
def top (i : Nat) : Stmt := PySem.Challenge.pw_stirred_k38_factors_from_volumes.main.body.getD i (.Pass ⟨0, 0, 0, 0⟩)
abbrev s_is_whole : Stmt := (top 10)
abbrev N_is_whole : List Str := ["value"]
theorem sc_is_whole : FnScope N_is_whole ["value"] (defScope s_is_whole) := ⟨rfl, rfl, rfl, by decide +kernel, rfl, by decide +kernel, by decide +kernel⟩
abbrev s_is_whole_within : Stmt := (top 11)
abbrev N_is_whole_within : List Str := ["value", "least", "most"]
theorem sc_is_whole_within : FnScope N_is_whole_within ["value", "least", "most"] (defScope s_is_whole_within) := ⟨rfl, rfl, rfl, by decide +kernel, rfl, by decide +kernel, by decide +kernel⟩
abbrev s_is_list_within : Stmt := (top 12)
abbrev N_is_list_within : List Str := ["value", "least", "most"]
theorem sc_is_list_within : FnScope N_is_list_within ["value", "least", "most"] (defScope s_is_list_within) := ⟨rfl, rfl, rfl, by decide +kernel, rfl, by decide +kernel, by decide +kernel⟩
abbrev s_Ratio_init : Stmt := (inClass (top 14) 0)
abbrev N_Ratio_init : List Str := ["self", "top", "bottom", "common"]
theorem sc_Ratio_init : FnScope N_Ratio_init ["self", "top", "bottom"] (defScope s_Ratio_init) := ⟨rfl, rfl, rfl, by decide +kernel, rfl, by decide +kernel, by decide +kernel⟩
abbrev s_Ratio_eq : Stmt := (inClass (top 14) 3)
abbrev N_Ratio_eq : List Str := ["self", "other"]
theorem sc_Ratio_eq : FnScope N_Ratio_eq ["self", "other"] (defScope s_Ratio_eq) := ⟨rfl, rfl, rfl, by decide +kernel, rfl, by decide +kernel, by decide +kernel⟩
abbrev s_Ratio_add : Stmt := (inClass (top 14) 4)
abbrev N_Ratio_add : List Str := ["self", "other", "top"]
theorem sc_Ratio_add : FnScope N_Ratio_add ["self", "other"] (defScope s_Ratio_add) := ⟨rfl, rfl, rfl, by decide +kernel, rfl, by decide +kernel, by decide +kernel⟩
abbrev s_Ratio_sub : Stmt := (inClass (top 14) 5)
abbrev N_Ratio_sub : List Str := ["self", "other", "top"]
theorem sc_Ratio_sub : FnScope N_Ratio_sub ["self", "other"] (defScope s_Ratio_sub) := ⟨rfl, rfl, rfl, by decide +kernel, rfl, by decide +kernel, by decide +kernel⟩
abbrev s_Ratio_mul : Stmt := (inClass (top 14) 6)
abbrev N_Ratio_mul : List Str := ["self", "other"]
theorem sc_Ratio_mul : FnScope N_Ratio_mul ["self", "other"] (defScope s_Ratio_mul) := ⟨rfl, rfl, rfl, by decide +kernel, rfl, by decide +kernel, by decide +kernel⟩
abbrev s_Ratio_neg : Stmt := (inClass (top 14) 7)
abbrev N_Ratio_neg : List Str := ["self"]
theorem sc_Ratio_neg : FnScope N_Ratio_neg ["self"] (defScope s_Ratio_neg) := ⟨rfl, rfl, rfl, by decide +kernel, rfl, by decide +kernel, by decide +kernel⟩
abbrev s_Ratio_is_less : Stmt := (inClass (top 14) 8)
abbrev N_Ratio_is_less : List Str := ["self", "other"]
theorem sc_Ratio_is_less : FnScope N_Ratio_is_less ["self", "other"] (defScope s_Ratio_is_less) := ⟨rfl, rfl, rfl, by decide +kernel, rfl, by decide +kernel, by decide +kernel⟩
abbrev s_Ratio_over : Stmt := (inClass (top 14) 9)
abbrev N_Ratio_over : List Str := ["self", "other", "top", "bottom"]
theorem sc_Ratio_over : FnScope N_Ratio_over ["self", "other"] (defScope s_Ratio_over) := ⟨rfl, rfl, rfl, by decide +kernel, rfl, by decide +kernel, by decide +kernel⟩
abbrev s_is_ratio : Stmt := (top 15)
abbrev N_is_ratio : List Str := ["value"]
theorem sc_is_ratio : FnScope N_is_ratio ["value"] (defScope s_is_ratio) := ⟨rfl, rfl, rfl, by decide +kernel, rfl, by decide +kernel, by decide +kernel⟩
abbrev s_is_rows : Stmt := (top 19)
abbrev N_is_rows : List Str := ["value", "row"]
theorem sc_is_rows : FnScope N_is_rows ["value"] (defScope s_is_rows) := ⟨rfl, rfl, rfl, by decide +kernel, rfl, by decide +kernel, by decide +kernel⟩
abbrev s_copy_of : Stmt := (top 20)
abbrev N_copy_of : List Str := ["rows", "row"]
theorem sc_copy_of : FnScope N_copy_of ["rows"] (defScope s_copy_of) := ⟨rfl, rfl, rfl, by decide +kernel, rfl, by decide +kernel, by decide +kernel⟩
abbrev s_moved : Stmt := (top 21)
abbrev N_moved : List Str := ["rows", "giver", "taker", "part", "moving", "after", "ratio", "move"]
theorem sc_moved : FnScope N_moved ["rows", "giver", "taker", "part"] (defScope s_moved) := ⟨rfl, rfl, rfl, by decide +kernel, rfl, by decide +kernel, by decide +kernel⟩
abbrev s_moved_by_all : Stmt := (top 22)
abbrev N_moved_by_all : List Str := ["rows", "moves", "after", "giver", "taker", "part"]
theorem sc_moved_by_all : FnScope N_moved_by_all ["rows", "moves"] (defScope s_moved_by_all) := ⟨rfl, rfl, rfl, by decide +kernel, rfl, by decide +kernel, by decide +kernel⟩
abbrev s_is_row : Stmt := (top 23)
abbrev N_is_row : List Str := ["value", "ratio"]
theorem sc_is_row : FnScope N_is_row ["value"] (defScope s_is_row) := ⟨rfl, rfl, rfl, by decide +kernel, rfl, by decide +kernel, by decide +kernel⟩
abbrev s_is_volumes : Stmt := (top 28)
abbrev N_is_volumes : List Str := ["value", "volume"]
theorem sc_is_volumes : FnScope N_is_volumes ["value"] (defScope s_is_volumes) := ⟨rfl, rfl, rfl, by decide +kernel, rfl, by decide +kernel, by decide +kernel⟩
abbrev s_is_transfer : Stmt := (top 29)
abbrev N_is_transfer : List Str := ["value", "giver", "taker", "amount", "vessel"]
theorem sc_is_transfer : FnScope N_is_transfer ["value"] (defScope s_is_transfer) := ⟨rfl, rfl, rfl, by decide +kernel, rfl, by decide +kernel, by decide +kernel⟩
abbrev s_is_transfer_between : Stmt := (top 30)
abbrev N_is_transfer_between : List Str := ["value", "many"]
theorem sc_is_transfer_between : FnScope N_is_transfer_between ["value", "many"] (defScope s_is_transfer_between) := ⟨rfl, rfl, rfl, by decide +kernel, rfl, by decide +kernel, by decide +kernel⟩
abbrev s_is_transfers : Stmt := (top 31)
abbrev N_is_transfers : List Str := ["value", "transfer"]
theorem sc_is_transfers : FnScope N_is_transfers ["value"] (defScope s_is_transfers) := ⟨rfl, rfl, rfl, by decide +kernel, rfl, by decide +kernel, by decide +kernel⟩
abbrev s_volumes_after : Stmt := (top 32)
abbrev N_volumes_after : List Str := ["volumes", "transfers"]
theorem sc_volumes_after : FnScope N_volumes_after ["volumes", "transfers"] (defScope s_volumes_after) := ⟨rfl, rfl, rfl, by decide +kernel, rfl, by decide +kernel, by decide +kernel⟩
abbrev s_contents_after : Stmt := (top 33)
abbrev N_contents_after : List Str := ["volumes", "transfers", "moves"]
theorem sc_contents_after : FnScope N_contents_after ["volumes", "transfers"] (defScope s_contents_after) := ⟨rfl, rfl, rfl, by decide +kernel, rfl, by decide +kernel, by decide +kernel⟩
abbrev s_shares_after : Stmt := (top 34)
abbrev N_shares_after : List Str := ["volumes", "transfers", "contents", "now", "row", "volume", "amount"]
theorem sc_shares_after : FnScope N_shares_after ["volumes", "transfers"] (defScope s_shares_after) := ⟨rfl, rfl, rfl, by decide +kernel, rfl, by decide +kernel, by decide +kernel⟩
abbrev s_volumes_by_step : Stmt := (top 35)
abbrev N_volumes_by_step : List Str := ["volumes", "transfers", "steps", "index", "transfer"]
theorem sc_volumes_by_step : FnScope N_volumes_by_step ["volumes", "transfers"] (defScope s_volumes_by_step) := ⟨rfl, rfl, rfl, by decide +kernel, rfl, by decide +kernel, by decide +kernel⟩
abbrev s_volumes_behind : Stmt := (top 36)
abbrev N_volumes_behind : List Str := ["volumes", "transfer", "index", "giver", "taker", "amount", "after"]
theorem sc_volumes_behind : FnScope N_volumes_behind ["volumes", "transfer", "index"] (defScope s_volumes_behind) := ⟨rfl, rfl, rfl, by decide +kernel, rfl, by decide +kernel, by decide +kernel⟩
abbrev s_moves_of : Stmt := (top 37)
abbrev N_moves_of : List Str := ["volumes", "transfers", "steps", "now", "giver", "taker", "amount"]
theorem sc_moves_of : FnScope N_moves_of ["volumes", "transfers"] (defScope s_moves_of) := ⟨rfl, rfl, rfl, by decide +kernel, rfl, by decide +kernel, by decide +kernel⟩
abbrev s_check_volumes : Stmt := (top 38)
abbrev N_check_volumes : List Str := ["volumes"]
theorem sc_check_volumes : FnScope N_check_volumes ["volumes"] (defScope s_check_volumes) := ⟨rfl, rfl, rfl, by decide +kernel, rfl, by decide +kernel, by decide +kernel⟩
abbrev s_check_transfers : Stmt := (top 39)
abbrev N_check_transfers : List Str := ["transfers"]
theorem sc_check_transfers : FnScope N_check_transfers ["transfers"] (defScope s_check_transfers) := ⟨rfl, rfl, rfl, by decide +kernel, rfl, by decide +kernel, by decide +kernel⟩
abbrev s_contents_at_first : Stmt := (top 40)
abbrev N_contents_at_first : List Str := ["volumes", "vessels", "vessel", "substance"]
theorem sc_contents_at_first : FnScope N_contents_at_first ["volumes"] (defScope s_contents_at_first) := ⟨rfl, rfl, rfl, by decide +kernel, rfl, by decide +kernel, by decide +kernel⟩
abbrev s_check_transfers_between : Stmt := (top 41)
abbrev N_check_transfers_between : List Str := ["transfers", "many", "transfer"]
theorem sc_check_transfers_between : FnScope N_check_transfers_between ["transfers", "many"] (defScope s_check_transfers_between) := ⟨rfl, rfl, rfl, by decide +kernel, rfl, by decide +kernel, by decide +kernel⟩
abbrev s_factor_of : Stmt := (top 43)
abbrev N_factor_of : List Str := ["volumes", "transfers", "factor", "now", "_", "taker", "amount"]
theorem sc_factor_of : FnScope N_factor_of ["volumes", "transfers"] (defScope s_factor_of) := ⟨rfl, rfl, rfl, by decide +kernel, rfl, by decide +kernel, by decide +kernel⟩
abbrev s_determinant : Stmt := (top 44)
abbrev N_determinant : List Str := ["rows", "found", "rest", "column", "at"]
theorem sc_determinant : FnScope N_determinant ["rows"] (defScope s_determinant) := ⟨rfl, rfl, rfl, by decide +kernel, rfl, by decide +kernel, by decide +kernel⟩
abbrev s_pivot_in : Stmt := (top 45)
abbrev N_pivot_in : List Str := ["rows", "column", "index", "row"]
theorem sc_pivot_in : FnScope N_pivot_in ["rows", "column"] (defScope s_pivot_in) := ⟨rfl, rfl, rfl, by decide +kernel, rfl, by decide +kernel, by decide +kernel⟩
abbrev s_without_pivot : Stmt := (top 46)
abbrev N_without_pivot : List Str := ["rows", "at", "column", "row"]
theorem sc_without_pivot : FnScope N_without_pivot ["rows", "at", "column"] (defScope s_without_pivot) := ⟨rfl, rfl, rfl, by decide +kernel, rfl, by decide +kernel, by decide +kernel⟩
abbrev s_cleared : Stmt := (top 47)
abbrev N_cleared : List Str := ["row", "pivot", "column", "multiple", "ratio", "other"]
theorem sc_cleared : FnScope N_cleared ["row", "pivot", "column"] (defScope s_cleared) := ⟨rfl, rfl, rfl, by decide +kernel, rfl, by decide +kernel, by decide +kernel⟩
abbrev s_check_rows : Stmt := (top 48)
abbrev N_check_rows : List Str := ["rows"]
theorem sc_check_rows : FnScope N_check_rows ["rows"] (defScope s_check_rows) := ⟨rfl, rfl, rfl, by decide +kernel, rfl, by decide +kernel, by decide +kernel⟩
abbrev s_law_open_source : Stmt := (top 50)
abbrev N_law_open_source : List Str := ["script", "k", "cell"]
theorem sc_law_open_source : FnScope N_law_open_source ["script", "k"] (defScope s_law_open_source) := ⟨rfl, rfl, rfl, by decide +kernel, rfl, by decide +kernel, by decide +kernel⟩
abbrev s_law_draw : Stmt := (top 51)
abbrev N_law_draw : List Str := ["source", "limit", "digit", "mixed"]
theorem sc_law_draw : FnScope N_law_draw ["source", "limit"] (defScope s_law_draw) := ⟨rfl, rfl, rfl, by decide +kernel, rfl, by decide +kernel, by decide +kernel⟩
abbrev s_law_case : Stmt := (top 52)
abbrev N_law_case : List Str := ["source", "script", "most", "many", "size", "top", "turns", "sizes", "now", "moves", "turn", "giver", "step", "taker", "rest", "drops"]
theorem sc_law_case : FnScope N_law_case ["source", "script", "most", "many"] (defScope s_law_case) := ⟨rfl, rfl, rfl, by decide +kernel, rfl, by decide +kernel, by decide +kernel⟩
abbrev s_law_now : Stmt := (top 53)
abbrev N_law_now : List Str := ["sizes", "moves", "now", "giver", "taker", "drops"]
theorem sc_law_now : FnScope N_law_now ["sizes", "moves"] (defScope s_law_now) := ⟨rfl, rfl, rfl, by decide +kernel, rfl, by decide +kernel, by decide +kernel⟩
abbrev s_law_factor : Stmt := (top 54)
abbrev N_law_factor : List Str := ["sizes", "moves", "top", "bottom", "now", "giver", "taker", "drops"]
theorem sc_law_factor : FnScope N_law_factor ["sizes", "moves"] (defScope s_law_factor) := ⟨rfl, rfl, rfl, by decide +kernel, rfl, by decide +kernel, by decide +kernel⟩
abbrev s_law : Stmt := (top 55)
abbrev N_law : List Str := ["script", "k", "source", "turn", "sizes", "moves", "kept", "before", "cut", "found", "now", "both"]
theorem sc_law : FnScope N_law ["script"] (defScope s_law) := ⟨rfl, rfl, rfl, by decide +kernel, rfl, by decide +kernel, by decide +kernel⟩
structure Ad where
  a_is_whole : Addr
  d_is_whole : FuncData
  a_is_whole_within : Addr
  d_is_whole_within : FuncData
  a_is_list_within : Addr
  d_is_list_within : FuncData
  a_Ratio_init : Addr
  d_Ratio_init : FuncData
  a_Ratio_eq : Addr
  d_Ratio_eq : FuncData
  a_Ratio_add : Addr
  d_Ratio_add : FuncData
  a_Ratio_sub : Addr
  d_Ratio_sub : FuncData
  a_Ratio_mul : Addr
  d_Ratio_mul : FuncData
  a_Ratio_neg : Addr
  d_Ratio_neg : FuncData
  a_Ratio_is_less : Addr
  d_Ratio_is_less : FuncData
  a_Ratio_over : Addr
  d_Ratio_over : FuncData
  a_is_ratio : Addr
  d_is_ratio : FuncData
  a_is_rows : Addr
  d_is_rows : FuncData
  a_copy_of : Addr
  d_copy_of : FuncData
  a_moved : Addr
  d_moved : FuncData
  a_moved_by_all : Addr
  d_moved_by_all : FuncData
  a_is_row : Addr
  d_is_row : FuncData
  a_is_volumes : Addr
  d_is_volumes : FuncData
  a_is_transfer : Addr
  d_is_transfer : FuncData
  a_is_transfer_between : Addr
  d_is_transfer_between : FuncData
  a_is_transfers : Addr
  d_is_transfers : FuncData
  a_volumes_after : Addr
  d_volumes_after : FuncData
  a_contents_after : Addr
  d_contents_after : FuncData
  a_shares_after : Addr
  d_shares_after : FuncData
  a_volumes_by_step : Addr
  d_volumes_by_step : FuncData
  a_volumes_behind : Addr
  d_volumes_behind : FuncData
  a_moves_of : Addr
  d_moves_of : FuncData
  a_check_volumes : Addr
  d_check_volumes : FuncData
  a_check_transfers : Addr
  d_check_transfers : FuncData
  a_contents_at_first : Addr
  d_contents_at_first : FuncData
  a_check_transfers_between : Addr
  d_check_transfers_between : FuncData
  a_factor_of : Addr
  d_factor_of : FuncData
  a_determinant : Addr
  d_determinant : FuncData
  a_pivot_in : Addr
  d_pivot_in : FuncData
  a_without_pivot : Addr
  d_without_pivot : FuncData
  a_cleared : Addr
  d_cleared : FuncData
  a_check_rows : Addr
  d_check_rows : FuncData
  a_law_open_source : Addr
  d_law_open_source : FuncData
  a_law_draw : Addr
  d_law_draw : FuncData
  a_law_case : Addr
  d_law_case : FuncData
  a_law_now : Addr
  d_law_now : FuncData
  a_law_factor : Addr
  d_law_factor : FuncData
  a_law : Addr
  d_law : FuncData
  c_Ratio : Addr
structure Txt (K : PySem.W.Frag) (mg : Str → Option Value) (A : Ad) : Prop where
  mgc_Ratio : mg "Ratio" = some (.ref A.c_Ratio)
  cl_Ratio : Cls K A.c_Ratio
  cc_Ratio : PySem.W.findIn K (.ref A.c_Ratio) "__class__" = some (some (.builtin "object.__class__"))
  mo_Ratio : PySem.W.mroIn K A.c_Ratio (.type "object") = some true
  sf_Ratio : PySem.W.selfFirst K A.c_Ratio = true
  ne_Ratio : G.NeM K A.c_Ratio
  far_Ratio : G.Far K A.c_Ratio
  na_Ratio_top : NoAttr K A.c_Ratio "_top"
  na_Ratio_bottom : NoAttr K A.c_Ratio "_bottom"
  fun_is_whole : Fun K "is_whole" "is_whole" s_is_whole A.a_is_whole A.d_is_whole
  bd_is_whole : Binds K A.d_is_whole ["value"] []
  mg_is_whole : mg "is_whole" = some (.ref A.a_is_whole)
  fun_is_whole_within : Fun K "is_whole_within" "is_whole_within" s_is_whole_within A.a_is_whole_within A.d_is_whole_within
  bd_is_whole_within : Binds K A.d_is_whole_within ["value", "least", "most"] []
  mg_is_whole_within : mg "is_whole_within" = some (.ref A.a_is_whole_within)
  fun_is_list_within : Fun K "is_list_within" "is_list_within" s_is_list_within A.a_is_list_within A.d_is_list_within
  bd_is_list_within : Binds K A.d_is_list_within ["value", "least", "most"] []
  mg_is_list_within : mg "is_list_within" = some (.ref A.a_is_list_within)
  fun_Ratio_init : FunD K "__init__" "Ratio.__init__" (defArgs s_Ratio_init) (defBody s_Ratio_init) (defScope s_Ratio_init) [.int 1] [] A.a_Ratio_init A.d_Ratio_init
  mk_Ratio : Mk K A.c_Ratio A.a_Ratio_init
  fun_Ratio_eq : Fun K "__eq__" "Ratio.__eq__" s_Ratio_eq A.a_Ratio_eq A.d_Ratio_eq
  bd_Ratio_eq : Binds K A.d_Ratio_eq ["self", "other"] []
  om_Ratio_eq : G.OpM K A.c_Ratio "__eq__" A.a_Ratio_eq
  fun_Ratio_add : Fun K "__add__" "Ratio.__add__" s_Ratio_add A.a_Ratio_add A.d_Ratio_add
  bd_Ratio_add : Binds K A.d_Ratio_add ["self", "other"] []
  om_Ratio_add : G.OpM K A.c_Ratio "__add__" A.a_Ratio_add
  fun_Ratio_sub : Fun K "__sub__" "Ratio.__sub__" s_Ratio_sub A.a_Ratio_sub A.d_Ratio_sub
  bd_Ratio_sub : Binds K A.d_Ratio_sub ["self", "other"] []
  om_Ratio_sub : G.OpM K A.c_Ratio "__sub__" A.a_Ratio_sub
  fun_Ratio_mul : Fun K "__mul__" "Ratio.__mul__" s_Ratio_mul A.a_Ratio_mul A.d_Ratio_mul
  bd_Ratio_mul : Binds K A.d_Ratio_mul ["self", "other"] []
  om_Ratio_mul : G.OpM K A.c_Ratio "__mul__" A.a_Ratio_mul
  fun_Ratio_neg : Fun K "__neg__" "Ratio.__neg__" s_Ratio_neg A.a_Ratio_neg A.d_Ratio_neg
  bd_Ratio_neg : Binds K A.d_Ratio_neg ["self"] []
  om_Ratio_neg : G.OpM K A.c_Ratio "__neg__" A.a_Ratio_neg
  fun_Ratio_is_less : Fun K "is_less" "Ratio.is_less" s_Ratio_is_less A.a_Ratio_is_less A.d_Ratio_is_less
  bd_Ratio_is_less : Binds K A.d_Ratio_is_less ["self", "other"] []
  me_Ratio_is_less : Meth K A.c_Ratio "is_less" A.a_Ratio_is_less
  fun_Ratio_over : Fun K "over" "Ratio.over" s_Ratio_over A.a_Ratio_over A.d_Ratio_over
  bd_Ratio_over : Binds K A.d_Ratio_over ["self", "other"] []
  me_Ratio_over : Meth K A.c_Ratio "over" A.a_Ratio_over
  fun_is_ratio : Fun K "is_ratio" "is_ratio" s_is_ratio A.a_is_ratio A.d_is_ratio
  bd_is_ratio : Binds K A.d_is_ratio ["value"] []
  mg_is_ratio : mg "is_ratio" = some (.ref A.a_is_ratio)
  fun_is_rows : Fun K "is_rows" "is_rows" s_is_rows A.a_is_rows A.d_is_rows
  bd_is_rows : Binds K A.d_is_rows ["value"] []
  mg_is_rows : mg "is_rows" = some (.ref A.a_is_rows)
  fun_copy_of : Fun K "copy_of" "copy_of" s_copy_of A.a_copy_of A.d_copy_of
  bd_copy_of : Binds K A.d_copy_of ["rows"] []
  mg_copy_of : mg "copy_of" = some (.ref A.a_copy_of)
  fun_moved : Fun K "moved" "moved" s_moved A.a_moved A.d_moved
  bd_moved : Binds K A.d_moved ["rows", "giver", "taker", "part"] []
  mg_moved : mg "moved" = some (.ref A.a_moved)
  fun_moved_by_all : Fun K "moved_by_all" "moved_by_all" s_moved_by_all A.a_moved_by_all A.d_moved_by_all
  bd_moved_by_all : Binds K A.d_moved_by_all ["rows", "moves"] []
  mg_moved_by_all : mg "moved_by_all" = some (.ref A.a_moved_by_all)
  fun_is_row : Fun K "_is_row" "_is_row" s_is_row A.a_is_row A.d_is_row
  bd_is_row : Binds K A.d_is_row ["value"] []
  mg_is_row : mg "_is_row" = some (.ref A.a_is_row)
  fun_is_volumes : Fun K "is_volumes" "is_volumes" s_is_volumes A.a_is_volumes A.d_is_volumes
  bd_is_volumes : Binds K A.d_is_volumes ["value"] []
  mg_is_volumes : mg "is_volumes" = some (.ref A.a_is_volumes)
  fun_is_transfer : Fun K "is_transfer" "is_transfer" s_is_transfer A.a_is_transfer A.d_is_transfer
  bd_is_transfer : Binds K A.d_is_transfer ["value"] []
  mg_is_transfer : mg "is_transfer" = some (.ref A.a_is_transfer)
  fun_is_transfer_between : Fun K "is_transfer_between" "is_transfer_between" s_is_transfer_between A.a_is_transfer_between A.d_is_transfer_between
  bd_is_transfer_between : Binds K A.d_is_transfer_between ["value", "many"] []
  mg_is_transfer_between : mg "is_transfer_between" = some (.ref A.a_is_transfer_between)
  fun_is_transfers : Fun K "is_transfers" "is_transfers" s_is_transfers A.a_is_transfers A.d_is_transfers
  bd_is_transfers : Binds K A.d_is_transfers ["value"] []
  mg_is_transfers : mg "is_transfers" = some (.ref A.a_is_transfers)
  fun_volumes_after : Fun K "volumes_after" "volumes_after" s_volumes_after A.a_volumes_after A.d_volumes_after
  bd_volumes_after : Binds K A.d_volumes_after ["volumes", "transfers"] []
  mg_volumes_after : mg "volumes_after" = some (.ref A.a_volumes_after)
  fun_contents_after : Fun K "contents_after" "contents_after" s_contents_after A.a_contents_after A.d_contents_after
  bd_contents_after : Binds K A.d_contents_after ["volumes", "transfers"] []
  mg_contents_after : mg "contents_after" = some (.ref A.a_contents_after)
  fun_shares_after : Fun K "shares_after" "shares_after" s_shares_after A.a_shares_after A.d_shares_after
  bd_shares_after : Binds K A.d_shares_after ["volumes", "transfers"] []
  mg_shares_after : mg "shares_after" = some (.ref A.a_shares_after)
  fun_volumes_by_step : Fun K "volumes_by_step" "volumes_by_step" s_volumes_by_step A.a_volumes_by_step A.d_volumes_by_step
  bd_volumes_by_step : Binds K A.d_volumes_by_step ["volumes", "transfers"] []
  mg_volumes_by_step : mg "volumes_by_step" = some (.ref A.a_volumes_by_step)
  fun_volumes_behind : Fun K "volumes_behind" "volumes_behind" s_volumes_behind A.a_volumes_behind A.d_volumes_behind
  bd_volumes_behind : Binds K A.d_volumes_behind ["volumes", "transfer", "index"] []
  mg_volumes_behind : mg "volumes_behind" = some (.ref A.a_volumes_behind)
  fun_moves_of : Fun K "moves_of" "moves_of" s_moves_of A.a_moves_of A.d_moves_of
  bd_moves_of : Binds K A.d_moves_of ["volumes", "transfers"] []
  mg_moves_of : mg "moves_of" = some (.ref A.a_moves_of)
  fun_check_volumes : Fun K "check_volumes" "check_volumes" s_check_volumes A.a_check_volumes A.d_check_volumes
  bd_check_volumes : Binds K A.d_check_volumes ["volumes"] []
  mg_check_volumes : mg "check_volumes" = some (.ref A.a_check_volumes)
  fun_check_transfers : Fun K "check_transfers" "check_transfers" s_check_transfers A.a_check_transfers A.d_check_transfers
  bd_check_transfers : Binds K A.d_check_transfers ["transfers"] []
  mg_check_transfers : mg "check_transfers" = some (.ref A.a_check_transfers)
  fun_contents_at_first : Fun K "_contents_at_first" "_contents_at_first" s_contents_at_first A.a_contents_at_first A.d_contents_at_first
  bd_contents_at_first : Binds K A.d_contents_at_first ["volumes"] []
  mg_contents_at_first : mg "_contents_at_first" = some (.ref A.a_contents_at_first)
  fun_check_transfers_between : Fun K "_check_transfers_between" "_check_transfers_between" s_check_transfers_between A.a_check_transfers_between A.d_check_transfers_between
  bd_check_transfers_between : Binds K A.d_check_transfers_between ["transfers", "many"] []
  mg_check_transfers_between : mg "_check_transfers_between" = some (.ref A.a_check_transfers_between)
  fun_factor_of : Fun K "factor_of" "factor_of" s_factor_of A.a_factor_of A.d_factor_of
  bd_factor_of : Binds K A.d_factor_of ["volumes", "transfers"] []
  mg_factor_of : mg "factor_of" = some (.ref A.a_factor_of)
  fun_determinant : Fun K "determinant" "determinant" s_determinant A.a_determinant A.d_determinant
  bd_determinant : Binds K A.d_determinant ["rows"] []
  mg_determinant : mg "determinant" = some (.ref A.a_determinant)
  fun_pivot_in : Fun K "_pivot_in" "_pivot_in" s_pivot_in A.a_pivot_in A.d_pivot_in
  bd_pivot_in : Binds K A.d_pivot_in ["rows", "column"] []
  mg_pivot_in : mg "_pivot_in" = some (.ref A.a_pivot_in)
  fun_without_pivot : Fun K "_without_pivot" "_without_pivot" s_without_pivot A.a_without_pivot A.d_without_pivot
  bd_without_pivot : Binds K A.d_without_pivot ["rows", "at", "column"] []
  mg_without_pivot : mg "_without_pivot" = some (.ref A.a_without_pivot)
  fun_cleared : Fun K "_cleared" "_cleared" s_cleared A.a_cleared A.d_cleared
  bd_cleared : Binds K A.d_cleared ["row", "pivot", "column"] []
  mg_cleared : mg "_cleared" = some (.ref A.a_cleared)
  fun_check_rows : Fun K "_check_rows" "_check_rows" s_check_rows A.a_check_rows A.d_check_rows
  bd_check_rows : Binds K A.d_check_rows ["rows"] []
  mg_check_rows : mg "_check_rows" = some (.ref A.a_check_rows)
  fun_law_open_source : Fun K "_law_open_source" "_law_open_source" s_law_open_source A.a_law_open_source A.d_law_open_source
  bd_law_open_source : Binds K A.d_law_open_source ["script", "k"] []
  mg_law_open_source : mg "_law_open_source" = some (.ref A.a_law_open_source)
  fun_law_draw : Fun K "_law_draw" "_law_draw" s_law_draw A.a_law_draw A.d_law_draw
  bd_law_draw : Binds K A.d_law_draw ["source", "limit"] []
  mg_law_draw : mg "_law_draw" = some (.ref A.a_law_draw)
  fun_law_case : Fun K "_law_case" "_law_case" s_law_case A.a_law_case A.d_law_case
  bd_law_case : Binds K A.d_law_case ["source", "script", "most", "many"] []
  mg_law_case : mg "_law_case" = some (.ref A.a_law_case)
  fun_law_now : Fun K "_law_now" "_law_now" s_law_now A.a_law_now A.d_law_now
  bd_law_now : Binds K A.d_law_now ["sizes", "moves"] []
  mg_law_now : mg "_law_now" = some (.ref A.a_law_now)
  fun_law_factor : Fun K "_law_factor" "_law_factor" s_law_factor A.a_law_factor A.d_law_factor
  bd_law_factor : Binds K A.d_law_factor ["sizes", "moves"] []
  mg_law_factor : mg "_law_factor" = some (.ref A.a_law_factor)
  fun_law : Fun K "law" "law" s_law A.a_law A.d_law
  bd_law : Binds K A.d_law ["script"] []
  mg_law : mg "law" = some (.ref A.a_law)
  sg_ : PySem.W.specialIn K (.builtin "object.__class__") "__get__" = some (some (.builtin "getset_descriptor.__get__"))
  st_ : PySem.W.takesIn K (.builtin "object.__class__") = some true
  ki_int_int : PySem.W.kitOne K (.type "int") (.type "int") = some true
  ki_int_bool : PySem.W.kitOne K (.type "int") (.type "bool") = some false
  ki_list_list : PySem.W.kitOne K (.type "list") (.type "list") = some true
  ki_Ratio_Ratio : PySem.W.kitOne K (.ref A.c_Ratio) (.ref A.c_Ratio) = some true
  gi_MOST_VESSELS : ∃ t, mg "MOST_VESSELS" = some (.int 8 t)
  gi_MOST_TRANSFERS : ∃ t, mg "MOST_TRANSFERS" = some (.int 24 t)
  gi_MOST_DROPS : ∃ t, mg "MOST_DROPS" = some (.int 1000000 t)
  gi_MOST_ROWS : ∃ t, mg "MOST_ROWS" = some (.int 8 t)
  gi_MOST_IN_ROW : ∃ t, mg "MOST_IN_ROW" = some (.int 8 t)
  z_isinstance : mg "isinstance" = none
  z_int : mg "int" = none
  z_bool : mg "bool" = none
  z_len : mg "len" = none
  z_range : mg "range" = none
  z_zip : mg "zip" = none
  z_enumerate : mg "enumerate" = none
  z_list : mg "list" = none
  z_tuple : mg "tuple" = none
  z_type : mg "type" = none
  z_all : mg "all" = none
  z_max : mg "max" = none
  z_min : mg "min" = none
  z_repr : mg "repr" = none
  mgi_gcd : mg "gcd" = some (.builtin "math.gcd")
theorem txt_mk {K : PySem.W.Frag} {h : Heap} {mg : Str → Option Value} (X : K.In h) (G : h.Ns mainGlobals mg)
  {tk_MOST_IN_ROW : Tok}
  {tk_MOST_ROWS : Tok}
  {tk_MOST_DROPS : Tok}
  {tk_MOST_TRANSFERS : Tok}
  {tk_MOST_VESSELS : Tok}
  {a_law : Addr} {oc_law kV_law dc_law pm_law cd_law ct_law : Value} {od_law an_law : Option Addr} {sl_law : Array (Option Value)}
  {a_law_factor : Addr} {oc_law_factor kV_law_factor dc_law_factor pm_law_factor cd_law_factor ct_law_factor : Value} {od_law_factor an_law_factor : Option Addr} {sl_law_factor : Array (Option Value)}
  {a_law_now : Addr} {oc_law_now kV_law_now dc_law_now pm_law_now cd_law_now ct_law_now : Value} {od_law_now an_law_now : Option Addr} {sl_law_now : Array (Option Value)}
  {a_law_case : Addr} {oc_law_case kV_law_case dc_law_case pm_law_case cd_law_case ct_law_case : Value} {od_law_case an_law_case : Option Addr} {sl_law_case : Array (Option Value)}
  {a_law_draw : Addr} {oc_law_draw kV_law_draw dc_law_draw pm_law_draw cd_law_draw ct_law_draw : Value} {od_law_draw an_law_draw : Option Addr} {sl_law_draw : Array (Option Value)}
  {a_law_open_source : Addr} {oc_law_open_source kV_law_open_source dc_law_open_source pm_law_open_source cd_law_open_source ct_law_open_source : Value} {od_law_open_source an_law_open_source : Option Addr} {sl_law_open_source : Array (Option Value)}
  {a_check_rows : Addr} {oc_check_rows kV_check_rows dc_check_rows pm_check_rows cd_check_rows ct_check_rows : Value} {od_check_rows an_check_rows : Option Addr} {sl_check_rows : Array (Option Value)}
  {a_cleared : Addr} {oc_cleared kV_cleared dc_cleared pm_cleared cd_cleared ct_cleared : Value} {od_cleared an_cleared : Option Addr} {sl_cleared : Array (Option Value)}
  {a_without_pivot : Addr} {oc_without_pivot kV_without_pivot dc_without_pivot pm_without_pivot cd_without_pivot ct_without_pivot : Value} {od_without_pivot an_without_pivot : Option Addr} {sl_without_pivot : Array (Option Value)}
  {a_pivot_in : Addr} {oc_pivot_in kV_pivot_in dc_pivot_in pm_pivot_in cd_pivot_in ct_pivot_in : Value} {od_pivot_in an_pivot_in : Option Addr} {sl_pivot_in : Array (Option Value)}
  {a_determinant : Addr} {oc_determinant kV_determinant dc_determinant pm_determinant cd_determinant ct_determinant : Value} {od_determinant an_determinant : Option Addr} {sl_determinant : Array (Option Value)}
  {a_factor_of : Addr} {oc_factor_of kV_factor_of dc_factor_of pm_factor_of cd_factor_of ct_factor_of : Value} {od_factor_of an_factor_of : Option Addr} {sl_factor_of : Array (Option Value)}
  {a_check_transfers_between : Addr} {oc_check_transfers_between kV_check_transfers_between dc_check_transfers_between pm_check_transfers_between cd_check_transfers_between ct_check_transfers_between : Value} {od_check_transfers_between an_check_transfers_between : Option Addr} {sl_check_transfers_between : Array (Option Value)}
  {a_contents_at_first : Addr} {oc_contents_at_first kV_contents_at_first dc_contents_at_first pm_contents_at_first cd_contents_at_first ct_contents_at_first : Value} {od_contents_at_first an_contents_at_first : Option Addr} {sl_contents_at_first : Array (Option Value)}
  {a_check_transfers : Addr} {oc_check_transfers kV_check_transfers dc_check_transfers pm_check_transfers cd_check_transfers ct_check_transfers : Value} {od_check_transfers an_check_transfers : Option Addr} {sl_check_transfers : Array (Option Value)}
  {a_check_volumes : Addr} {oc_check_volumes kV_check_volumes dc_check_volumes pm_check_volumes cd_check_volumes ct_check_volumes : Value} {od_check_volumes an_check_volumes : Option Addr} {sl_check_volumes : Array (Option Value)}
  {a_moves_of : Addr} {oc_moves_of kV_moves_of dc_moves_of pm_moves_of cd_moves_of ct_moves_of : Value} {od_moves_of an_moves_of : Option Addr} {sl_moves_of : Array (Option Value)}
  {a_volumes_behind : Addr} {oc_volumes_behind kV_volumes_behind dc_volumes_behind pm_volumes_behind cd_volumes_behind ct_volumes_behind : Value} {od_volumes_behind an_volumes_behind : Option Addr} {sl_volumes_behind : Array (Option Value)}
  {a_volumes_by_step : Addr} {oc_volumes_by_step kV_volumes_by_step dc_volumes_by_step pm_volumes_by_step cd_volumes_by_step ct_volumes_by_step : Value} {od_volumes_by_step an_volumes_by_step : Option Addr} {sl_volumes_by_step : Array (Option Value)}
  {a_shares_after : Addr} {oc_shares_after kV_shares_after dc_shares_after pm_shares_after cd_shares_after ct_shares_after : Value} {od_shares_after an_shares_after : Option Addr} {sl_shares_after : Array (Option Value)}
  {a_contents_after : Addr} {oc_contents_after kV_contents_after dc_contents_after pm_contents_after cd_contents_after ct_contents_after : Value} {od_contents_after an_contents_after : Option Addr} {sl_contents_after : Array (Option Value)}
  {a_volumes_after : Addr} {oc_volumes_after kV_volumes_after dc_volumes_after pm_volumes_after cd_volumes_after ct_volumes_after : Value} {od_volumes_after an_volumes_after : Option Addr} {sl_volumes_after : Array (Option Value)}
  {a_is_transfers : Addr} {oc_is_transfers kV_is_transfers dc_is_transfers pm_is_transfers cd_is_transfers ct_is_transfers : Value} {od_is_transfers an_is_transfers : Option Addr} {sl_is_transfers : Array (Option Value)}
  {a_is_transfer_between : Addr} {oc_is_transfer_between kV_is_transfer_between dc_is_transfer_between pm_is_transfer_between cd_is_transfer_between ct_is_transfer_between : Value} {od_is_transfer_between an_is_transfer_between : Option Addr} {sl_is_transfer_between : Array (Option Value)}
  {a_is_transfer : Addr} {oc_is_transfer kV_is_transfer dc_is_transfer pm_is_transfer cd_is_transfer ct_is_transfer : Value} {od_is_transfer an_is_transfer : Option Addr} {sl_is_transfer : Array (Option Value)}
  {a_is_volumes : Addr} {oc_is_volumes kV_is_volumes dc_is_volumes pm_is_volumes cd_is_volumes ct_is_volumes : Value} {od_is_volumes an_is_volumes : Option Addr} {sl_is_volumes : Array (Option Value)}
  {a_is_row : Addr} {oc_is_row kV_is_row dc_is_row pm_is_row cd_is_row ct_is_row : Value} {od_is_row an_is_row : Option Addr} {sl_is_row : Array (Option Value)}
  {a_moved_by_all : Addr} {oc_moved_by_all kV_moved_by_all dc_moved_by_all pm_moved_by_all cd_moved_by_all ct_moved_by_all : Value} {od_moved_by_all an_moved_by_all : Option Addr} {sl_moved_by_all : Array (Option Value)}
  {a_moved : Addr} {oc_moved kV_moved dc_moved pm_moved cd_moved ct_moved : Value} {od_moved an_moved : Option Addr} {sl_moved : Array (Option Value)}
  {a_copy_of : Addr} {oc_copy_of kV_copy_of dc_copy_of pm_copy_of cd_copy_of ct_copy_of : Value} {od_copy_of an_copy_of : Option Addr} {sl_copy_of : Array (Option Value)}
  {a_is_rows : Addr} {oc_is_rows kV_is_rows dc_is_rows pm_is_rows cd_is_rows ct_is_rows : Value} {od_is_rows an_is_rows : Option Addr} {sl_is_rows : Array (Option Value)}
  {a_is_ratio : Addr} {oc_is_ratio kV_is_ratio dc_is_ratio pm_is_ratio cd_is_ratio ct_is_ratio : Value} {od_is_ratio an_is_ratio : Option Addr} {sl_is_ratio : Array (Option Value)}
  {a_Ratio_over : Addr} {oc_Ratio_over kV_Ratio_over dc_Ratio_over pm_Ratio_over cd_Ratio_over ct_Ratio_over : Value} {od_Ratio_over an_Ratio_over : Option Addr} {sl_Ratio_over : Array (Option Value)}
  {a_Ratio_is_less : Addr} {oc_Ratio_is_less kV_Ratio_is_less dc_Ratio_is_less pm_Ratio_is_less cd_Ratio_is_less ct_Ratio_is_less : Value} {od_Ratio_is_less an_Ratio_is_less : Option Addr} {sl_Ratio_is_less : Array (Option Value)}
  {a_Ratio_neg : Addr} {oc_Ratio_neg kV_Ratio_neg dc_Ratio_neg pm_Ratio_neg cd_Ratio_neg ct_Ratio_neg : Value} {od_Ratio_neg an_Ratio_neg : Option Addr} {sl_Ratio_neg : Array (Option Value)}
  {a_Ratio_mul : Addr} {oc_Ratio_mul kV_Ratio_mul dc_Ratio_mul pm_Ratio_mul cd_Ratio_mul ct_Ratio_mul : Value} {od_Ratio_mul an_Ratio_mul : Option Addr} {sl_Ratio_mul : Array (Option Value)}
  {a_Ratio_sub : Addr} {oc_Ratio_sub kV_Ratio_sub dc_Ratio_sub pm_Ratio_sub cd_Ratio_sub ct_Ratio_sub : Value} {od_Ratio_sub an_Ratio_sub : Option Addr} {sl_Ratio_sub : Array (Option Value)}
  {a_Ratio_add : Addr} {oc_Ratio_add kV_Ratio_add dc_Ratio_add pm_Ratio_add cd_Ratio_add ct_Ratio_add : Value} {od_Ratio_add an_Ratio_add : Option Addr} {sl_Ratio_add : Array (Option Value)}
  {a_Ratio_eq : Addr} {oc_Ratio_eq kV_Ratio_eq dc_Ratio_eq pm_Ratio_eq cd_Ratio_eq ct_Ratio_eq : Value} {od_Ratio_eq an_Ratio_eq : Option Addr} {sl_Ratio_eq : Array (Option Value)}
  {a_Ratio_init : Addr} {oc_Ratio_init kV_Ratio_init dc_Ratio_init pm_Ratio_init cd_Ratio_init ct_Ratio_init : Value} {od_Ratio_init an_Ratio_init : Option Addr} {sl_Ratio_init : Array (Option Value)} {t_Ratio_init : Addr} {tc_Ratio_init : Value} {td_Ratio_init : Option Addr} {tn_Ratio_init : Nat} {ts_Ratio_init : Array (Option Value)} {tk_Ratio_init : Tok}
  {a_is_list_within : Addr} {oc_is_list_within kV_is_list_within dc_is_list_within pm_is_list_within cd_is_list_within ct_is_list_within : Value} {od_is_list_within an_is_list_within : Option Addr} {sl_is_list_within : Array (Option Value)}
  {a_is_whole_within : Addr} {oc_is_whole_within kV_is_whole_within dc_is_whole_within pm_is_whole_within cd_is_whole_within ct_is_whole_within : Value} {od_is_whole_within an_is_whole_within : Option Addr} {sl_is_whole_within : Array (Option Value)}
  {a_is_whole : Addr} {oc_is_whole kV_is_whole dc_is_whole pm_is_whole cd_is_whole ct_is_whole : Value} {od_is_whole an_is_whole : Option Addr} {sl_is_whole : Array (Option Value)}
  {c_Ratio : Addr}
  (m_Ratio : PySem.W.nsIn K mainGlobals "Ratio" = some (some (.ref c_Ratio)))
  (kc_Ratio : PySem.W.keepIn K (.ref c_Ratio) = true)
  (pg_Ratio : PySem.W.plainGet K c_Ratio Str.empty = true)
  (hd_Ratio : PySem.W.hasDictIn K c_Ratio = true)
  (po_Ratio : PySem.W.plainOver K c_Ratio = true)
  (sa_Ratio : PySem.W.findIn K (.ref c_Ratio) "__setattr__" = some (some (.builtin "object.__setattr__")))
  (cc_Ratio : PySem.W.findIn K (.ref c_Ratio) "__class__" = some (some (.builtin "object.__class__")))
  (mo_Ratio : PySem.W.mroIn K c_Ratio (.type "object") = some true)
  (sf_Ratio : PySem.W.selfFirst K c_Ratio = true)
  (ne_Ratio : PySem.W.findIn K (.ref c_Ratio) "__ne__" = some (some (.builtin "object.__ne__")))
  (fai_Ratio : PySem.W.subIn K (.ref c_Ratio) (.type "int") = some false)
  (fab_Ratio : PySem.W.subIn K (.ref c_Ratio) (.type "bool") = some false)
  (fas_Ratio : PySem.W.subIn K (.ref c_Ratio) (.type "str") = some false)
  (fan_Ratio : PySem.W.subIn K (.ref c_Ratio) (.type "NoneType") = some false)
  (fal_Ratio : PySem.W.subIn K (.ref c_Ratio) (.type "list") = some false)
  (fat_Ratio : PySem.W.subIn K (.ref c_Ratio) (.type "tuple") = some false)
  (fad_Ratio : PySem.W.subIn K (.ref c_Ratio) (.type "dict") = some false)
  (na_Ratio_top : PySem.W.findIn K (.ref c_Ratio) "_top" = some none)
  (na_Ratio_bottom : PySem.W.findIn K (.ref c_Ratio) "_bottom" = some none)
  (m_is_whole : PySem.W.nsIn K mainGlobals "is_whole" = some (some (.ref a_is_whole)))
  (l_is_whole : K.lookup a_is_whole = some ⟨oc_is_whole, od_is_whole, .func (PySem.W.fnOf "is_whole" "is_whole" (defArgs s_is_whole) (defBody s_is_whole) (defScope s_is_whole) (.none) kV_is_whole dc_is_whole pm_is_whole an_is_whole cd_is_whole ct_is_whole), sl_is_whole⟩)
  (k_is_whole : PySem.W.codeIn K cd_is_whole "is_whole" = true)
  (e_is_whole : PySem.W.keepIn K (.ref a_is_whole) = true)
  (m_is_whole_within : PySem.W.nsIn K mainGlobals "is_whole_within" = some (some (.ref a_is_whole_within)))
  (l_is_whole_within : K.lookup a_is_whole_within = some ⟨oc_is_whole_within, od_is_whole_within, .func (PySem.W.fnOf "is_whole_within" "is_whole_within" (defArgs s_is_whole_within) (defBody s_is_whole_within) (defScope s_is_whole_within) (.none) kV_is_whole_within dc_is_whole_within pm_is_whole_within an_is_whole_within cd_is_whole_within ct_is_whole_within), sl_is_whole_within⟩)
  (k_is_whole_within : PySem.W.codeIn K cd_is_whole_within "is_whole_within" = true)
  (e_is_whole_within : PySem.W.keepIn K (.ref a_is_whole_within) = true)
  (m_is_list_within : PySem.W.nsIn K mainGlobals "is_list_within" = some (some (.ref a_is_list_within)))
  (l_is_list_within : K.lookup a_is_list_within = some ⟨oc_is_list_within, od_is_list_within, .func (PySem.W.fnOf "is_list_within" "is_list_within" (defArgs s_is_list_within) (defBody s_is_list_within) (defScope s_is_list_within) (.none) kV_is_list_within dc_is_list_within pm_is_list_within an_is_list_within cd_is_list_within ct_is_list_within), sl_is_list_within⟩)
  (k_is_list_within : PySem.W.codeIn K cd_is_list_within "is_list_within" = true)
  (e_is_list_within : PySem.W.keepIn K (.ref a_is_list_within) = true)
  (i_Ratio_init : PySem.W.findIn K (.ref c_Ratio) "__init__" = some (some (.ref a_Ratio_init)))
  (f_Ratio_init : PySem.W.isFn K (.ref a_Ratio_init) = true)
  (l_Ratio_init : K.lookup a_Ratio_init = some ⟨oc_Ratio_init, od_Ratio_init, .func (PySem.W.fnOf "__init__" "Ratio.__init__" (defArgs s_Ratio_init) (defBody s_Ratio_init) (defScope s_Ratio_init) (.ref t_Ratio_init) kV_Ratio_init dc_Ratio_init pm_Ratio_init an_Ratio_init cd_Ratio_init ct_Ratio_init), sl_Ratio_init⟩)
  (k_Ratio_init : PySem.W.codeIn K cd_Ratio_init "Ratio.__init__" = true)
  (e_Ratio_init : PySem.W.keepIn K (.ref a_Ratio_init) = true)
  (t_Ratio_init_ : K.lookup t_Ratio_init = some ⟨tc_Ratio_init, td_Ratio_init, .seq #[Value.int 1 tk_Ratio_init] tn_Ratio_init, ts_Ratio_init⟩)
  (mk_Ratio : PySem.W.makesIn K c_Ratio = true)
  (i_Ratio_eq : PySem.W.findIn K (.ref c_Ratio) "__eq__" = some (some (.ref a_Ratio_eq)))
  (f_Ratio_eq : PySem.W.isFn K (.ref a_Ratio_eq) = true)
  (l_Ratio_eq : K.lookup a_Ratio_eq = some ⟨oc_Ratio_eq, od_Ratio_eq, .func (PySem.W.fnOf "__eq__" "Ratio.__eq__" (defArgs s_Ratio_eq) (defBody s_Ratio_eq) (defScope s_Ratio_eq) (.none) kV_Ratio_eq dc_Ratio_eq pm_Ratio_eq an_Ratio_eq cd_Ratio_eq ct_Ratio_eq), sl_Ratio_eq⟩)
  (k_Ratio_eq : PySem.W.codeIn K cd_Ratio_eq "Ratio.__eq__" = true)
  (e_Ratio_eq : PySem.W.keepIn K (.ref a_Ratio_eq) = true)
  (i_Ratio_add : PySem.W.findIn K (.ref c_Ratio) "__add__" = some (some (.ref a_Ratio_add)))
  (f_Ratio_add : PySem.W.isFn K (.ref a_Ratio_add) = true)
  (l_Ratio_add : K.lookup a_Ratio_add = some ⟨oc_Ratio_add, od_Ratio_add, .func (PySem.W.fnOf "__add__" "Ratio.__add__" (defArgs s_Ratio_add) (defBody s_Ratio_add) (defScope s_Ratio_add) (.none) kV_Ratio_add dc_Ratio_add pm_Ratio_add an_Ratio_add cd_Ratio_add ct_Ratio_add), sl_Ratio_add⟩)
  (k_Ratio_add : PySem.W.codeIn K cd_Ratio_add "Ratio.__add__" = true)
  (e_Ratio_add : PySem.W.keepIn K (.ref a_Ratio_add) = true)
  (i_Ratio_sub : PySem.W.findIn K (.ref c_Ratio) "__sub__" = some (some (.ref a_Ratio_sub)))
  (f_Ratio_sub : PySem.W.isFn K (.ref a_Ratio_sub) = true)
  (l_Ratio_sub : K.lookup a_Ratio_sub = some ⟨oc_Ratio_sub, od_Ratio_sub, .func (PySem.W.fnOf "__sub__" "Ratio.__sub__" (defArgs s_Ratio_sub) (defBody s_Ratio_sub) (defScope s_Ratio_sub) (.none) kV_Ratio_sub dc_Ratio_sub pm_Ratio_sub an_Ratio_sub cd_Ratio_sub ct_Ratio_sub), sl_Ratio_sub⟩)
  (k_Ratio_sub : PySem.W.codeIn K cd_Ratio_sub "Ratio.__sub__" = true)
  (e_Ratio_sub : PySem.W.keepIn K (.ref a_Ratio_sub) = true)
  (i_Ratio_mul : PySem.W.findIn K (.ref c_Ratio) "__mul__" = some (some (.ref a_Ratio_mul)))
  (f_Ratio_mul : PySem.W.isFn K (.ref a_Ratio_mul) = true)
  (l_Ratio_mul : K.lookup a_Ratio_mul = some ⟨oc_Ratio_mul, od_Ratio_mul, .func (PySem.W.fnOf "__mul__" "Ratio.__mul__" (defArgs s_Ratio_mul) (defBody s_Ratio_mul) (defScope s_Ratio_mul) (.none) kV_Ratio_mul dc_Ratio_mul pm_Ratio_mul an_Ratio_mul cd_Ratio_mul ct_Ratio_mul), sl_Ratio_mul⟩)
  (k_Ratio_mul : PySem.W.codeIn K cd_Ratio_mul "Ratio.__mul__" = true)
  (e_Ratio_mul : PySem.W.keepIn K (.ref a_Ratio_mul) = true)
  (i_Ratio_neg : PySem.W.findIn K (.ref c_Ratio) "__neg__" = some (some (.ref a_Ratio_neg)))
  (f_Ratio_neg : PySem.W.isFn K (.ref a_Ratio_neg) = true)
  (l_Ratio_neg : K.lookup a_Ratio_neg = some ⟨oc_Ratio_neg, od_Ratio_neg, .func (PySem.W.fnOf "__neg__" "Ratio.__neg__" (defArgs s_Ratio_neg) (defBody s_Ratio_neg) (defScope s_Ratio_neg) (.none) kV_Ratio_neg dc_Ratio_neg pm_Ratio_neg an_Ratio_neg cd_Ratio_neg ct_Ratio_neg), sl_Ratio_neg⟩)
  (k_Ratio_neg : PySem.W.codeIn K cd_Ratio_neg "Ratio.__neg__" = true)
  (e_Ratio_neg : PySem.W.keepIn K (.ref a_Ratio_neg) = true)
  (i_Ratio_is_less : PySem.W.findIn K (.ref c_Ratio) "is_less" = some (some (.ref a_Ratio_is_less)))
  (f_Ratio_is_less : PySem.W.isFn K (.ref a_Ratio_is_less) = true)
  (l_Ratio_is_less : K.lookup a_Ratio_is_less = some ⟨oc_Ratio_is_less, od_Ratio_is_less, .func (PySem.W.fnOf "is_less" "Ratio.is_less" (defArgs s_Ratio_is_less) (defBody s_Ratio_is_less) (defScope s_Ratio_is_less) (.none) kV_Ratio_is_less dc_Ratio_is_less pm_Ratio_is_less an_Ratio_is_less cd_Ratio_is_less ct_Ratio_is_less), sl_Ratio_is_less⟩)
  (k_Ratio_is_less : PySem.W.codeIn K cd_Ratio_is_less "Ratio.is_less" = true)
  (e_Ratio_is_less : PySem.W.keepIn K (.ref a_Ratio_is_less) = true)
  (i_Ratio_over : PySem.W.findIn K (.ref c_Ratio) "over" = some (some (.ref a_Ratio_over)))
  (f_Ratio_over : PySem.W.isFn K (.ref a_Ratio_over) = true)
  (l_Ratio_over : K.lookup a_Ratio_over = some ⟨oc_Ratio_over, od_Ratio_over, .func (PySem.W.fnOf "over" "Ratio.over" (defArgs s_Ratio_over) (defBody s_Ratio_over) (defScope s_Ratio_over) (.none) kV_Ratio_over dc_Ratio_over pm_Ratio_over an_Ratio_over cd_Ratio_over ct_Ratio_over), sl_Ratio_over⟩)
  (k_Ratio_over : PySem.W.codeIn K cd_Ratio_over "Ratio.over" = true)
  (e_Ratio_over : PySem.W.keepIn K (.ref a_Ratio_over) = true)
  (m_is_ratio : PySem.W.nsIn K mainGlobals "is_ratio" = some (some (.ref a_is_ratio)))
  (l_is_ratio : K.lookup a_is_ratio = some ⟨oc_is_ratio, od_is_ratio, .func (PySem.W.fnOf "is_ratio" "is_ratio" (defArgs s_is_ratio) (defBody s_is_ratio) (defScope s_is_ratio) (.none) kV_is_ratio dc_is_ratio pm_is_ratio an_is_ratio cd_is_ratio ct_is_ratio), sl_is_ratio⟩)
  (k_is_ratio : PySem.W.codeIn K cd_is_ratio "is_ratio" = true)
  (e_is_ratio : PySem.W.keepIn K (.ref a_is_ratio) = true)
  (m_is_rows : PySem.W.nsIn K mainGlobals "is_rows" = some (some (.ref a_is_rows)))
  (l_is_rows : K.lookup a_is_rows = some ⟨oc_is_rows, od_is_rows, .func (PySem.W.fnOf "is_rows" "is_rows" (defArgs s_is_rows) (defBody s_is_rows) (defScope s_is_rows) (.none) kV_is_rows dc_is_rows pm_is_rows an_is_rows cd_is_rows ct_is_rows), sl_is_rows⟩)
  (k_is_rows : PySem.W.codeIn K cd_is_rows "is_rows" = true)
  (e_is_rows : PySem.W.keepIn K (.ref a_is_rows) = true)
  (m_copy_of : PySem.W.nsIn K mainGlobals "copy_of" = some (some (.ref a_copy_of)))
  (l_copy_of : K.lookup a_copy_of = some ⟨oc_copy_of, od_copy_of, .func (PySem.W.fnOf "copy_of" "copy_of" (defArgs s_copy_of) (defBody s_copy_of) (defScope s_copy_of) (.none) kV_copy_of dc_copy_of pm_copy_of an_copy_of cd_copy_of ct_copy_of), sl_copy_of⟩)
  (k_copy_of : PySem.W.codeIn K cd_copy_of "copy_of" = true)
  (e_copy_of : PySem.W.keepIn K (.ref a_copy_of) = true)
  (m_moved : PySem.W.nsIn K mainGlobals "moved" = some (some (.ref a_moved)))
  (l_moved : K.lookup a_moved = some ⟨oc_moved, od_moved, .func (PySem.W.fnOf "moved" "moved" (defArgs s_moved) (defBody s_moved) (defScope s_moved) (.none) kV_moved dc_moved pm_moved an_moved cd_moved ct_moved), sl_moved⟩)
  (k_moved : PySem.W.codeIn K cd_moved "moved" = true)
  (e_moved : PySem.W.keepIn K (.ref a_moved) = true)
  (m_moved_by_all : PySem.W.nsIn K mainGlobals "moved_by_all" = some (some (.ref a_moved_by_all)))
  (l_moved_by_all : K.lookup a_moved_by_all = some ⟨oc_moved_by_all, od_moved_by_all, .func (PySem.W.fnOf "moved_by_all" "moved_by_all" (defArgs s_moved_by_all) (defBody s_moved_by_all) (defScope s_moved_by_all) (.none) kV_moved_by_all dc_moved_by_all pm_moved_by_all an_moved_by_all cd_moved_by_all ct_moved_by_all), sl_moved_by_all⟩)
  (k_moved_by_all : PySem.W.codeIn K cd_moved_by_all "moved_by_all" = true)
  (e_moved_by_all : PySem.W.keepIn K (.ref a_moved_by_all) = true)
  (m_is_row : PySem.W.nsIn K mainGlobals "_is_row" = some (some (.ref a_is_row)))
  (l_is_row : K.lookup a_is_row = some ⟨oc_is_row, od_is_row, .func (PySem.W.fnOf "_is_row" "_is_row" (defArgs s_is_row) (defBody s_is_row) (defScope s_is_row) (.none) kV_is_row dc_is_row pm_is_row an_is_row cd_is_row ct_is_row), sl_is_row⟩)
  (k_is_row : PySem.W.codeIn K cd_is_row "_is_row" = true)
  (e_is_row : PySem.W.keepIn K (.ref a_is_row) = true)
  (m_is_volumes : PySem.W.nsIn K mainGlobals "is_volumes" = some (some (.ref a_is_volumes)))
  (l_is_volumes : K.lookup a_is_volumes = some ⟨oc_is_volumes, od_is_volumes, .func (PySem.W.fnOf "is_volumes" "is_volumes" (defArgs s_is_volumes) (defBody s_is_volumes) (defScope s_is_volumes) (.none) kV_is_volumes dc_is_volumes pm_is_volumes an_is_volumes cd_is_volumes ct_is_volumes), sl_is_volumes⟩)
  (k_is_volumes : PySem.W.codeIn K cd_is_volumes "is_volumes" = true)
  (e_is_volumes : PySem.W.keepIn K (.ref a_is_volumes) = true)
  (m_is_transfer : PySem.W.nsIn K mainGlobals "is_transfer" = some (some (.ref a_is_transfer)))
  (l_is_transfer : K.lookup a_is_transfer = some ⟨oc_is_transfer, od_is_transfer, .func (PySem.W.fnOf "is_transfer" "is_transfer" (defArgs s_is_transfer) (defBody s_is_transfer) (defScope s_is_transfer) (.none) kV_is_transfer dc_is_transfer pm_is_transfer an_is_transfer cd_is_transfer ct_is_transfer), sl_is_transfer⟩)
  (k_is_transfer : PySem.W.codeIn K cd_is_transfer "is_transfer" = true)
  (e_is_transfer : PySem.W.keepIn K (.ref a_is_transfer) = true)
  (m_is_transfer_between : PySem.W.nsIn K mainGlobals "is_transfer_between" = some (some (.ref a_is_transfer_between)))
  (l_is_transfer_between : K.lookup a_is_transfer_between = some ⟨oc_is_transfer_between, od_is_transfer_between, .func (PySem.W.fnOf "is_transfer_between" "is_transfer_between" (defArgs s_is_transfer_between) (defBody s_is_transfer_between) (defScope s_is_transfer_between) (.none) kV_is_transfer_between dc_is_transfer_between pm_is_transfer_between an_is_transfer_between cd_is_transfer_between ct_is_transfer_between), sl_is_transfer_between⟩)
  (k_is_transfer_between : PySem.W.codeIn K cd_is_transfer_between "is_transfer_between" = true)
  (e_is_transfer_between : PySem.W.keepIn K (.ref a_is_transfer_between) = true)
  (m_is_transfers : PySem.W.nsIn K mainGlobals "is_transfers" = some (some (.ref a_is_transfers)))
  (l_is_transfers : K.lookup a_is_transfers = some ⟨oc_is_transfers, od_is_transfers, .func (PySem.W.fnOf "is_transfers" "is_transfers" (defArgs s_is_transfers) (defBody s_is_transfers) (defScope s_is_transfers) (.none) kV_is_transfers dc_is_transfers pm_is_transfers an_is_transfers cd_is_transfers ct_is_transfers), sl_is_transfers⟩)
  (k_is_transfers : PySem.W.codeIn K cd_is_transfers "is_transfers" = true)
  (e_is_transfers : PySem.W.keepIn K (.ref a_is_transfers) = true)
  (m_volumes_after : PySem.W.nsIn K mainGlobals "volumes_after" = some (some (.ref a_volumes_after)))
  (l_volumes_after : K.lookup a_volumes_after = some ⟨oc_volumes_after, od_volumes_after, .func (PySem.W.fnOf "volumes_after" "volumes_after" (defArgs s_volumes_after) (defBody s_volumes_after) (defScope s_volumes_after) (.none) kV_volumes_after dc_volumes_after pm_volumes_after an_volumes_after cd_volumes_after ct_volumes_after), sl_volumes_after⟩)
  (k_volumes_after : PySem.W.codeIn K cd_volumes_after "volumes_after" = true)
  (e_volumes_after : PySem.W.keepIn K (.ref a_volumes_after) = true)
  (m_contents_after : PySem.W.nsIn K mainGlobals "contents_after" = some (some (.ref a_contents_after)))
  (l_contents_after : K.lookup a_contents_after = some ⟨oc_contents_after, od_contents_after, .func (PySem.W.fnOf "contents_after" "contents_after" (defArgs s_contents_after) (defBody s_contents_after) (defScope s_contents_after) (.none) kV_contents_after dc_contents_after pm_contents_after an_contents_after cd_contents_after ct_contents_after), sl_contents_after⟩)
  (k_contents_after : PySem.W.codeIn K cd_contents_after "contents_after" = true)
  (e_contents_after : PySem.W.keepIn K (.ref a_contents_after) = true)
  (m_shares_after : PySem.W.nsIn K mainGlobals "shares_after" = some (some (.ref a_shares_after)))
  (l_shares_after : K.lookup a_shares_after = some ⟨oc_shares_after, od_shares_after, .func (PySem.W.fnOf "shares_after" "shares_after" (defArgs s_shares_after) (defBody s_shares_after) (defScope s_shares_after) (.none) kV_shares_after dc_shares_after pm_shares_after an_shares_after cd_shares_after ct_shares_after), sl_shares_after⟩)
  (k_shares_after : PySem.W.codeIn K cd_shares_after "shares_after" = true)
  (e_shares_after : PySem.W.keepIn K (.ref a_shares_after) = true)
  (m_volumes_by_step : PySem.W.nsIn K mainGlobals "volumes_by_step" = some (some (.ref a_volumes_by_step)))
  (l_volumes_by_step : K.lookup a_volumes_by_step = some ⟨oc_volumes_by_step, od_volumes_by_step, .func (PySem.W.fnOf "volumes_by_step" "volumes_by_step" (defArgs s_volumes_by_step) (defBody s_volumes_by_step) (defScope s_volumes_by_step) (.none) kV_volumes_by_step dc_volumes_by_step pm_volumes_by_step an_volumes_by_step cd_volumes_by_step ct_volumes_by_step), sl_volumes_by_step⟩)
  (k_volumes_by_step : PySem.W.codeIn K cd_volumes_by_step "volumes_by_step" = true)
  (e_volumes_by_step : PySem.W.keepIn K (.ref a_volumes_by_step) = true)
  (m_volumes_behind : PySem.W.nsIn K mainGlobals "volumes_behind" = some (some (.ref a_volumes_behind)))
  (l_volumes_behind : K.lookup a_volumes_behind = some ⟨oc_volumes_behind, od_volumes_behind, .func (PySem.W.fnOf "volumes_behind" "volumes_behind" (defArgs s_volumes_behind) (defBody s_volumes_behind) (defScope s_volumes_behind) (.none) kV_volumes_behind dc_volumes_behind pm_volumes_behind an_volumes_behind cd_volumes_behind ct_volumes_behind), sl_volumes_behind⟩)
  (k_volumes_behind : PySem.W.codeIn K cd_volumes_behind "volumes_behind" = true)
  (e_volumes_behind : PySem.W.keepIn K (.ref a_volumes_behind) = true)
  (m_moves_of : PySem.W.nsIn K mainGlobals "moves_of" = some (some (.ref a_moves_of)))
  (l_moves_of : K.lookup a_moves_of = some ⟨oc_moves_of, od_moves_of, .func (PySem.W.fnOf "moves_of" "moves_of" (defArgs s_moves_of) (defBody s_moves_of) (defScope s_moves_of) (.none) kV_moves_of dc_moves_of pm_moves_of an_moves_of cd_moves_of ct_moves_of), sl_moves_of⟩)
  (k_moves_of : PySem.W.codeIn K cd_moves_of "moves_of" = true)
  (e_moves_of : PySem.W.keepIn K (.ref a_moves_of) = true)
  (m_check_volumes : PySem.W.nsIn K mainGlobals "check_volumes" = some (some (.ref a_check_volumes)))
  (l_check_volumes : K.lookup a_check_volumes = some ⟨oc_check_volumes, od_check_volumes, .func (PySem.W.fnOf "check_volumes" "check_volumes" (defArgs s_check_volumes) (defBody s_check_volumes) (defScope s_check_volumes) (.none) kV_check_volumes dc_check_volumes pm_check_volumes an_check_volumes cd_check_volumes ct_check_volumes), sl_check_volumes⟩)
  (k_check_volumes : PySem.W.codeIn K cd_check_volumes "check_volumes" = true)
  (e_check_volumes : PySem.W.keepIn K (.ref a_check_volumes) = true)
  (m_check_transfers : PySem.W.nsIn K mainGlobals "check_transfers" = some (some (.ref a_check_transfers)))
  (l_check_transfers : K.lookup a_check_transfers = some ⟨oc_check_transfers, od_check_transfers, .func (PySem.W.fnOf "check_transfers" "check_transfers" (defArgs s_check_transfers) (defBody s_check_transfers) (defScope s_check_transfers) (.none) kV_check_transfers dc_check_transfers pm_check_transfers an_check_transfers cd_check_transfers ct_check_transfers), sl_check_transfers⟩)
  (k_check_transfers : PySem.W.codeIn K cd_check_transfers "check_transfers" = true)
  (e_check_transfers : PySem.W.keepIn K (.ref a_check_transfers) = true)
  (m_contents_at_first : PySem.W.nsIn K mainGlobals "_contents_at_first" = some (some (.ref a_contents_at_first)))
  (l_contents_at_first : K.lookup a_contents_at_first = some ⟨oc_contents_at_first, od_contents_at_first, .func (PySem.W.fnOf "_contents_at_first" "_contents_at_first" (defArgs s_contents_at_first) (defBody s_contents_at_first) (defScope s_contents_at_first) (.none) kV_contents_at_first dc_contents_at_first pm_contents_at_first an_contents_at_first cd_contents_at_first ct_contents_at_first), sl_contents_at_first⟩)
  (k_contents_at_first : PySem.W.codeIn K cd_contents_at_first "_contents_at_first" = true)
  (e_contents_at_first : PySem.W.keepIn K (.ref a_contents_at_first) = true)
  (m_check_transfers_between : PySem.W.nsIn K mainGlobals "_check_transfers_between" = some (some (.ref a_check_transfers_between)))
  (l_check_transfers_between : K.lookup a_check_transfers_between = some ⟨oc_check_transfers_between, od_check_transfers_between, .func (PySem.W.fnOf "_check_transfers_between" "_check_transfers_between" (defArgs s_check_transfers_between) (defBody s_check_transfers_between) (defScope s_check_transfers_between) (.none) kV_check_transfers_between dc_check_transfers_between pm_check_transfers_between an_check_transfers_between cd_check_transfers_between ct_check_transfers_between), sl_check_transfers_between⟩)
  (k_check_transfers_between : PySem.W.codeIn K cd_check_transfers_between "_check_transfers_between" = true)
  (e_check_transfers_between : PySem.W.keepIn K (.ref a_check_transfers_between) = true)
  (m_factor_of : PySem.W.nsIn K mainGlobals "factor_of" = some (some (.ref a_factor_of)))
  (l_factor_of : K.lookup a_factor_of = some ⟨oc_factor_of, od_factor_of, .func (PySem.W.fnOf "factor_of" "factor_of" (defArgs s_factor_of) (defBody s_factor_of) (defScope s_factor_of) (.none) kV_factor_of dc_factor_of pm_factor_of an_factor_of cd_factor_of ct_factor_of), sl_factor_of⟩)
  (k_factor_of : PySem.W.codeIn K cd_factor_of "factor_of" = true)
  (e_factor_of : PySem.W.keepIn K (.ref a_factor_of) = true)
  (m_determinant : PySem.W.nsIn K mainGlobals "determinant" = some (some (.ref a_determinant)))
  (l_determinant : K.lookup a_determinant = some ⟨oc_determinant, od_determinant, .func (PySem.W.fnOf "determinant" "determinant" (defArgs s_determinant) (defBody s_determinant) (defScope s_determinant) (.none) kV_determinant dc_determinant pm_determinant an_determinant cd_determinant ct_determinant), sl_determinant⟩)
  (k_determinant : PySem.W.codeIn K cd_determinant "determinant" = true)
  (e_determinant : PySem.W.keepIn K (.ref a_determinant) = true)
  (m_pivot_in : PySem.W.nsIn K mainGlobals "_pivot_in" = some (some (.ref a_pivot_in)))
  (l_pivot_in : K.lookup a_pivot_in = some ⟨oc_pivot_in, od_pivot_in, .func (PySem.W.fnOf "_pivot_in" "_pivot_in" (defArgs s_pivot_in) (defBody s_pivot_in) (defScope s_pivot_in) (.none) kV_pivot_in dc_pivot_in pm_pivot_in an_pivot_in cd_pivot_in ct_pivot_in), sl_pivot_in⟩)
  (k_pivot_in : PySem.W.codeIn K cd_pivot_in "_pivot_in" = true)
  (e_pivot_in : PySem.W.keepIn K (.ref a_pivot_in) = true)
  (m_without_pivot : PySem.W.nsIn K mainGlobals "_without_pivot" = some (some (.ref a_without_pivot)))
  (l_without_pivot : K.lookup a_without_pivot = some ⟨oc_without_pivot, od_without_pivot, .func (PySem.W.fnOf "_without_pivot" "_without_pivot" (defArgs s_without_pivot) (defBody s_without_pivot) (defScope s_without_pivot) (.none) kV_without_pivot dc_without_pivot pm_without_pivot an_without_pivot cd_without_pivot ct_without_pivot), sl_without_pivot⟩)
  (k_without_pivot : PySem.W.codeIn K cd_without_pivot "_without_pivot" = true)
  (e_without_pivot : PySem.W.keepIn K (.ref a_without_pivot) = true)
  (m_cleared : PySem.W.nsIn K mainGlobals "_cleared" = some (some (.ref a_cleared)))
  (l_cleared : K.lookup a_cleared = some ⟨oc_cleared, od_cleared, .func (PySem.W.fnOf "_cleared" "_cleared" (defArgs s_cleared) (defBody s_cleared) (defScope s_cleared) (.none) kV_cleared dc_cleared pm_cleared an_cleared cd_cleared ct_cleared), sl_cleared⟩)
  (k_cleared : PySem.W.codeIn K cd_cleared "_cleared" = true)
  (e_cleared : PySem.W.keepIn K (.ref a_cleared) = true)
  (m_check_rows : PySem.W.nsIn K mainGlobals "_check_rows" = some (some (.ref a_check_rows)))
  (l_check_rows : K.lookup a_check_rows = some ⟨oc_check_rows, od_check_rows, .func (PySem.W.fnOf "_check_rows" "_check_rows" (defArgs s_check_rows) (defBody s_check_rows) (defScope s_check_rows) (.none) kV_check_rows dc_check_rows pm_check_rows an_check_rows cd_check_rows ct_check_rows), sl_check_rows⟩)
  (k_check_rows : PySem.W.codeIn K cd_check_rows "_check_rows" = true)
  (e_check_rows : PySem.W.keepIn K (.ref a_check_rows) = true)
  (m_law_open_source : PySem.W.nsIn K mainGlobals "_law_open_source" = some (some (.ref a_law_open_source)))
  (l_law_open_source : K.lookup a_law_open_source = some ⟨oc_law_open_source, od_law_open_source, .func (PySem.W.fnOf "_law_open_source" "_law_open_source" (defArgs s_law_open_source) (defBody s_law_open_source) (defScope s_law_open_source) (.none) kV_law_open_source dc_law_open_source pm_law_open_source an_law_open_source cd_law_open_source ct_law_open_source), sl_law_open_source⟩)
  (k_law_open_source : PySem.W.codeIn K cd_law_open_source "_law_open_source" = true)
  (e_law_open_source : PySem.W.keepIn K (.ref a_law_open_source) = true)
  (m_law_draw : PySem.W.nsIn K mainGlobals "_law_draw" = some (some (.ref a_law_draw)))
  (l_law_draw : K.lookup a_law_draw = some ⟨oc_law_draw, od_law_draw, .func (PySem.W.fnOf "_law_draw" "_law_draw" (defArgs s_law_draw) (defBody s_law_draw) (defScope s_law_draw) (.none) kV_law_draw dc_law_draw pm_law_draw an_law_draw cd_law_draw ct_law_draw), sl_law_draw⟩)
  (k_law_draw : PySem.W.codeIn K cd_law_draw "_law_draw" = true)
  (e_law_draw : PySem.W.keepIn K (.ref a_law_draw) = true)
  (m_law_case : PySem.W.nsIn K mainGlobals "_law_case" = some (some (.ref a_law_case)))
  (l_law_case : K.lookup a_law_case = some ⟨oc_law_case, od_law_case, .func (PySem.W.fnOf "_law_case" "_law_case" (defArgs s_law_case) (defBody s_law_case) (defScope s_law_case) (.none) kV_law_case dc_law_case pm_law_case an_law_case cd_law_case ct_law_case), sl_law_case⟩)
  (k_law_case : PySem.W.codeIn K cd_law_case "_law_case" = true)
  (e_law_case : PySem.W.keepIn K (.ref a_law_case) = true)
  (m_law_now : PySem.W.nsIn K mainGlobals "_law_now" = some (some (.ref a_law_now)))
  (l_law_now : K.lookup a_law_now = some ⟨oc_law_now, od_law_now, .func (PySem.W.fnOf "_law_now" "_law_now" (defArgs s_law_now) (defBody s_law_now) (defScope s_law_now) (.none) kV_law_now dc_law_now pm_law_now an_law_now cd_law_now ct_law_now), sl_law_now⟩)
  (k_law_now : PySem.W.codeIn K cd_law_now "_law_now" = true)
  (e_law_now : PySem.W.keepIn K (.ref a_law_now) = true)
  (m_law_factor : PySem.W.nsIn K mainGlobals "_law_factor" = some (some (.ref a_law_factor)))
  (l_law_factor : K.lookup a_law_factor = some ⟨oc_law_factor, od_law_factor, .func (PySem.W.fnOf "_law_factor" "_law_factor" (defArgs s_law_factor) (defBody s_law_factor) (defScope s_law_factor) (.none) kV_law_factor dc_law_factor pm_law_factor an_law_factor cd_law_factor ct_law_factor), sl_law_factor⟩)
  (k_law_factor : PySem.W.codeIn K cd_law_factor "_law_factor" = true)
  (e_law_factor : PySem.W.keepIn K (.ref a_law_factor) = true)
  (m_law : PySem.W.nsIn K mainGlobals "law" = some (some (.ref a_law)))
  (l_law : K.lookup a_law = some ⟨oc_law, od_law, .func (PySem.W.fnOf "law" "law" (defArgs s_law) (defBody s_law) (defScope s_law) (.none) kV_law dc_law pm_law an_law cd_law ct_law), sl_law⟩)
  (k_law : PySem.W.codeIn K cd_law "law" = true)
  (e_law : PySem.W.keepIn K (.ref a_law) = true)
  (sg_ : PySem.W.specialIn K (.builtin "object.__class__") "__get__" = some (some (.builtin "getset_descriptor.__get__")))
  (st_ : PySem.W.takesIn K (.builtin "object.__class__") = some true)
  (ki_Ratio_Ratio : PySem.W.kitOne K (.ref c_Ratio) (.ref c_Ratio) = some true)
  (gi_MOST_VESSELS : PySem.W.nsIn K mainGlobals "MOST_VESSELS" = some (some (.int 8 tk_MOST_VESSELS)))
  (gi_MOST_TRANSFERS : PySem.W.nsIn K mainGlobals "MOST_TRANSFERS" = some (some (.int 24 tk_MOST_TRANSFERS)))
  (gi_MOST_DROPS : PySem.W.nsIn K mainGlobals "MOST_DROPS" = some (some (.int 1000000 tk_MOST_DROPS)))
  (gi_MOST_ROWS : PySem.W.nsIn K mainGlobals "MOST_ROWS" = some (some (.int 8 tk_MOST_ROWS)))
  (gi_MOST_IN_ROW : PySem.W.nsIn K mainGlobals "MOST_IN_ROW" = some (some (.int 8 tk_MOST_IN_ROW)))
  (z_isinstance : PySem.W.nsIn K mainGlobals "isinstance" = some none)
  (z_int : PySem.W.nsIn K mainGlobals "int" = some none)
  (z_bool : PySem.W.nsIn K mainGlobals "bool" = some none)
  (z_len : PySem.W.nsIn K mainGlobals "len" = some none)
  (z_range : PySem.W.nsIn K mainGlobals "range" = some none)
  (z_zip : PySem.W.nsIn K mainGlobals "zip" = some none)
  (z_enumerate : PySem.W.nsIn K mainGlobals "enumerate" = some none)
  (z_list : PySem.W.nsIn K mainGlobals "list" = some none)
  (z_tuple : PySem.W.nsIn K mainGlobals "tuple" = some none)
  (z_type : PySem.W.nsIn K mainGlobals "type" = some none)
  (z_all : PySem.W.nsIn K mainGlobals "all" = some none)
  (z_max : PySem.W.nsIn K mainGlobals "max" = some none)
  (z_min : PySem.W.nsIn K mainGlobals "min" = some none)
  (z_repr : PySem.W.nsIn K mainGlobals "repr" = some none)
  (mi_gcd : PySem.W.nsIn K mainGlobals "gcd" = some (some (.builtin "math.gcd"))) :
  Txt K mg ⟨a_is_whole, (PySem.W.fnOf "is_whole" "is_whole" (defArgs s_is_whole) (defBody s_is_whole) (defScope s_is_whole) (.none) kV_is_whole dc_is_whole pm_is_whole an_is_whole cd_is_whole ct_is_whole), a_is_whole_within, (PySem.W.fnOf "is_whole_within" "is_whole_within" (defArgs s_is_whole_within) (defBody s_is_whole_within) (defScope s_is_whole_within) (.none) kV_is_whole_within dc_is_whole_within pm_is_whole_within an_is_whole_within cd_is_whole_within ct_is_whole_within), a_is_list_within, (PySem.W.fnOf "is_list_within" "is_list_within" (defArgs s_is_list_within) (defBody s_is_list_within) (defScope s_is_list_within) (.none) kV_is_list_within dc_is_list_within pm_is_list_within an_is_list_within cd_is_list_within ct_is_list_within), a_Ratio_init, (PySem.W.fnOf "__init__" "Ratio.__init__" (defArgs s_Ratio_init) (defBody s_Ratio_init) (defScope s_Ratio_init) (.ref t_Ratio_init) kV_Ratio_init dc_Ratio_init pm_Ratio_init an_Ratio_init cd_Ratio_init ct_Ratio_init), a_Ratio_eq, (PySem.W.fnOf "__eq__" "Ratio.__eq__" (defArgs s_Ratio_eq) (defBody s_Ratio_eq) (defScope s_Ratio_eq) (.none) kV_Ratio_eq dc_Ratio_eq pm_Ratio_eq an_Ratio_eq cd_Ratio_eq ct_Ratio_eq), a_Ratio_add, (PySem.W.fnOf "__add__" "Ratio.__add__" (defArgs s_Ratio_add) (defBody s_Ratio_add) (defScope s_Ratio_add) (.none) kV_Ratio_add dc_Ratio_add pm_Ratio_add an_Ratio_add cd_Ratio_add ct_Ratio_add), a_Ratio_sub, (PySem.W.fnOf "__sub__" "Ratio.__sub__" (defArgs s_Ratio_sub) (defBody s_Ratio_sub) (defScope s_Ratio_sub) (.none) kV_Ratio_sub dc_Ratio_sub pm_Ratio_sub an_Ratio_sub cd_Ratio_sub ct_Ratio_sub), a_Ratio_mul, (PySem.W.fnOf "__mul__" "Ratio.__mul__" (defArgs s_Ratio_mul) (defBody s_Ratio_mul) (defScope s_Ratio_mul) (.none) kV_Ratio_mul dc_Ratio_mul pm_Ratio_mul an_Ratio_mul cd_Ratio_mul ct_Ratio_mul), a_Ratio_neg, (PySem.W.fnOf "__neg__" "Ratio.__neg__" (defArgs s_Ratio_neg) (defBody s_Ratio_neg) (defScope s_Ratio_neg) (.none) kV_Ratio_neg dc_Ratio_neg pm_Ratio_neg an_Ratio_neg cd_Ratio_neg ct_Ratio_neg), a_Ratio_is_less, (PySem.W.fnOf "is_less" "Ratio.is_less" (defArgs s_Ratio_is_less) (defBody s_Ratio_is_less) (defScope s_Ratio_is_less) (.none) kV_Ratio_is_less dc_Ratio_is_less pm_Ratio_is_less an_Ratio_is_less cd_Ratio_is_less ct_Ratio_is_less), a_Ratio_over, (PySem.W.fnOf "over" "Ratio.over" (defArgs s_Ratio_over) (defBody s_Ratio_over) (defScope s_Ratio_over) (.none) kV_Ratio_over dc_Ratio_over pm_Ratio_over an_Ratio_over cd_Ratio_over ct_Ratio_over), a_is_ratio, (PySem.W.fnOf "is_ratio" "is_ratio" (defArgs s_is_ratio) (defBody s_is_ratio) (defScope s_is_ratio) (.none) kV_is_ratio dc_is_ratio pm_is_ratio an_is_ratio cd_is_ratio ct_is_ratio), a_is_rows, (PySem.W.fnOf "is_rows" "is_rows" (defArgs s_is_rows) (defBody s_is_rows) (defScope s_is_rows) (.none) kV_is_rows dc_is_rows pm_is_rows an_is_rows cd_is_rows ct_is_rows), a_copy_of, (PySem.W.fnOf "copy_of" "copy_of" (defArgs s_copy_of) (defBody s_copy_of) (defScope s_copy_of) (.none) kV_copy_of dc_copy_of pm_copy_of an_copy_of cd_copy_of ct_copy_of), a_moved, (PySem.W.fnOf "moved" "moved" (defArgs s_moved) (defBody s_moved) (defScope s_moved) (.none) kV_moved dc_moved pm_moved an_moved cd_moved ct_moved), a_moved_by_all, (PySem.W.fnOf "moved_by_all" "moved_by_all" (defArgs s_moved_by_all) (defBody s_moved_by_all) (defScope s_moved_by_all) (.none) kV_moved_by_all dc_moved_by_all pm_moved_by_all an_moved_by_all cd_moved_by_all ct_moved_by_all), a_is_row, (PySem.W.fnOf "_is_row" "_is_row" (defArgs s_is_row) (defBody s_is_row) (defScope s_is_row) (.none) kV_is_row dc_is_row pm_is_row an_is_row cd_is_row ct_is_row), a_is_volumes, (PySem.W.fnOf "is_volumes" "is_volumes" (defArgs s_is_volumes) (defBody s_is_volumes) (defScope s_is_volumes) (.none) kV_is_volumes dc_is_volumes pm_is_volumes an_is_volumes cd_is_volumes ct_is_volumes), a_is_transfer, (PySem.W.fnOf "is_transfer" "is_transfer" (defArgs s_is_transfer) (defBody s_is_transfer) (defScope s_is_transfer) (.none) kV_is_transfer dc_is_transfer pm_is_transfer an_is_transfer cd_is_transfer ct_is_transfer), a_is_transfer_between, (PySem.W.fnOf "is_transfer_between" "is_transfer_between" (defArgs s_is_transfer_between) (defBody s_is_transfer_between) (defScope s_is_transfer_between) (.none) kV_is_transfer_between dc_is_transfer_between pm_is_transfer_between an_is_transfer_between cd_is_transfer_between ct_is_transfer_between), a_is_transfers, (PySem.W.fnOf "is_transfers" "is_transfers" (defArgs s_is_transfers) (defBody s_is_transfers) (defScope s_is_transfers) (.none) kV_is_transfers dc_is_transfers pm_is_transfers an_is_transfers cd_is_transfers ct_is_transfers), a_volumes_after, (PySem.W.fnOf "volumes_after" "volumes_after" (defArgs s_volumes_after) (defBody s_volumes_after) (defScope s_volumes_after) (.none) kV_volumes_after dc_volumes_after pm_volumes_after an_volumes_after cd_volumes_after ct_volumes_after), a_contents_after, (PySem.W.fnOf "contents_after" "contents_after" (defArgs s_contents_after) (defBody s_contents_after) (defScope s_contents_after) (.none) kV_contents_after dc_contents_after pm_contents_after an_contents_after cd_contents_after ct_contents_after), a_shares_after, (PySem.W.fnOf "shares_after" "shares_after" (defArgs s_shares_after) (defBody s_shares_after) (defScope s_shares_after) (.none) kV_shares_after dc_shares_after pm_shares_after an_shares_after cd_shares_after ct_shares_after), a_volumes_by_step, (PySem.W.fnOf "volumes_by_step" "volumes_by_step" (defArgs s_volumes_by_step) (defBody s_volumes_by_step) (defScope s_volumes_by_step) (.none) kV_volumes_by_step dc_volumes_by_step pm_volumes_by_step an_volumes_by_step cd_volumes_by_step ct_volumes_by_step), a_volumes_behind, (PySem.W.fnOf "volumes_behind" "volumes_behind" (defArgs s_volumes_behind) (defBody s_volumes_behind) (defScope s_volumes_behind) (.none) kV_volumes_behind dc_volumes_behind pm_volumes_behind an_volumes_behind cd_volumes_behind ct_volumes_behind), a_moves_of, (PySem.W.fnOf "moves_of" "moves_of" (defArgs s_moves_of) (defBody s_moves_of) (defScope s_moves_of) (.none) kV_moves_of dc_moves_of pm_moves_of an_moves_of cd_moves_of ct_moves_of), a_check_volumes, (PySem.W.fnOf "check_volumes" "check_volumes" (defArgs s_check_volumes) (defBody s_check_volumes) (defScope s_check_volumes) (.none) kV_check_volumes dc_check_volumes pm_check_volumes an_check_volumes cd_check_volumes ct_check_volumes), a_check_transfers, (PySem.W.fnOf "check_transfers" "check_transfers" (defArgs s_check_transfers) (defBody s_check_transfers) (defScope s_check_transfers) (.none) kV_check_transfers dc_check_transfers pm_check_transfers an_check_transfers cd_check_transfers ct_check_transfers), a_contents_at_first, (PySem.W.fnOf "_contents_at_first" "_contents_at_first" (defArgs s_contents_at_first) (defBody s_contents_at_first) (defScope s_contents_at_first) (.none) kV_contents_at_first dc_contents_at_first pm_contents_at_first an_contents_at_first cd_contents_at_first ct_contents_at_first), a_check_transfers_between, (PySem.W.fnOf "_check_transfers_between" "_check_transfers_between" (defArgs s_check_transfers_between) (defBody s_check_transfers_between) (defScope s_check_transfers_between) (.none) kV_check_transfers_between dc_check_transfers_between pm_check_transfers_between an_check_transfers_between cd_check_transfers_between ct_check_transfers_between), a_factor_of, (PySem.W.fnOf "factor_of" "factor_of" (defArgs s_factor_of) (defBody s_factor_of) (defScope s_factor_of) (.none) kV_factor_of dc_factor_of pm_factor_of an_factor_of cd_factor_of ct_factor_of), a_determinant, (PySem.W.fnOf "determinant" "determinant" (defArgs s_determinant) (defBody s_determinant) (defScope s_determinant) (.none) kV_determinant dc_determinant pm_determinant an_determinant cd_determinant ct_determinant), a_pivot_in, (PySem.W.fnOf "_pivot_in" "_pivot_in" (defArgs s_pivot_in) (defBody s_pivot_in) (defScope s_pivot_in) (.none) kV_pivot_in dc_pivot_in pm_pivot_in an_pivot_in cd_pivot_in ct_pivot_in), a_without_pivot, (PySem.W.fnOf "_without_pivot" "_without_pivot" (defArgs s_without_pivot) (defBody s_without_pivot) (defScope s_without_pivot) (.none) kV_without_pivot dc_without_pivot pm_without_pivot an_without_pivot cd_without_pivot ct_without_pivot), a_cleared, (PySem.W.fnOf "_cleared" "_cleared" (defArgs s_cleared) (defBody s_cleared) (defScope s_cleared) (.none) kV_cleared dc_cleared pm_cleared an_cleared cd_cleared ct_cleared), a_check_rows, (PySem.W.fnOf "_check_rows" "_check_rows" (defArgs s_check_rows) (defBody s_check_rows) (defScope s_check_rows) (.none) kV_check_rows dc_check_rows pm_check_rows an_check_rows cd_check_rows ct_check_rows), a_law_open_source, (PySem.W.fnOf "_law_open_source" "_law_open_source" (defArgs s_law_open_source) (defBody s_law_open_source) (defScope s_law_open_source) (.none) kV_law_open_source dc_law_open_source pm_law_open_source an_law_open_source cd_law_open_source ct_law_open_source), a_law_draw, (PySem.W.fnOf "_law_draw" "_law_draw" (defArgs s_law_draw) (defBody s_law_draw) (defScope s_law_draw) (.none) kV_law_draw dc_law_draw pm_law_draw an_law_draw cd_law_draw ct_law_draw), a_law_case, (PySem.W.fnOf "_law_case" "_law_case" (defArgs s_law_case) (defBody s_law_case) (defScope s_law_case) (.none) kV_law_case dc_law_case pm_law_case an_law_case cd_law_case ct_law_case), a_law_now, (PySem.W.fnOf "_law_now" "_law_now" (defArgs s_law_now) (defBody s_law_now) (defScope s_law_now) (.none) kV_law_now dc_law_now pm_law_now an_law_now cd_law_now ct_law_now), a_law_factor, (PySem.W.fnOf "_law_factor" "_law_factor" (defArgs s_law_factor) (defBody s_law_factor) (defScope s_law_factor) (.none) kV_law_factor dc_law_factor pm_law_factor an_law_factor cd_law_factor ct_law_factor), a_law, (PySem.W.fnOf "law" "law" (defArgs s_law) (defBody s_law) (defScope s_law) (.none) kV_law dc_law pm_law an_law cd_law ct_law), c_Ratio⟩ := by
  refine ⟨?g_mgc_Ratio, ?g_cl_Ratio, ?g_cc_Ratio, ?g_mo_Ratio, ?g_sf_Ratio, ?g_ne_Ratio, ?g_far_Ratio, ?g_na_Ratio_top, ?g_na_Ratio_bottom, ?g_fun_is_whole, ?g_bd_is_whole, ?g_mg_is_whole, ?g_fun_is_whole_within, ?g_bd_is_whole_within, ?g_mg_is_whole_within, ?g_fun_is_list_within, ?g_bd_is_list_within, ?g_mg_is_list_within, ?g_fun_Ratio_init, ?g_mk_Ratio, ?g_fun_Ratio_eq, ?g_bd_Ratio_eq, ?g_om_Ratio_eq, ?g_fun_Ratio_add, ?g_bd_Ratio_add, ?g_om_Ratio_add, ?g_fun_Ratio_sub, ?g_bd_Ratio_sub, ?g_om_Ratio_sub, ?g_fun_Ratio_mul, ?g_bd_Ratio_mul, ?g_om_Ratio_mul, ?g_fun_Ratio_neg, ?g_bd_Ratio_neg, ?g_om_Ratio_neg, ?g_fun_Ratio_is_less, ?g_bd_Ratio_is_less, ?g_me_Ratio_is_less, ?g_fun_Ratio_over, ?g_bd_Ratio_over, ?g_me_Ratio_over, ?g_fun_is_ratio, ?g_bd_is_ratio, ?g_mg_is_ratio, ?g_fun_is_rows, ?g_bd_is_rows, ?g_mg_is_rows, ?g_fun_copy_of, ?g_bd_copy_of, ?g_mg_copy_of, ?g_fun_moved, ?g_bd_moved, ?g_mg_moved, ?g_fun_moved_by_all, ?g_bd_moved_by_all, ?g_mg_moved_by_all, ?g_fun_is_row, ?g_bd_is_row, ?g_mg_is_row, ?g_fun_is_volumes, ?g_bd_is_volumes, ?g_mg_is_volumes, ?g_fun_is_transfer, ?g_bd_is_transfer, ?g_mg_is_transfer, ?g_fun_is_transfer_between, ?g_bd_is_transfer_between, ?g_mg_is_transfer_between, ?g_fun_is_transfers, ?g_bd_is_transfers, ?g_mg_is_transfers, ?g_fun_volumes_after, ?g_bd_volumes_after, ?g_mg_volumes_after, ?g_fun_contents_after, ?g_bd_contents_after, ?g_mg_contents_after, ?g_fun_shares_after, ?g_bd_shares_after, ?g_mg_shares_after, ?g_fun_volumes_by_step, ?g_bd_volumes_by_step, ?g_mg_volumes_by_step, ?g_fun_volumes_behind, ?g_bd_volumes_behind, ?g_mg_volumes_behind, ?g_fun_moves_of, ?g_bd_moves_of, ?g_mg_moves_of, ?g_fun_check_volumes, ?g_bd_check_volumes, ?g_mg_check_volumes, ?g_fun_check_transfers, ?g_bd_check_transfers, ?g_mg_check_transfers, ?g_fun_contents_at_first, ?g_bd_contents_at_first, ?g_mg_contents_at_first, ?g_fun_check_transfers_between, ?g_bd_check_transfers_between, ?g_mg_check_transfers_between, ?g_fun_factor_of, ?g_bd_factor_of, ?g_mg_factor_of, ?g_fun_determinant, ?g_bd_determinant, ?g_mg_determinant, ?g_fun_pivot_in, ?g_bd_pivot_in, ?g_mg_pivot_in, ?g_fun_without_pivot, ?g_bd_without_pivot, ?g_mg_without_pivot, ?g_fun_cleared, ?g_bd_cleared, ?g_mg_cleared, ?g_fun_check_rows, ?g_bd_check_rows, ?g_mg_check_rows, ?g_fun_law_open_source, ?g_bd_law_open_source, ?g_mg_law_open_source, ?g_fun_law_draw, ?g_bd_law_draw, ?g_mg_law_draw, ?g_fun_law_case, ?g_bd_law_case, ?g_mg_law_case, ?g_fun_law_now, ?g_bd_law_now, ?g_mg_law_now, ?g_fun_law_factor, ?g_bd_law_factor, ?g_mg_law_factor, ?g_fun_law, ?g_bd_law, ?g_mg_law, ?g_sg_, ?g_st_, ?g_ki_int_int, ?g_ki_int_bool, ?g_ki_list_list, ?g_ki_Ratio_Ratio, ?g_gi_MOST_VESSELS, ?g_gi_MOST_TRANSFERS, ?g_gi_MOST_DROPS, ?g_gi_MOST_ROWS, ?g_gi_MOST_IN_ROW, ?g_z_isinstance, ?g_z_int, ?g_z_bool, ?g_z_len, ?g_z_range, ?g_z_zip, ?g_z_enumerate, ?g_z_list, ?g_z_tuple, ?g_z_type, ?g_z_all, ?g_z_max, ?g_z_min, ?g_z_repr, ?g_mgi_gcd⟩
  (case g_mgc_Ratio => exact PySem.W.mg_of X G m_Ratio)
  (case g_cl_Ratio => exact ⟨pg_Ratio, hd_Ratio, po_Ratio, sa_Ratio⟩)
  (case g_cc_Ratio => exact cc_Ratio)
  (case g_mo_Ratio => exact mo_Ratio)
  (case g_sf_Ratio => exact sf_Ratio)
  (case g_ne_Ratio => exact ⟨ne_Ratio, mo_Ratio⟩)
  (case g_far_Ratio => exact ⟨fai_Ratio, fab_Ratio, fas_Ratio, fan_Ratio, fal_Ratio, fat_Ratio, fad_Ratio⟩)
  (case g_na_Ratio_top => exact na_Ratio_top)
  (case g_na_Ratio_bottom => exact na_Ratio_bottom)
  (case g_fun_is_whole => exact fun_mk (st := s_is_whole) l_is_whole k_is_whole e_is_whole)
  (case g_bd_is_whole => exact (fun_mk (st := s_is_whole) l_is_whole k_is_whole e_is_whole).binds (ps := ["value"]) fun _ _ _ _ _ _ us hl => match us, hl with | [_], _ => rfl)
  (case g_mg_is_whole => exact PySem.W.mg_of X G m_is_whole)
  (case g_fun_is_whole_within => exact fun_mk (st := s_is_whole_within) l_is_whole_within k_is_whole_within e_is_whole_within)
  (case g_bd_is_whole_within => exact (fun_mk (st := s_is_whole_within) l_is_whole_within k_is_whole_within e_is_whole_within).binds (ps := ["value", "least", "most"]) fun _ _ _ _ _ _ us hl => match us, hl with | [_, _, _], _ => rfl)
  (case g_mg_is_whole_within => exact PySem.W.mg_of X G m_is_whole_within)
  (case g_fun_is_list_within => exact fun_mk (st := s_is_list_within) l_is_list_within k_is_list_within e_is_list_within)
  (case g_bd_is_list_within => exact (fun_mk (st := s_is_list_within) l_is_list_within k_is_list_within e_is_list_within).binds (ps := ["value", "least", "most"]) fun _ _ _ _ _ _ us hl => match us, hl with | [_, _, _], _ => rfl)
  (case g_mg_is_list_within => exact PySem.W.mg_of X G m_is_list_within)
  (case g_fun_Ratio_init => exact ⟨⟨oc_Ratio_init, od_Ratio_init, _, kV_Ratio_init, dc_Ratio_init, pm_Ratio_init, an_Ratio_init, cd_Ratio_init, ct_Ratio_init, sl_Ratio_init, rfl, l_Ratio_init, k_Ratio_init, .inr ⟨by simp, t_Ratio_init, _, [Value.int 1 tk_Ratio_init], tn_Ratio_init, rfl, t_Ratio_init_, rfl, .cons ⟨_, rfl⟩ (.nil)⟩, .inl rfl⟩, e_Ratio_init⟩)
  (case g_mk_Ratio => exact ⟨mk_Ratio, i_Ratio_init, f_Ratio_init, kc_Ratio⟩)
  (case g_fun_Ratio_eq => exact fun_mk (st := s_Ratio_eq) l_Ratio_eq k_Ratio_eq e_Ratio_eq)
  (case g_bd_Ratio_eq => exact (fun_mk (st := s_Ratio_eq) l_Ratio_eq k_Ratio_eq e_Ratio_eq).binds (ps := ["self", "other"]) fun _ _ _ _ _ _ us hl => match us, hl with | [_, _], _ => rfl)
  (case g_om_Ratio_eq => exact ⟨i_Ratio_eq, f_Ratio_eq⟩)
  (case g_fun_Ratio_add => exact fun_mk (st := s_Ratio_add) l_Ratio_add k_Ratio_add e_Ratio_add)
  (case g_bd_Ratio_add => exact (fun_mk (st := s_Ratio_add) l_Ratio_add k_Ratio_add e_Ratio_add).binds (ps := ["self", "other"]) fun _ _ _ _ _ _ us hl => match us, hl with | [_, _], _ => rfl)
  (case g_om_Ratio_add => exact ⟨i_Ratio_add, f_Ratio_add⟩)
  (case g_fun_Ratio_sub => exact fun_mk (st := s_Ratio_sub) l_Ratio_sub k_Ratio_sub e_Ratio_sub)
  (case g_bd_Ratio_sub => exact (fun_mk (st := s_Ratio_sub) l_Ratio_sub k_Ratio_sub e_Ratio_sub).binds (ps := ["self", "other"]) fun _ _ _ _ _ _ us hl => match us, hl with | [_, _], _ => rfl)
  (case g_om_Ratio_sub => exact ⟨i_Ratio_sub, f_Ratio_sub⟩)
  (case g_fun_Ratio_mul => exact fun_mk (st := s_Ratio_mul) l_Ratio_mul k_Ratio_mul e_Ratio_mul)
  (case g_bd_Ratio_mul => exact (fun_mk (st := s_Ratio_mul) l_Ratio_mul k_Ratio_mul e_Ratio_mul).binds (ps := ["self", "other"]) fun _ _ _ _ _ _ us hl => match us, hl with | [_, _], _ => rfl)
  (case g_om_Ratio_mul => exact ⟨i_Ratio_mul, f_Ratio_mul⟩)
  (case g_fun_Ratio_neg => exact fun_mk (st := s_Ratio_neg) l_Ratio_neg k_Ratio_neg e_Ratio_neg)
  (case g_bd_Ratio_neg => exact (fun_mk (st := s_Ratio_neg) l_Ratio_neg k_Ratio_neg e_Ratio_neg).binds (ps := ["self"]) fun _ _ _ _ _ _ us hl => match us, hl with | [_], _ => rfl)
  (case g_om_Ratio_neg => exact ⟨i_Ratio_neg, f_Ratio_neg⟩)
  (case g_fun_Ratio_is_less => exact fun_mk (st := s_Ratio_is_less) l_Ratio_is_less k_Ratio_is_less e_Ratio_is_less)
  (case g_bd_Ratio_is_less => exact (fun_mk (st := s_Ratio_is_less) l_Ratio_is_less k_Ratio_is_less e_Ratio_is_less).binds (ps := ["self", "other"]) fun _ _ _ _ _ _ us hl => match us, hl with | [_, _], _ => rfl)
  (case g_me_Ratio_is_less => exact ⟨i_Ratio_is_less, f_Ratio_is_less, e_Ratio_is_less⟩)
  (case g_fun_Ratio_over => exact fun_mk (st := s_Ratio_over) l_Ratio_over k_Ratio_over e_Ratio_over)
  (case g_bd_Ratio_over => exact (fun_mk (st := s_Ratio_over) l_Ratio_over k_Ratio_over e_Ratio_over).binds (ps := ["self", "other"]) fun _ _ _ _ _ _ us hl => match us, hl with | [_, _], _ => rfl)
  (case g_me_Ratio_over => exact ⟨i_Ratio_over, f_Ratio_over, e_Ratio_over⟩)
  (case g_fun_is_ratio => exact fun_mk (st := s_is_ratio) l_is_ratio k_is_ratio e_is_ratio)
  (case g_bd_is_ratio => exact (fun_mk (st := s_is_ratio) l_is_ratio k_is_ratio e_is_ratio).binds (ps := ["value"]) fun _ _ _ _ _ _ us hl => match us, hl with | [_], _ => rfl)
  (case g_mg_is_ratio => exact PySem.W.mg_of X G m_is_ratio)
  (case g_fun_is_rows => exact fun_mk (st := s_is_rows) l_is_rows k_is_rows e_is_rows)
  (case g_bd_is_rows => exact (fun_mk (st := s_is_rows) l_is_rows k_is_rows e_is_rows).binds (ps := ["value"]) fun _ _ _ _ _ _ us hl => match us, hl with | [_], _ => rfl)
  (case g_mg_is_rows => exact PySem.W.mg_of X G m_is_rows)
  (case g_fun_copy_of => exact fun_mk (st := s_copy_of) l_copy_of k_copy_of e_copy_of)
  (case g_bd_copy_of => exact (fun_mk (st := s_copy_of) l_copy_of k_copy_of e_copy_of).binds (ps := ["rows"]) fun _ _ _ _ _ _ us hl => match us, hl with | [_], _ => rfl)
  (case g_mg_copy_of => exact PySem.W.mg_of X G m_copy_of)
  (case g_fun_moved => exact fun_mk (st := s_moved) l_moved k_moved e_moved)
  (case g_bd_moved => exact (fun_mk (st := s_moved) l_moved k_moved e_moved).binds (ps := ["rows", "giver", "taker", "part"]) fun _ _ _ _ _ _ us hl => match us, hl with | [_, _, _, _], _ => rfl)
  (case g_mg_moved => exact PySem.W.mg_of X G m_moved)
  (case g_fun_moved_by_all => exact fun_mk (st := s_moved_by_all) l_moved_by_all k_moved_by_all e_moved_by_all)
  (case g_bd_moved_by_all => exact (fun_mk (st := s_moved_by_all) l_moved_by_all k_moved_by_all e_moved_by_all).binds (ps := ["rows", "moves"]) fun _ _ _ _ _ _ us hl => match us, hl with | [_, _], _ => rfl)
  (case g_mg_moved_by_all => exact PySem.W.mg_of X G m_moved_by_all)
  (case g_fun_is_row => exact fun_mk (st := s_is_row) l_is_row k_is_row e_is_row)
  (case g_bd_is_row => exact (fun_mk (st := s_is_row) l_is_row k_is_row e_is_row).binds (ps := ["value"]) fun _ _ _ _ _ _ us hl => match us, hl with | [_], _ => rfl)
  (case g_mg_is_row => exact PySem.W.mg_of X G m_is_row)
  (case g_fun_is_volumes => exact fun_mk (st := s_is_volumes) l_is_volumes k_is_volumes e_is_volumes)
  (case g_bd_is_volumes => exact (fun_mk (st := s_is_volumes) l_is_volumes k_is_volumes e_is_volumes).binds (ps := ["value"]) fun _ _ _ _ _ _ us hl => match us, hl with | [_], _ => rfl)
  (case g_mg_is_volumes => exact PySem.W.mg_of X G m_is_volumes)
  (case g_fun_is_transfer => exact fun_mk (st := s_is_transfer) l_is_transfer k_is_transfer e_is_transfer)
  (case g_bd_is_transfer => exact (fun_mk (st := s_is_transfer) l_is_transfer k_is_transfer e_is_transfer).binds (ps := ["value"]) fun _ _ _ _ _ _ us hl => match us, hl with | [_], _ => rfl)
  (case g_mg_is_transfer => exact PySem.W.mg_of X G m_is_transfer)
  (case g_fun_is_transfer_between => exact fun_mk (st := s_is_transfer_between) l_is_transfer_between k_is_transfer_between e_is_transfer_between)
  (case g_bd_is_transfer_between => exact (fun_mk (st := s_is_transfer_between) l_is_transfer_between k_is_transfer_between e_is_transfer_between).binds (ps := ["value", "many"]) fun _ _ _ _ _ _ us hl => match us, hl with | [_, _], _ => rfl)
  (case g_mg_is_transfer_between => exact PySem.W.mg_of X G m_is_transfer_between)
  (case g_fun_is_transfers => exact fun_mk (st := s_is_transfers) l_is_transfers k_is_transfers e_is_transfers)
  (case g_bd_is_transfers => exact (fun_mk (st := s_is_transfers) l_is_transfers k_is_transfers e_is_transfers).binds (ps := ["value"]) fun _ _ _ _ _ _ us hl => match us, hl with | [_], _ => rfl)
  (case g_mg_is_transfers => exact PySem.W.mg_of X G m_is_transfers)
  (case g_fun_volumes_after => exact fun_mk (st := s_volumes_after) l_volumes_after k_volumes_after e_volumes_after)
  (case g_bd_volumes_after => exact (fun_mk (st := s_volumes_after) l_volumes_after k_volumes_after e_volumes_after).binds (ps := ["volumes", "transfers"]) fun _ _ _ _ _ _ us hl => match us, hl with | [_, _], _ => rfl)
  (case g_mg_volumes_after => exact PySem.W.mg_of X G m_volumes_after)
  (case g_fun_contents_after => exact fun_mk (st := s_contents_after) l_contents_after k_contents_after e_contents_after)
  (case g_bd_contents_after => exact (fun_mk (st := s_contents_after) l_contents_after k_contents_after e_contents_after).binds (ps := ["volumes", "transfers"]) fun _ _ _ _ _ _ us hl => match us, hl with | [_, _], _ => rfl)
  (case g_mg_contents_after => exact PySem.W.mg_of X G m_contents_after)
  (case g_fun_shares_after => exact fun_mk (st := s_shares_after) l_shares_after k_shares_after e_shares_after)
  (case g_bd_shares_after => exact (fun_mk (st := s_shares_after) l_shares_after k_shares_after e_shares_after).binds (ps := ["volumes", "transfers"]) fun _ _ _ _ _ _ us hl => match us, hl with | [_, _], _ => rfl)
  (case g_mg_shares_after => exact PySem.W.mg_of X G m_shares_after)
  (case g_fun_volumes_by_step => exact fun_mk (st := s_volumes_by_step) l_volumes_by_step k_volumes_by_step e_volumes_by_step)
  (case g_bd_volumes_by_step => exact (fun_mk (st := s_volumes_by_step) l_volumes_by_step k_volumes_by_step e_volumes_by_step).binds (ps := ["volumes", "transfers"]) fun _ _ _ _ _ _ us hl => match us, hl with | [_, _], _ => rfl)
  (case g_mg_volumes_by_step => exact PySem.W.mg_of X G m_volumes_by_step)
  (case g_fun_volumes_behind => exact fun_mk (st := s_volumes_behind) l_volumes_behind k_volumes_behind e_volumes_behind)
  (case g_bd_volumes_behind => exact (fun_mk (st := s_volumes_behind) l_volumes_behind k_volumes_behind e_volumes_behind).binds (ps := ["volumes", "transfer", "index"]) fun _ _ _ _ _ _ us hl => match us, hl with | [_, _, _], _ => rfl)
  (case g_mg_volumes_behind => exact PySem.W.mg_of X G m_volumes_behind)
  (case g_fun_moves_of => exact fun_mk (st := s_moves_of) l_moves_of k_moves_of e_moves_of)
  (case g_bd_moves_of => exact (fun_mk (st := s_moves_of) l_moves_of k_moves_of e_moves_of).binds (ps := ["volumes", "transfers"]) fun _ _ _ _ _ _ us hl => match us, hl with | [_, _], _ => rfl)
  (case g_mg_moves_of => exact PySem.W.mg_of X G m_moves_of)
  (case g_fun_check_volumes => exact fun_mk (st := s_check_volumes) l_check_volumes k_check_volumes e_check_volumes)
  (case g_bd_check_volumes => exact (fun_mk (st := s_check_volumes) l_check_volumes k_check_volumes e_check_volumes).binds (ps := ["volumes"]) fun _ _ _ _ _ _ us hl => match us, hl with | [_], _ => rfl)
  (case g_mg_check_volumes => exact PySem.W.mg_of X G m_check_volumes)
  (case g_fun_check_transfers => exact fun_mk (st := s_check_transfers) l_check_transfers k_check_transfers e_check_transfers)
  (case g_bd_check_transfers => exact (fun_mk (st := s_check_transfers) l_check_transfers k_check_transfers e_check_transfers).binds (ps := ["transfers"]) fun _ _ _ _ _ _ us hl => match us, hl with | [_], _ => rfl)
  (case g_mg_check_transfers => exact PySem.W.mg_of X G m_check_transfers)
  (case g_fun_contents_at_first => exact fun_mk (st := s_contents_at_first) l_contents_at_first k_contents_at_first e_contents_at_first)
  (case g_bd_contents_at_first => exact (fun_mk (st := s_contents_at_first) l_contents_at_first k_contents_at_first e_contents_at_first).binds (ps := ["volumes"]) fun _ _ _ _ _ _ us hl => match us, hl with | [_], _ => rfl)
  (case g_mg_contents_at_first => exact PySem.W.mg_of X G m_contents_at_first)
  (case g_fun_check_transfers_between => exact fun_mk (st := s_check_transfers_between) l_check_transfers_between k_check_transfers_between e_check_transfers_between)
  (case g_bd_check_transfers_between => exact (fun_mk (st := s_check_transfers_between) l_check_transfers_between k_check_transfers_between e_check_transfers_between).binds (ps := ["transfers", "many"]) fun _ _ _ _ _ _ us hl => match us, hl with | [_, _], _ => rfl)
  (case g_mg_check_transfers_between => exact PySem.W.mg_of X G m_check_transfers_between)
  (case g_fun_factor_of => exact fun_mk (st := s_factor_of) l_factor_of k_factor_of e_factor_of)
  (case g_bd_factor_of => exact (fun_mk (st := s_factor_of) l_factor_of k_factor_of e_factor_of).binds (ps := ["volumes", "transfers"]) fun _ _ _ _ _ _ us hl => match us, hl with | [_, _], _ => rfl)
  (case g_mg_factor_of => exact PySem.W.mg_of X G m_factor_of)
  (case g_fun_determinant => exact fun_mk (st := s_determinant) l_determinant k_determinant e_determinant)
  (case g_bd_determinant => exact (fun_mk (st := s_determinant) l_determinant k_determinant e_determinant).binds (ps := ["rows"]) fun _ _ _ _ _ _ us hl => match us, hl with | [_], _ => rfl)
  (case g_mg_determinant => exact PySem.W.mg_of X G m_determinant)
  (case g_fun_pivot_in => exact fun_mk (st := s_pivot_in) l_pivot_in k_pivot_in e_pivot_in)
  (case g_bd_pivot_in => exact (fun_mk (st := s_pivot_in) l_pivot_in k_pivot_in e_pivot_in).binds (ps := ["rows", "column"]) fun _ _ _ _ _ _ us hl => match us, hl with | [_, _], _ => rfl)
  (case g_mg_pivot_in => exact PySem.W.mg_of X G m_pivot_in)
  (case g_fun_without_pivot => exact fun_mk (st := s_without_pivot) l_without_pivot k_without_pivot e_without_pivot)
  (case g_bd_without_pivot => exact (fun_mk (st := s_without_pivot) l_without_pivot k_without_pivot e_without_pivot).binds (ps := ["rows", "at", "column"]) fun _ _ _ _ _ _ us hl => match us, hl with | [_, _, _], _ => rfl)
  (case g_mg_without_pivot => exact PySem.W.mg_of X G m_without_pivot)
  (case g_fun_cleared => exact fun_mk (st := s_cleared) l_cleared k_cleared e_cleared)
  (case g_bd_cleared => exact (fun_mk (st := s_cleared) l_cleared k_cleared e_cleared).binds (ps := ["row", "pivot", "column"]) fun _ _ _ _ _ _ us hl => match us, hl with | [_, _, _], _ => rfl)
  (case g_mg_cleared => exact PySem.W.mg_of X G m_cleared)
  (case g_fun_check_rows => exact fun_mk (st := s_check_rows) l_check_rows k_check_rows e_check_rows)
  (case g_bd_check_rows => exact (fun_mk (st := s_check_rows) l_check_rows k_check_rows e_check_rows).binds (ps := ["rows"]) fun _ _ _ _ _ _ us hl => match us, hl with | [_], _ => rfl)
  (case g_mg_check_rows => exact PySem.W.mg_of X G m_check_rows)
  (case g_fun_law_open_source => exact fun_mk (st := s_law_open_source) l_law_open_source k_law_open_source e_law_open_source)
  (case g_bd_law_open_source => exact (fun_mk (st := s_law_open_source) l_law_open_source k_law_open_source e_law_open_source).binds (ps := ["script", "k"]) fun _ _ _ _ _ _ us hl => match us, hl with | [_, _], _ => rfl)
  (case g_mg_law_open_source => exact PySem.W.mg_of X G m_law_open_source)
  (case g_fun_law_draw => exact fun_mk (st := s_law_draw) l_law_draw k_law_draw e_law_draw)
  (case g_bd_law_draw => exact (fun_mk (st := s_law_draw) l_law_draw k_law_draw e_law_draw).binds (ps := ["source", "limit"]) fun _ _ _ _ _ _ us hl => match us, hl with | [_, _], _ => rfl)
  (case g_mg_law_draw => exact PySem.W.mg_of X G m_law_draw)
  (case g_fun_law_case => exact fun_mk (st := s_law_case) l_law_case k_law_case e_law_case)
  (case g_bd_law_case => exact (fun_mk (st := s_law_case) l_law_case k_law_case e_law_case).binds (ps := ["source", "script", "most", "many"]) fun _ _ _ _ _ _ us hl => match us, hl with | [_, _, _, _], _ => rfl)
  (case g_mg_law_case => exact PySem.W.mg_of X G m_law_case)
  (case g_fun_law_now => exact fun_mk (st := s_law_now) l_law_now k_law_now e_law_now)
  (case g_bd_law_now => exact (fun_mk (st := s_law_now) l_law_now k_law_now e_law_now).binds (ps := ["sizes", "moves"]) fun _ _ _ _ _ _ us hl => match us, hl with | [_, _], _ => rfl)
  (case g_mg_law_now => exact PySem.W.mg_of X G m_law_now)
  (case g_fun_law_factor => exact fun_mk (st := s_law_factor) l_law_factor k_law_factor e_law_factor)
  (case g_bd_law_factor => exact (fun_mk (st := s_law_factor) l_law_factor k_law_factor e_law_factor).binds (ps := ["sizes", "moves"]) fun _ _ _ _ _ _ us hl => match us, hl with | [_, _], _ => rfl)
  (case g_mg_law_factor => exact PySem.W.mg_of X G m_law_factor)
  (case g_fun_law => exact fun_mk (st := s_law) l_law k_law e_law)
  (case g_bd_law => exact (fun_mk (st := s_law) l_law k_law e_law).binds (ps := ["script"]) fun _ _ _ _ _ _ us hl => match us, hl with | [_], _ => rfl)
  (case g_mg_law => exact PySem.W.mg_of X G m_law)
  (case g_sg_ => exact sg_)
  (case g_st_ => exact st_)
  (case g_ki_int_int => exact kit_ty (by decide +kernel))
  (case g_ki_int_bool => exact kit_ty (by decide +kernel))
  (case g_ki_list_list => exact kit_ty (by decide +kernel))
  (case g_ki_Ratio_Ratio => exact ki_Ratio_Ratio)
  (case g_gi_MOST_VESSELS => exact ⟨tk_MOST_VESSELS, PySem.W.mg_of X G gi_MOST_VESSELS⟩)
  (case g_gi_MOST_TRANSFERS => exact ⟨tk_MOST_TRANSFERS, PySem.W.mg_of X G gi_MOST_TRANSFERS⟩)
  (case g_gi_MOST_DROPS => exact ⟨tk_MOST_DROPS, PySem.W.mg_of X G gi_MOST_DROPS⟩)
  (case g_gi_MOST_ROWS => exact ⟨tk_MOST_ROWS, PySem.W.mg_of X G gi_MOST_ROWS⟩)
  (case g_gi_MOST_IN_ROW => exact ⟨tk_MOST_IN_ROW, PySem.W.mg_of X G gi_MOST_IN_ROW⟩)
  (case g_z_isinstance => exact PySem.W.mg_none_of X G z_isinstance)
  (case g_z_int => exact PySem.W.mg_none_of X G z_int)
  (case g_z_bool => exact PySem.W.mg_none_of X G z_bool)
  (case g_z_len => exact PySem.W.mg_none_of X G z_len)
  (case g_z_range => exact PySem.W.mg_none_of X G z_range)
  (case g_z_zip => exact PySem.W.mg_none_of X G z_zip)
  (case g_z_enumerate => exact PySem.W.mg_none_of X G z_enumerate)
  (case g_z_list => exact PySem.W.mg_none_of X G z_list)
  (case g_z_tuple => exact PySem.W.mg_none_of X G z_tuple)
  (case g_z_type => exact PySem.W.mg_none_of X G z_type)
  (case g_z_all => exact PySem.W.mg_none_of X G z_all)
  (case g_z_max => exact PySem.W.mg_none_of X G z_max)
  (case g_z_min => exact PySem.W.mg_none_of X G z_min)
  (case g_z_repr => exact PySem.W.mg_none_of X G z_repr)
  (case g_mgi_gcd => exact PySem.W.mg_of X G mi_gcd)
local macro_rules | `(tactic| walk_at "pos") => `(tactic| first | assumption | (decide +kernel) | omega)
local macro_rules | `(tactic| walk_at "bt") => `(tactic| first
  | assumption
  | (decide +kernel)
  | exact Bt.mono (by assumption) (by decide)
  | (refine' Bt.add ?b1 ?b2; (case b1 => walk_at "bt"); (case b2 => walk_at "bt"))
  | (refine' Bt.sub ?b1 ?b2; (case b1 => walk_at "bt"); (case b2 => walk_at "bt"))
  | (refine' Bt.mul ?b1 ?b2; (case b1 => walk_at "bt"); (case b2 => walk_at "bt"))
  | (refine' Bt.mod ?b1 ?b2; (case b2 => walk_at "bt"); (case b1 => walk_at "pos"))
  | (refine' Bt.div ?b1 ?b2; (case b2 => walk_at "bt"); (case b1 => walk_at "pos"))
  | (refine' Bt.pow3 ?b1; (case b1 => walk_at "bt"))
  | (refine' Bt.neg ?b1; (case b1 => walk_at "bt"))
  | exact Bt.any)
local macro_rules | `(tactic| walk_at "btm") => `(tactic| ((refine' Bt.mono ?m1 ?m2); (case m1 => walk_at "bt"); (case m2 => (decide +kernel))))
local macro_rules | `(tactic| walk_at "ne") => `(tactic| first
  | assumption
  | (refine' Ne.symm ?q1; (case q1 => assumption))
  | (refine' ne_of_none (by assumption) ?q1; (case q1 => assumption))
  | (refine' Ne.symm (ne_of_none (by assumption) ?q1); (case q1 => assumption)))
local macro_rules | `(tactic| walk_at "hp") => `(tactic| first
  | assumption
  | exact upd_same
  | ((refine' lst_same ?q1 (by assumption : Same _ _)); (case q1 => walk_at "hp"))
  | ((refine' (by assumption : Fr _ _ _) _ _ ?n ?h); (case n => walk_at "ne"); (case h => walk_at "hp"))
  | ((refine (upd_ne (by assumption)).trans ?_); walk_at "hp")
  | ((refine (upd_ne (Ne.symm (by assumption))).trans ?_); walk_at "hp"))
local macro_rules | `(tactic| walk_at "sr") => `(tactic| first
  | assumption
  | ((refine' Src.same ?q1 (by assumption : Same _ _)); (case q1 => walk_at "sr")))
local macro_rules | `(tactic| walk_at "rt") => `(tactic| first
  | assumption
  | ((refine' Rat.same ?q1 (by assumption : Same _ _)); (case q1 => walk_at "rt"))
  | ((refine' Rat.fr ?q1 ?q2 (by assumption : Fr _ _ _)); (case q2 => walk_at "sr"); (case q1 => walk_at "rt")))
local macro_rules | `(tactic| walk_at "tp") => `(tactic| first
  | assumption
  | ((refine' tup_same ?q1 (by assumption : Same _ _)); (case q1 => walk_at "tp"))
  | ((refine' tup_fr ?q1 ?q2 (by assumption : Fr _ _ _)); (case q2 => walk_at "sr"); (case q1 => walk_at "tp")))
local macro_rules | `(tactic| walk_at "ls") => `(tactic| first
  | assumption
  | ((refine' lst_same ?q1 (by assumption : Same _ _)); (case q1 => walk_at "ls"))
  | ((refine' lst_fr ?q1 ?q2 (by assumption : Fr _ _ _)); (case q2 => assumption); (case q1 => walk_at "ls")))
local macro_rules | `(tactic| walk_at "sm") => `(tactic| first
  | exact Same.refl _
  | assumption
  | ((refine Same.trans ?_ (by assumption : Same _ _)); walk_at "sm"))
local macro_rules | `(tactic| walk_at "fr") => `(tactic| first
  | exact Fr.refl _ _
  | assumption
  | ((refine Fr.trans ?_ (Fr.same (by assumption : Same _ _))); walk_at "fr")
  | ((refine Fr.trans ?_ (by assumption : Fr _ _ _)); walk_at "fr"))
local macro_rules | `(tactic| walk_at "wp1") => `(tactic| first
  | (with_reducible refine w_seq ?_) | (with_reducible refine w_next ?_) | (with_reducible refine w_ret ?_) | (with_reducible refine w_asg ?_) | (with_reducible refine w_gn ?_) | (with_reducible refine w_if ?_)
  | (with_reducible refine w_cons ?_) | (with_reducible refine w_nil ?_) | (with_reducible refine w_c ?_) | (with_reducible refine w_op ?_) | (with_reducible refine w_cb ?_)
  | ((with_reducible refine' w_var ?h ?_); (case h => exact rfl))
  | (with_reducible refine w_I0 ?_) | (with_reducible refine w_eqI ?_) | (with_reducible refine w_neI ?_) | (with_reducible refine w_test ?_) | (with_reducible refine w_tB ?_) | (with_reducible refine w_bl ?_) | (with_reducible refine w_par ?_) | (with_reducible refine w_par2 ?_) | (with_reducible refine w_par3 ?_) | (with_reducible refine w_three ?_)
  | (with_reducible refine w_not ?_) | (with_reducible refine w_and ?_) | (with_reducible refine w_or ?_) | (with_reducible refine w_andV ?_) | (with_reducible refine w_orV ?_) | (with_reducible refine w_notV ?_) | (with_reducible refine w_tif ?_)
  | (with_reducible refine w_tup ?_) | (with_reducible refine w_lst ?_) | (with_reducible refine w_un ?_) | (with_reducible refine w_U ?_) | (with_reducible refine w_drop ?_) | (with_reducible refine w_brk ?_) | (with_reducible refine w_cont ?_) | (with_reducible refine w_retN ?_)
  | (with_reducible refine w_call ?_) | (with_reducible refine w_fld ?_) | (with_reducible refine w_sfld ?_) | (with_reducible refine w_prop ?_) | (with_reducible refine w_make ?_) | (with_reducible refine w_meth ?_) | (with_reducible refine w_methN ?_) | (with_reducible refine w_revL ?_) | (with_reducible refine w_gsub ?_)
  | ((with_reducible refine' w_powN ?c1 ?c2 ?_); (case c2 => (decide +kernel)); (case c1 => exact rfl))
  | ((with_reducible refine' w_powV ?c1 ?c2 ?c3 ?c4 ?_); (case c2 => walk_at "bt"); (case c3 => (decide +kernel)); (case c4 => (decide +kernel)); (case c1 => exact rfl))
  | ((with_reducible refine' w_I (C := CMulW) ?c1 ?_); (case c1 => (refine' mulOk ?k1 ?k2 ?k3; (case k1 => walk_at "bt"); (case k2 => walk_at "bt"); (case k3 => decide +kernel))))
  | ((with_reducible refine' w_I (C := CDivW) ?c1 ?_); (case c1 => (refine' divOk ?k1 ?k2 ?k3; (case k1 => walk_at "pos"); (case k2 => walk_at "bt"); (case k3 => decide +kernel))))
  | ((with_reducible refine' w_I (C := fun _ j => 0 < j) ?c1 ?_); (case c1 => walk_at "pos"))
  | (with_reducible refine w_isB ?_) | (with_reducible refine w_notB ?_) | (with_reducible refine w_neS ?_) | (with_reducible refine w_eqS ?_)
  | (with_reducible refine w_iRng1 ?_) | (with_reducible refine w_for ?_) | (with_reducible refine w_iEnum ?_) | (with_reducible refine w_iList ?_) | (with_reducible refine w_iTup ?_) | (with_reducible refine w_noPart ?_) | (with_reducible refine w_part ?_) | (with_reducible refine w_int ?_)
  | (with_reducible refine w_sl ?_)
  | (with_reducible refine w_two ?_) | (with_reducible refine w_one ?_)
  | ((with_reducible refine' w_ixL ?hs ?he ?_); (case hs => first | (refine' SqL.of ?q0; (case q0 => walk_at "hp")) | assumption); (case he => exact rfl))
  | ((with_reducible refine' w_ixT ?hs ?he ?_); (case hs => first | (refine' SqT.of ?q0; (case q0 => walk_at "tp")) | assumption); (case he => exact rfl))
  | ((with_reducible refine' w_setL ?hs ?he ?_); (case hs => walk_at "hp"); (case he => exact rfl))
  | (with_reducible refine w_iteT rfl ?_) | (with_reducible refine w_iteF rfl ?_) | ((with_reducible refine w_alloc ?h ?_); (case h => exact rfl))
  | (with_reducible refine w_augS ?_) | (with_reducible refine w_ipI ?_) | (with_reducible refine w_exo1 ?_) | (with_reducible refine w_exoI ?_) | (with_reducible refine w_exoK ?_) | (with_reducible refine w_fldE ?_) | (with_reducible refine w_ost ?_) | (with_reducible refine w_makeS ?_) | (with_reducible refine w_methS ?_) | (with_reducible refine w_callS ?_) | (with_reducible refine w_bm ?_) | (with_reducible refine w_bm0 ?_) | (with_reducible refine w_din ?_) | (with_reducible refine w_dget ?_) | (with_reducible refine w_dput ?_) | (with_reducible refine w_listVals ?_) | (with_reducible refine w_dget2 ?_) | (with_reducible refine w_dpop2 ?_) | (with_reducible refine w_makeK ?_) | (with_reducible refine w_callN ?_))
local macro_rules | `(tactic| walk_at "wp") => `(tactic| repeat (walk_at "wp1"))

section
variable {P : Program} {w : World} {K : PySem.W.Frag} {mg : Str → Option Value} {base : Heap} {A : Ad}
end
end K38

namespace K38
open PySem L2 G
local macro_rules | `(tactic| walk_at "pos") => `(tactic| first | assumption | (decide +kernel) | omega)
local macro_rules | `(tactic| walk_at "bt") => `(tactic| first
  | assumption
  | (decide +kernel)
  | exact Bt.mono (by assumption) (by decide)
  | (refine' Bt.add ?b1 ?b2; (case b1 => walk_at "bt"); (case b2 => walk_at "bt"))
  | (refine' Bt.sub ?b1 ?b2; (case b1 => walk_at "bt"); (case b2 => walk_at "bt"))
  | (refine' Bt.mul ?b1 ?b2; (case b1 => walk_at "bt"); (case b2 => walk_at "bt"))
  | (refine' Bt.mod ?b1 ?b2; (case b2 => walk_at "bt"); (case b1 => walk_at "pos"))
  | (refine' Bt.div ?b1 ?b2; (case b2 => walk_at "bt"); (case b1 => walk_at "pos"))
  | (refine' Bt.pow3 ?b1; (case b1 => walk_at "bt"))
  | (refine' Bt.neg ?b1; (case b1 => walk_at "bt"))
  | exact Bt.any)
local macro_rules | `(tactic| walk_at "btm") => `(tactic| ((refine' Bt.mono ?m1 ?m2); (case m1 => walk_at "bt"); (case m2 => (decide +kernel))))
local macro_rules | `(tactic| walk_at "ne") => `(tactic| first
  | assumption
  | (refine' Ne.symm ?q1; (case q1 => assumption))
  | (refine' ne_of_none (by assumption) ?q1; (case q1 => assumption))
  | (refine' Ne.symm (ne_of_none (by assumption) ?q1); (case q1 => assumption)))
local macro_rules | `(tactic| walk_at "hp") => `(tactic| first
  | assumption
  | exact upd_same
  | ((refine' lst_same ?q1 (by assumption : Same _ _)); (case q1 => walk_at "hp"))
  | ((refine' (by assumption : Fr _ _ _) _ _ ?n ?h); (case n => walk_at "ne"); (case h => walk_at "hp"))
  | ((refine (upd_ne (by assumption)).trans ?_); walk_at "hp")
  | ((refine (upd_ne (Ne.symm (by assumption))).trans ?_); walk_at "hp"))
local macro_rules | `(tactic| walk_at "sr") => `(tactic| first
  | assumption
  | ((refine' Src.same ?q1 (by assumption : Same _ _)); (case q1 => walk_at "sr")))
local macro_rules | `(tactic| walk_at "rt") => `(tactic| first
  | assumption
  | ((refine' Rat.same ?q1 (by assumption : Same _ _)); (case q1 => walk_at "rt"))
  | ((refine' Rat.fr ?q1 ?q2 (by assumption : Fr _ _ _)); (case q2 => walk_at "sr"); (case q1 => walk_at "rt")))
local macro_rules | `(tactic| walk_at "tp") => `(tactic| first
  | assumption
  | ((refine' tup_same ?q1 (by assumption : Same _ _)); (case q1 => walk_at "tp"))
  | ((refine' tup_fr ?q1 ?q2 (by assumption : Fr _ _ _)); (case q2 => walk_at "sr"); (case q1 => walk_at "tp")))
local macro_rules | `(tactic| walk_at "ls") => `(tactic| first
  | assumption
  | ((refine' lst_same ?q1 (by assumption : Same _ _)); (case q1 => walk_at "ls"))
  | ((refine' lst_fr ?q1 ?q2 (by assumption : Fr _ _ _)); (case q2 => assumption); (case q1 => walk_at "ls")))
local macro_rules | `(tactic| walk_at "sm") => `(tactic| first
  | exact Same.refl _
  | assumption
  | ((refine Same.trans ?_ (by assumption : Same _ _)); walk_at "sm"))
local macro_rules | `(tactic| walk_at "fr") => `(tactic| first
  | exact Fr.refl _ _
  | assumption
  | ((refine Fr.trans ?_ (Fr.same (by assumption : Same _ _))); walk_at "fr")
  | ((refine Fr.trans ?_ (by assumption : Fr _ _ _)); walk_at "fr"))
local macro_rules | `(tactic| walk_at "wp1") => `(tactic| first
  | (with_reducible refine w_seq ?_) | (with_reducible refine w_next ?_) | (with_reducible refine w_ret ?_) | (with_reducible refine w_asg ?_) | (with_reducible refine w_gn ?_) | (with_reducible refine w_if ?_)
  | (with_reducible refine w_cons ?_) | (with_reducible refine w_nil ?_) | (with_reducible refine w_c ?_) | (with_reducible refine w_op ?_) | (with_reducible refine w_cb ?_)
  | ((with_reducible refine' w_var ?h ?_); (case h => exact rfl))
  | (with_reducible refine w_I0 ?_) | (with_reducible refine w_eqI ?_) | (with_reducible refine w_neI ?_) | (with_reducible refine w_test ?_) | (with_reducible refine w_tB ?_) | (with_reducible refine w_bl ?_) | (with_reducible refine w_par ?_) | (with_reducible refine w_par2 ?_) | (with_reducible refine w_par3 ?_) | (with_reducible refine w_three ?_)
  | (with_reducible refine w_not ?_) | (with_reducible refine w_and ?_) | (with_reducible refine w_or ?_) | (with_reducible refine w_andV ?_) | (with_reducible refine w_orV ?_) | (with_reducible refine w_notV ?_) | (with_reducible refine w_tif ?_)
  | (with_reducible refine w_tup ?_) | (with_reducible refine w_lst ?_) | (with_reducible refine w_un ?_) | (with_reducible refine w_U ?_) | (with_reducible refine w_drop ?_) | (with_reducible refine w_brk ?_) | (with_reducible refine w_cont ?_) | (with_reducible refine w_retN ?_)
  | (with_reducible refine w_call ?_) | (with_reducible refine w_fld ?_) | (with_reducible refine w_sfld ?_) | (with_reducible refine w_prop ?_) | (with_reducible refine w_make ?_) | (with_reducible refine w_meth ?_) | (with_reducible refine w_methN ?_) | (with_reducible refine w_revL ?_) | (with_reducible refine w_gsub ?_)
  | ((with_reducible refine' w_powN ?c1 ?c2 ?_); (case c2 => (decide +kernel)); (case c1 => exact rfl))
  | ((with_reducible refine' w_powV ?c1 ?c2 ?c3 ?c4 ?_); (case c2 => walk_at "bt"); (case c3 => (decide +kernel)); (case c4 => (decide +kernel)); (case c1 => exact rfl))
  | ((with_reducible refine' w_I (C := CMulW) ?c1 ?_); (case c1 => (refine' mulOk ?k1 ?k2 ?k3; (case k1 => walk_at "bt"); (case k2 => walk_at "bt"); (case k3 => decide +kernel))))
  | ((with_reducible refine' w_I (C := CDivW) ?c1 ?_); (case c1 => (refine' divOk ?k1 ?k2 ?k3; (case k1 => walk_at "pos"); (case k2 => walk_at "bt"); (case k3 => decide +kernel))))
  | ((with_reducible refine' w_I (C := fun _ j => 0 < j) ?c1 ?_); (case c1 => walk_at "pos"))
  | (with_reducible refine w_isB ?_) | (with_reducible refine w_notB ?_) | (with_reducible refine w_neS ?_) | (with_reducible refine w_eqS ?_)
  | (with_reducible refine w_iRng1 ?_) | (with_reducible refine w_for ?_) | (with_reducible refine w_iEnum ?_) | (with_reducible refine w_iList ?_) | (with_reducible refine w_iTup ?_) | (with_reducible refine w_noPart ?_) | (with_reducible refine w_part ?_) | (with_reducible refine w_int ?_)
  | (with_reducible refine w_sl ?_)
  | (with_reducible refine w_two ?_) | (with_reducible refine w_one ?_)
  | ((with_reducible refine' w_ixL ?hs ?he ?_); (case hs => first | (refine' SqL.of ?q0; (case q0 => walk_at "hp")) | assumption); (case he => exact rfl))
  | ((with_reducible refine' w_ixT ?hs ?he ?_); (case hs => first | (refine' SqT.of ?q0; (case q0 => walk_at "tp")) | assumption); (case he => exact rfl))
  | ((with_reducible refine' w_setL ?hs ?he ?_); (case hs => walk_at "hp"); (case he => exact rfl))
  | (with_reducible refine w_iteT rfl ?_) | (with_reducible refine w_iteF rfl ?_) | ((with_reducible refine w_alloc ?h ?_); (case h => exact rfl))
  | (with_reducible refine w_augS ?_) | (with_reducible refine w_ipI ?_) | (with_reducible refine w_exo1 ?_) | (with_reducible refine w_exoI ?_) | (with_reducible refine w_exoK ?_) | (with_reducible refine w_fldE ?_) | (with_reducible refine w_ost ?_) | (with_reducible refine w_makeS ?_) | (with_reducible refine w_methS ?_) | (with_reducible refine w_callS ?_) | (with_reducible refine w_bm ?_) | (with_reducible refine w_bm0 ?_) | (with_reducible refine w_din ?_) | (with_reducible refine w_dget ?_) | (with_reducible refine w_dput ?_) | (with_reducible refine w_listVals ?_) | (with_reducible refine w_dget2 ?_) | (with_reducible refine w_dpop2 ?_) | (with_reducible refine w_makeK ?_) | (with_reducible refine w_callN ?_))
local macro_rules | `(tactic| walk_at "wp") => `(tactic| repeat (walk_at "wp1"))

section
variable {P : Program} {w : World} {K : PySem.W.Frag} {mg : Str → Option Value} {base : Heap} {A : Ad}
theorem ok_is_whole (T : Txt K mg A) : FnOk P w K mg base CX0 1 A.a_is_whole A.d_is_whole ["value"] spWhole := by
  refine T.fun_is_whole.ok sc_is_whole (fun vs H Q E h => ?_) (fun cdv B outer s H vs Q E hr h => ?_)
  · obtain ⟨i, rfl, _⟩ := h
    rfl
  · obtain ⟨i, rfl, q⟩ := h
    refine ⟨_, (pss_one (ps_ret (pe_and (pe_callB call_isi (by rfl) T.z_isinstance (by decide +kernel) (pa_cons (pv 0) (pa_cons (pe_bltn (by rfl) T.z_int (by decide +kernel) (show RelV (.ty "int") _ from rfl)) pa_nil))) (pe_one (pe_not (pe_callB call_isi (by rfl) T.z_isinstance (by decide +kernel) (pa_cons (pv 0) (pa_cons (pe_bltn (by rfl) T.z_bool (by decide +kernel) (show RelV (.ty "bool") _ from rfl)) pa_nil)))))))), ?_⟩
    refine w_ret (w_andV (w_cb (w_cons (w_var rfl (w_cons (w_c (w_nil ?_)))))))
    refine ⟨_, _, _, _, true, rfl, .ty "int", .base (.int i), T.ki_int_int, true, rfl, ?_⟩
    refine w_iteT rfl (w_notV (w_cb (w_cons (w_var rfl (w_cons (w_c (w_nil ?_)))))))
    exact ⟨_, _, _, _, false, rfl, .ty "bool", .base (.int i), T.ki_int_bool, false, rfl, q⟩
theorem ok_is_whole_within (T : Txt K mg A) : FnOk P w K mg base CX0 2 A.a_is_whole_within A.d_is_whole_within ["value", "least", "most"] spWithin := by
  refine T.fun_is_whole_within.ok sc_is_whole_within (fun vs H Q E h => ?_) (fun cdv B outer s H vs Q E hr h => ?_)
  · obtain ⟨i, l, m, rfl, _⟩ := h
    rfl
  · obtain ⟨i, l, m, rfl, q⟩ := h
    refine ⟨_, (pss_one (ps_ret (pe_and (pe_call (ok_is_whole T) (hr.mono (by decide)) rfl T.mg_is_whole T.fun_is_whole.kp T.bd_is_whole .nil pass0 (pa_cons (pv 0) pa_nil)) (pe_and (pe_cmpR op_le (pv 1) (pv 0) (nomark _)) (pe_one (pe_cmpR op_le (pv 0) (pv 2) (nomark _))))))), ?_⟩
    walk_at "wp"
    refine ⟨i, rfl, ?_⟩
    walk_at "wp"
    refine w_ite (fun c => ?_) fun c => ?_
    · have c : l ≤ i := of_decide_eq_true c
      walk_at "wp"
      have e : decide (i ≤ m) = decide (l ≤ i ∧ i ≤ m) := decide_eq_decide.mpr ⟨fun h => ⟨c, h⟩, fun h => h.2⟩
      rw [e]
      exact q
    · have c : ¬ l ≤ i := of_decide_eq_false c
      have e : decide (l ≤ i ∧ i ≤ m) = false := decide_eq_false fun h => c h.1
      rw [e] at q
      exact q
theorem ok_is_list_within (T : Txt K mg A) : FnOk P w K mg base CX0 1 A.a_is_list_within A.d_is_list_within ["value", "least", "most"] (spListIn K) := by
  refine T.fun_is_list_within.ok sc_is_list_within (fun vs H Q E h => ?_) (fun cdv B outer s H vs Q E hr h => ?_)
  · obtain ⟨a, xs, l, m, rfl, _⟩ := h
    rfl
  · obtain ⟨a, xs, l, m, rfl, ha, hl, q⟩ := h
    refine ⟨_, (pss_one (ps_ret (pe_and (pe_cmpR op_isTyB (pe_callTy call_type1 (by rfl) T.z_type (by decide +kernel) (pa_cons (pv 0) pa_nil)) (pe_bltn (by rfl) T.z_list (by decide +kernel) (show RelV (.ty "list") _ from rfl)) (nomark _)) (pe_and (pe_cmpR op_le (pv 1) (pe_callB call_len (by rfl) T.z_len (by decide +kernel) (pa_cons (pv 0) pa_nil)) (nomark _)) (pe_one (pe_cmpR op_le (pe_callB call_len (by rfl) T.z_len (by decide +kernel) (pa_cons (pv 0) pa_nil)) (pv 2) (nomark _))))))), ?_⟩
    walk_at "wp"
    refine ⟨_, _, rfl, .lst (SqL.of ha), ?_⟩
    walk_at "wp"
    refine ⟨_, _, rfl, rfl, ?_⟩
    walk_at "wp"
    refine w_lenL (SqL.of ha) ?_
    walk_at "wp"
    refine w_ite (fun c => ?_) fun c => ?_
    · have c : l ≤ (xs.length : Int) := of_decide_eq_true c
      walk_at "wp"
      refine w_lenL (SqL.of ha) ?_
      walk_at "wp"
      have e : decide ((xs.length : Int) ≤ m) = decide (l ≤ (xs.length : Int) ∧ (xs.length : Int) ≤ m) := decide_eq_decide.mpr ⟨fun h => ⟨c, h⟩, fun h => h.2⟩
      rw [e]
      exact q
    · have c : ¬ l ≤ (xs.length : Int) := of_decide_eq_false c
      have e : decide (l ≤ (xs.length : Int) ∧ (xs.length : Int) ≤ m) = false := decide_eq_false fun h => c h.1
      rw [e] at q
      exact q
theorem ok_is_transfer (T : Txt K mg A) : FnOk P w K mg base CX0 3 A.a_is_transfer A.d_is_transfer ["value"] spTr := by
  refine T.fun_is_transfer.ok sc_is_transfer (fun vs H Q E h => ?_) (fun cdv B outer s H vs Q E hr h => ?_)
  · obtain ⟨v, x, rfl, _⟩ := h
    rfl
  · obtain ⟨v, x, rfl, ⟨r, rfl, hx⟩, g, q⟩ := h
    refine ⟨_, (pss_cons (ps_if (PW.pt (pw_or (pt_cmpR op_notTyB (pe_callTy call_type1 (by rfl) T.z_type (by decide +kernel) (pa_cons (pv 0) pa_nil)) (pe_bltn (by rfl) T.z_tuple (by decide +kernel) (show RelV (.ty "tuple") _ from rfl)) (nomark _)) (pw_or1 (pt_cmpR op_ne (pe_callB call_len (by rfl) T.z_len (by decide +kernel) (pa_cons (pv 0) pa_nil)) pe_int (nomark _))))) (pss_one (ps_ret pe_bl)) pss_nil)
 (pss_cons (ps_asg (pv 0) (pg_tup rfl (pgs_cons (pg_name (i := 1) (sc_is_transfer).nd rfl (Or.inl rfl)) (pgs_cons (pg_name (i := 2) (sc_is_transfer).nd rfl (Or.inl rfl)) (pgs_cons (pg_name (i := 3) (sc_is_transfer).nd rfl (Or.inl rfl)) pgs_nil)))))
 (pss_cons (ps_if (pt_not (pt_val (pe_callB (cr_all rfl) (by rfl) T.z_all (by decide +kernel) (pa_cons (pe_lc (own := [("vessel", 4)]) (g := gName 4) rfl (sc_is_transfer).nd (pi_list (pe_lst (pa_cons (pv 1) (pa_cons (pv 2) pa_nil)))) (blkOk_by (own := [("vessel", 4)]) (N := N_is_transfer) (sc := defScope s_is_transfer) (by decide +kernel)) (fun _ _ _ _ _ => (pg_name (i := 4) (sc_is_transfer).nd rfl (Or.inl rfl))) (fun _ _ _ _ _ => pts_nil) (fun _ _ _ _ _ => (pe_call (ok_is_whole_within T) (hr.mono (by decide)) rfl T.mg_is_whole_within T.fun_is_whole_within.kp T.bd_is_whole_within .nil pass0 (pa_cons (pv 4) (pa_cons pe_int (pa_cons (pe_op op_sub (pe_glob (v := .int 8) rfl T.gi_MOST_VESSELS.choose_spec ⟨_, rfl⟩) pe_int) pa_nil)))))) pa_nil)))) (pss_one (ps_ret pe_bl)) pss_nil)
 (pss_one (ps_ret (pe_and (pe_cmpR op_ne (pv 1) (pv 2) (nomark _)) (pe_one (pe_call (ok_is_whole_within T) (hr.mono (by decide)) rfl T.mg_is_whole_within T.fun_is_whole_within.kp T.bd_is_whole_within .nil pass0 (pa_cons (pv 3) (pa_cons pe_int (pa_cons (pe_glob (v := .int 1000000) rfl T.gi_MOST_DROPS.choose_spec ⟨_, rfl⟩) pa_nil))))))))))), ?_⟩
    obtain ⟨ga, gb, gc, gn⟩ := g
    walk_at "wp"
    refine ⟨_, _, rfl, .tup (SqT.of hx), ?_⟩
    walk_at "wp"
    refine ⟨_, _, rfl, rfl, ?_⟩
    walk_at "wp"
    refine w_lenT (SqT.of hx) ?_
    walk_at "wp"
    refine w_g3 (SqT.of hx) rfl ?_
    walk_at "wp"
    refine w_lc ?_
    walk_at "wp"
    intro l H1 n1 e1 h1
    refine ⟨l, rfl, ⟨_, SqL.of h1⟩, w_lcMap (O := fun _ v b => v = V.bl b) kept_val [true, true] h1 rfl (by show (2 : Nat) ≤ 1000; decide) ?_ ?_⟩
    · intro c u b H3 R' hu hb e3 r'
      obtain ⟨i, rfl, i0, rfl⟩ : ∃ i : Int, u = .int i ∧ (0 ≤ i ∧ i ≤ 7) ∧ b = true := by
        match c, hu, hb with
        | 0, hu, hb => cases hu; cases hb; exact ⟨_, rfl, by omega, rfl⟩
        | 1, hu, hb => cases hu; cases hb; exact ⟨_, rfl, by omega, rfl⟩
      walk_at "wp"
      refine ⟨i, 0, 7, rfl, ?_⟩
      rw [decide_eq_true i0]
      exact r' _ _ (Same.refl _) rfl
    · intro L acc H3 nL e3 hL ps
      rw [pl_bl ps] at hL
      walk_at "wp"
      refine ⟨L, _, rfl, SqL.of hL, ?_⟩
      walk_at "wp"
      refine w_iteT (by rw [decide_eq_false gn]; rfl) ?_
      walk_at "wp"
      refine ⟨x.2.2, 1, 1000000, rfl, ?_⟩
      rw [decide_eq_true gc]
      exact q _ (e1.trans e3)
theorem ok_is_transfers (T : Txt K mg A) : FnOk P w K mg base CX0 4 A.a_is_transfers A.d_is_transfers ["value"] spTrs := by
  refine T.fun_is_transfers.ok sc_is_transfers (fun vs H Q E h => ?_) (fun cdv B outer s H vs Q E hr h => ?_)
  · obtain ⟨a, xs, ts, rfl, _⟩ := h
    rfl
  · obtain ⟨a, xs, ts, rfl, ha, hT, g, hl, q⟩ := h
    refine ⟨_, (pss_one (ps_ret (pe_and (pe_call (ok_is_list_within T) (hr.mono (by decide)) rfl T.mg_is_list_within T.fun_is_list_within.kp T.bd_is_list_within .nil pass0 (pa_cons (pv 0) (pa_cons pe_int (pa_cons (pe_glob (v := .int 24) rfl T.gi_MOST_TRANSFERS.choose_spec ⟨_, rfl⟩) pa_nil)))) (pe_one (pe_callB (cr_all rfl) (by rfl) T.z_all (by decide +kernel) (pa_cons (pe_lc (own := [("transfer", 1)]) (g := gName 1) rfl (sc_is_transfers).nd (pi_list (pv 0)) (blkOk_by (own := [("transfer", 1)]) (N := N_is_transfers) (sc := defScope s_is_transfers) (by decide +kernel)) (fun _ _ _ _ _ => (pg_name (i := 1) (sc_is_transfers).nd rfl (Or.inl rfl))) (fun _ _ _ _ _ => pts_nil) (fun _ _ _ _ _ => (pe_call (ok_is_transfer T) (hr.mono (by decide)) rfl T.mg_is_transfer T.fun_is_transfer.kp T.bd_is_transfer .nil pass0 (pa_cons (pv 1) pa_nil)))) pa_nil)))))), ?_⟩
    have lx : xs.length = ts.length := hT.len
    walk_at "wp"
    refine ⟨a, xs, 0, 24, rfl, ha, by omega, ?_⟩
    rw [decide_eq_true (show (0 : Int) ≤ xs.length ∧ (xs.length : Int) ≤ 24 by omega)]
    walk_at "wp"
    refine w_lc ?_
    walk_at "wp"
    refine ⟨a, rfl, ⟨_, SqL.of ha⟩, w_lcMap (O := fun _ v b => v = V.bl b) kept_val (ts.map fun _ => true) ha (by rw [List.length_map]; exact lx) (by omega) ?_ ?_⟩
    · intro c u b H3 R' hu hb e3 r'
      obtain ⟨y, hy, oy⟩ := hT.get hu
      rw [List.getElem?_map, hy] at hb
      cases hb
      walk_at "wp"
      refine ⟨u, y, rfl, oy.same e3, g y (List.mem_of_getElem? hy), fun H4 e4 => ?_⟩
      exact r' _ _ e4 rfl
    · intro L acc H3 nL e3 hL ps
      rw [pl_bl ps] at hL
      walk_at "wp"
      refine ⟨L, _, rfl, SqL.of hL, ?_⟩
      rw [show ((ts.map fun _ => true).all id) = true from by rw [List.all_map]; exact List.all_eq_true.mpr fun _ _ => rfl]
      exact q _ e3
theorem ok_check_transfers (T : Txt K mg A) : FnOk P w K mg base CX0 5 A.a_check_transfers A.d_check_transfers ["transfers"] spCheckT := by
  refine T.fun_check_transfers.ok sc_check_transfers (fun vs H Q E h => ?_) (fun cdv B outer s H vs Q E hr h => ?_)
  · obtain ⟨a, xs, ts, rfl, _⟩ := h
    rfl
  · obtain ⟨a, xs, ts, rfl, ha, hT, g, hl, q⟩ := h
    refine ⟨_, (pss_one (ps_if (pt_not (pt_val (pe_call (ok_is_transfers T) (hr.mono (by decide)) rfl T.mg_is_transfers T.fun_is_transfers.kp T.bd_is_transfers .nil pass0 (pa_cons (pv 0) pa_nil)))) (pss_one ps_never) pss_nil)), ?_⟩
    walk_at "wp"
    refine ⟨a, xs, ts, rfl, ha, hT, g, hl, fun H1 e1 => ?_⟩
    walk_at "wp"
    exact q H1 e1
theorem ok_is_ratio (T : Txt K mg A) : FnOk P w K mg base CX0 1 A.a_is_ratio A.d_is_ratio ["value"] (spIsR K A.c_Ratio) := by
  refine T.fun_is_ratio.ok sc_is_ratio (fun vs H Q E h => ?_) (fun cdv B outer s H vs Q E hr h => ?_)
  · obtain ⟨x, t, b, rfl, _⟩ := h
    rfl
  · obtain ⟨x, t, b, rfl, ty, e, q⟩ := h
    refine ⟨_, (pss_one (ps_ret (pe_callB call_isi (by rfl) T.z_isinstance (by decide +kernel) (pa_cons (pv 0) (pa_cons (pe_glob (v := .ref A.c_Ratio) rfl T.mgc_Ratio rfl) pa_nil))))), ?_⟩
    refine w_ret (w_cb (w_cons (w_var rfl (w_cons (w_c (w_nil ?_))))))
    exact ⟨_, _, _, _, b, rfl, .own _, ty, e, q⟩
theorem ok_Ratio_init (T : Txt K mg A) : FnOk P w K mg base CX0 2 A.a_Ratio_init A.d_Ratio_init ["self", "top", "bottom"] (spInit A.c_Ratio) := by
  refine T.fun_Ratio_init.ok sc_Ratio_init (fun vs H Q E h => ?_) (fun cdv B outer s H vs Q E hr h => ?_)
  · obtain ⟨p, dx, i, j, rfl, _⟩ := h
    rfl
  · obtain ⟨p, dx, i, j, rfl, hj, hb, hp, q⟩ := h
    refine ⟨_, (pss_cons (ps_if (pt_not (pt_val (pe_call (ok_is_whole T) (hr.mono (by decide)) rfl T.mg_is_whole T.fun_is_whole.kp T.bd_is_whole .nil pass0 (pa_cons (pv 1) pa_nil)))) (pss_one ps_never) pss_nil)
 (pss_cons (ps_if (PW.pt (pw_or (pt_not (pt_val (pe_call (ok_is_whole T) (hr.mono (by decide)) rfl T.mg_is_whole T.fun_is_whole.kp T.bd_is_whole .nil pass0 (pa_cons (pv 2) pa_nil)))) (pw_or1 (pt_cmpR op_lt (pv 2) pe_int (nomark _))))) (pss_one ps_never) pss_nil)
 (pss_cons (ps_set (i := 3) (sc_Ratio_init).nd rfl (Or.inl rfl) (pe_callBfun cr_gcd rfl T.mgi_gcd (pa_cons (pv 1) (pa_cons (pv 2) pa_nil))))
 (pss_cons (ps_fld (pv 0) (pe_op op_fdivW (pv 1) (pv 3)) rfl)
 (pss_one (ps_fld (pv 0) (pe_op op_fdivW (pv 2) (pv 3)) rfl)))))), ?_⟩
    walk_at "wp"
    refine ⟨i, rfl, true, rfl, ?_⟩
    walk_at "wp"
    refine ⟨j, rfl, true, rfl, ?_⟩
    walk_at "wp"
    refine w_iteF (decide_eq_false (show ¬ j < 1 by omega)) ?_
    walk_at "wp"
    refine ⟨i, j, rfl, ?_⟩
    have g0 : (0 : Int) < (Int.gcd i j : Int) := by have := Int.gcd_pos_of_ne_zero_right i (show j ≠ 0 by omega); omega
    have gb : Bt 8000 (Int.gcd i j : Int) := hb.of_le (Nat.le_of_dvd (by omega) (Int.gcd_dvd_natAbs_right i j))
    have g0' : (0 : Int) < ((i.natAbs.gcd j.natAbs : Nat) : Int) := g0
    have gb' : Bt 8000 ((i.natAbs.gcd j.natAbs : Nat) : Int) := gb
    walk_at "wp"
    refine w_sfld1 hp T.cl_Ratio T.na_Ratio_top (by show 0 < 1000; decide) ?_
    walk_at "wp"
    refine w_sfld1 upd_same T.cl_Ratio T.na_Ratio_bottom (by show 1 < 1000; decide) ?_
    rw [upd_twice]
    exact q
/-! ### how a ratio is made -/
theorem b2_Ratio (T : Txt K mg A) : ∃ ds, Vals [] ds ∧ Binds K A.d_Ratio_init ["self", "top", "bottom"] ds :=
  T.fun_Ratio_init.binds1 3 1 (by simp) (by decide) fun _ _ _ _ _ _ _ us its h1 h2 => match us, its, h1, h2 with | [_, _, _], [_], _, _ => ⟨_, rfl, rfl⟩
theorem b1_Ratio (T : Txt K mg A) : ∃ ds, Vals [.int 1] ds ∧ Binds K A.d_Ratio_init ["self", "top", "bottom"] ds :=
  T.fun_Ratio_init.binds1 2 0 (by simp) (by decide) fun _ _ _ _ _ _ _ us its h1 h2 => match us, its, h1, h2 with | [_, _], [_], _, _ => ⟨_, rfl, rfl⟩
theorem kb_tb (T : Txt K mg A) : ∃ its : List Value, KBn K A.d_Ratio_init ["self", "top", "bottom"] 1 ["top", "bottom"] (fun us ws => us ++ ws) (fun vs zs => vs ++ zs) :=
  T.fun_Ratio_init.kbindsD 1 ["top", "bottom"] (fun us _ ws => us ++ ws) (by simp) (fun r1 _ r3 => r1.append r3) fun _ _ _ _ _ _ _ us its ws h1 h2 h3 => match us, its, ws, h1, h2, h3 with | [_], [_], [_, _], _, _, _ => ⟨_, rfl, rfl⟩
theorem kb_bt (T : Txt K mg A) : ∃ its : List Value, KBn K A.d_Ratio_init ["self", "top", "bottom"] 1 ["bottom", "top"] (fun us ws => us ++ ws.reverse) (fun vs zs => vs ++ zs.reverse) :=
  T.fun_Ratio_init.kbindsD 1 ["bottom", "top"] (fun us _ ws => us ++ ws.reverse) (by simp) (fun r1 _ r3 => r1.append r3.reverse) fun _ _ _ _ _ _ _ us its ws h1 h2 h3 => match us, its, ws, h1, h2, h3 with | [_], [_], [_, _], _, _, _ => ⟨_, rfl, rfl⟩
theorem kb_t (T : Txt K mg A) : ∃ its : List Value, KBn K A.d_Ratio_init ["self", "top", "bottom"] 1 ["top"] (fun us ws => us ++ ws ++ its) (fun vs zs => vs ++ zs ++ [.int 1]) :=
  T.fun_Ratio_init.kbindsD 1 ["top"] (fun us its ws => us ++ ws ++ its) (by simp) (fun r1 r2 r3 => (r1.append r3).append r2) fun _ _ _ _ _ _ _ us its ws h1 h2 h3 => match us, its, ws, h1, h2, h3 with | [_], [_], [_], _, _, _ => ⟨_, rfl, rfl⟩
theorem kb_is_ratio_value (T : Txt K mg A) : KBn K A.d_is_ratio ["value"] 0 ["value"] (fun _ ws => ws) (fun _ zs => zs) := by
  obtain ⟨oc, od, kV, doc, pm, an, cdv, ct, osl, e, _⟩ := T.fun_is_ratio.ex
  rw [e]
  exact kbn_all fun ws h => match ws, h with | [_], _ => rfl
theorem ins_ty (T : Txt K mg A) : InsTy K A.c_Ratio := fun _ _ _ _ h => .base (.ins h T.cl_Ratio T.cc_Ratio T.sg_ T.st_ T.mo_Ratio)
/-! ### the operators of ratios -/
theorem ok_Ratio_add (T : Txt K mg A) : FnOk P w K mg base CX0 4 A.a_Ratio_add A.d_Ratio_add ["self", "other"] (spBin A.c_Ratio 0) := by
  refine T.fun_Ratio_add.ok sc_Ratio_add (fun vs H Q E h => ?_) (fun cdv B outer s H vs Q E hr h => ?_)
  · obtain ⟨p, q, x, y, n, rfl, _⟩ := h
    rfl
  · obtain ⟨p, q, x, y, n, rfl, ⟨dx, hp⟩, ⟨dy, hq⟩, hx, hy, hn, k⟩ := h
    refine ⟨_, (pss_cons (ps_if (pt_not (pt_val (pe_callB call_isi (by rfl) T.z_isinstance (by decide +kernel) (pa_cons (pv 1) (pa_cons (pe_glob (v := .ref A.c_Ratio) rfl T.mgc_Ratio rfl) pa_nil))))) (pss_one ps_never) pss_nil)
 (pss_cons (ps_set (i := 2) (sc_Ratio_add).nd rfl (Or.inl rfl) (pe_op op_add (pe_op op_mulW (pe_fld (pv 0) rfl) (pe_fld (pv 1) rfl)) (pe_op op_mulW (pe_fld (pv 1) rfl) (pe_fld (pv 0) rfl))))
 (pss_one (ps_ret (pe_make T.mk_Ratio (ok_Ratio_init T) (hr.mono (by decide)) rfl T.mgc_Ratio (b2_Ratio T).choose_spec.2 (b2_Ratio T).choose_spec.1 pass0 (pa_cons (pv 2) (pa_cons (pe_op op_mulW (pe_fld (pv 0) rfl) (pe_fld (pv 1) rfl)) pa_nil))))))), ?_⟩
    obtain ⟨x1, x2, x3, x4⟩ := hx
    obtain ⟨y1, y2, y3, y4⟩ := hy
    walk_at "wp"
    refine ⟨_, _, _, _, true, rfl, .own _, .base (.ins hq T.cl_Ratio T.cc_Ratio T.sg_ T.st_ T.mo_Ratio), T.ki_Ratio_Ratio, ?_⟩
    walk_at "wp"
    have a1 := x3.mono (show n ≤ 3500 by omega)
    have a2 := x4.mono (show n ≤ 3500 by omega)
    have b1 := y3.mono (show n ≤ 3500 by omega)
    have b2 := y4.mono (show n ≤ 3500 by omega)
    clear x3 x4 y3 y4
    refine w_fld1 hp T.cl_Ratio T.na_Ratio_top (rf_top _ _) ?_
    walk_at "wp"
    refine w_fld1 hq T.cl_Ratio T.na_Ratio_bottom (rf_bottom _ _) ?_
    walk_at "wp"
    refine w_fld1 hq T.cl_Ratio T.na_Ratio_top (rf_top _ _) ?_
    walk_at "wp"
    refine w_fld1 hp T.cl_Ratio T.na_Ratio_bottom (rf_bottom _ _) ?_
    walk_at "wp"
    refine w_fld1 hp T.cl_Ratio T.na_Ratio_bottom (rf_bottom _ _) ?_
    walk_at "wp"
    refine w_fld1 hq T.cl_Ratio T.na_Ratio_bottom (rf_bottom _ _) ?_
    walk_at "wp"
    refine ratio_of (Int.mul_pos x1 y1) (Bt.mono (Bt.mul a2 b2) (by decide)) fun r H1 hr1 e1 R => ?_
    exact k r H1 hr1 e1 (by rw [jn_add]; exact R)
theorem ok_Ratio_sub (T : Txt K mg A) : FnOk P w K mg base CX0 4 A.a_Ratio_sub A.d_Ratio_sub ["self", "other"] (spBin A.c_Ratio 1) := by
  refine T.fun_Ratio_sub.ok sc_Ratio_sub (fun vs H Q E h => ?_) (fun cdv B outer s H vs Q E hr h => ?_)
  · obtain ⟨p, q, x, y, n, rfl, _⟩ := h
    rfl
  · obtain ⟨p, q, x, y, n, rfl, ⟨dx, hp⟩, ⟨dy, hq⟩, hx, hy, hn, k⟩ := h
    refine ⟨_, (pss_cons (ps_if (pt_not (pt_val (pe_callB call_isi (by rfl) T.z_isinstance (by decide +kernel) (pa_cons (pv 1) (pa_cons (pe_glob (v := .ref A.c_Ratio) rfl T.mgc_Ratio rfl) pa_nil))))) (pss_one ps_never) pss_nil)
 (pss_cons (ps_set (i := 2) (sc_Ratio_sub).nd rfl (Or.inl rfl) (pe_op op_sub (pe_op op_mulW (pe_fld (pv 0) rfl) (pe_fld (pv 1) rfl)) (pe_op op_mulW (pe_fld (pv 1) rfl) (pe_fld (pv 0) rfl))))
 (pss_one (ps_ret (pe_make T.mk_Ratio (ok_Ratio_init T) (hr.mono (by decide)) rfl T.mgc_Ratio (b2_Ratio T).choose_spec.2 (b2_Ratio T).choose_spec.1 pass0 (pa_cons (pv 2) (pa_cons (pe_op op_mulW (pe_fld (pv 0) rfl) (pe_fld (pv 1) rfl)) pa_nil))))))), ?_⟩
    obtain ⟨x1, x2, x3, x4⟩ := hx
    obtain ⟨y1, y2, y3, y4⟩ := hy
    walk_at "wp"
    refine ⟨_, _, _, _, true, rfl, .own _, .base (.ins hq T.cl_Ratio T.cc_Ratio T.sg_ T.st_ T.mo_Ratio), T.ki_Ratio_Ratio, ?_⟩
    walk_at "wp"
    have a1 := x3.mono (show n ≤ 3500 by omega)
    have a2 := x4.mono (show n ≤ 3500 by omega)
    have b1 := y3.mono (show n ≤ 3500 by omega)
    have b2 := y4.mono (show n ≤ 3500 by omega)
    clear x3 x4 y3 y4
    refine w_fld1 hp T.cl_Ratio T.na_Ratio_top (rf_top _ _) ?_
    walk_at "wp"
    refine w_fld1 hq T.cl_Ratio T.na_Ratio_bottom (rf_bottom _ _) ?_
    walk_at "wp"
    refine w_fld1 hq T.cl_Ratio T.na_Ratio_top (rf_top _ _) ?_
    walk_at "wp"
    refine w_fld1 hp T.cl_Ratio T.na_Ratio_bottom (rf_bottom _ _) ?_
    walk_at "wp"
    refine w_fld1 hp T.cl_Ratio T.na_Ratio_bottom (rf_bottom _ _) ?_
    walk_at "wp"
    refine w_fld1 hq T.cl_Ratio T.na_Ratio_bottom (rf_bottom _ _) ?_
    walk_at "wp"
    refine ratio_of (Int.mul_pos x1 y1) (Bt.mono (Bt.mul a2 b2) (by decide)) fun r H1 hr1 e1 R => ?_
    exact k r H1 hr1 e1 (by rw [jn_sub]; exact R)
theorem ok_Ratio_mul (T : Txt K mg A) : FnOk P w K mg base CX0 4 A.a_Ratio_mul A.d_Ratio_mul ["self", "other"] (spBin A.c_Ratio 2) := by
  refine T.fun_Ratio_mul.ok sc_Ratio_mul (fun vs H Q E h => ?_) (fun cdv B outer s H vs Q E hr h => ?_)
  · obtain ⟨p, q, x, y, n, rfl, _⟩ := h
    rfl
  · obtain ⟨p, q, x, y, n, rfl, ⟨dx, hp⟩, ⟨dy, hq⟩, hx, hy, hn, k⟩ := h
    refine ⟨_, (pss_cons (ps_if (pt_not (pt_val (pe_callB call_isi (by rfl) T.z_isinstance (by decide +kernel) (pa_cons (pv 1) (pa_cons (pe_glob (v := .ref A.c_Ratio) rfl T.mgc_Ratio rfl) pa_nil))))) (pss_one ps_never) pss_nil)
 (pss_one (ps_ret (pe_make T.mk_Ratio (ok_Ratio_init T) (hr.mono (by decide)) rfl T.mgc_Ratio (b2_Ratio T).choose_spec.2 (b2_Ratio T).choose_spec.1 pass0 (pa_cons (pe_op op_mulW (pe_fld (pv 0) rfl) (pe_fld (pv 1) rfl)) (pa_cons (pe_op op_mulW (pe_fld (pv 0) rfl) (pe_fld (pv 1) rfl)) pa_nil)))))), ?_⟩
    obtain ⟨x1, x2, x3, x4⟩ := hx
    obtain ⟨y1, y2, y3, y4⟩ := hy
    walk_at "wp"
    refine ⟨_, _, _, _, true, rfl, .own _, .base (.ins hq T.cl_Ratio T.cc_Ratio T.sg_ T.st_ T.mo_Ratio), T.ki_Ratio_Ratio, ?_⟩
    walk_at "wp"
    have a1 := x3.mono (show n ≤ 3500 by omega)
    have a2 := x4.mono (show n ≤ 3500 by omega)
    have b1 := y3.mono (show n ≤ 3500 by omega)
    have b2 := y4.mono (show n ≤ 3500 by omega)
    clear x3 x4 y3 y4
    refine w_fld1 hp T.cl_Ratio T.na_Ratio_top (rf_top _ _) ?_
    walk_at "wp"
    refine w_fld1 hq T.cl_Ratio T.na_Ratio_top (rf_top _ _) ?_
    walk_at "wp"
    refine w_fld1 hp T.cl_Ratio T.na_Ratio_bottom (rf_bottom _ _) ?_
    walk_at "wp"
    refine w_fld1 hq T.cl_Ratio T.na_Ratio_bottom (rf_bottom _ _) ?_
    walk_at "wp"
    refine ratio_of (Int.mul_pos x1 y1) (Bt.mono (Bt.mul a2 b2) (by decide)) fun r H1 hr1 e1 R => ?_
    exact k r H1 hr1 e1 (by rw [jn_mul]; exact R)
theorem ok_Ratio_neg (T : Txt K mg A) : FnOk P w K mg base CX0 4 A.a_Ratio_neg A.d_Ratio_neg ["self"] (spNeg A.c_Ratio) := by
  refine T.fun_Ratio_neg.ok sc_Ratio_neg (fun vs H Q E h => ?_) (fun cdv B outer s H vs Q E hr h => ?_)
  · obtain ⟨p, x, n, rfl, _⟩ := h
    rfl
  · obtain ⟨p, x, n, rfl, ⟨dx, hp⟩, hx, hn, k⟩ := h
    refine ⟨_, (pss_one (ps_ret (pe_make T.mk_Ratio (ok_Ratio_init T) (hr.mono (by decide)) rfl T.mgc_Ratio (b2_Ratio T).choose_spec.2 (b2_Ratio T).choose_spec.1 pass0 (pa_cons (pe_un un_neg (pe_fld (pv 0) rfl)) (pa_cons (pe_fld (pv 0) rfl) pa_nil))))), ?_⟩
    walk_at "wp"
    refine w_fld1 hp T.cl_Ratio T.na_Ratio_top (rf_top _ _) ?_
    walk_at "wp"
    refine w_fld1 hp T.cl_Ratio T.na_Ratio_bottom (rf_bottom _ _) ?_
    walk_at "wp"
    refine ratio_of hx.1 (hx.2.2.2.mono (by omega)) fun r H1 hr1 e1 R => ?_
    refine k r H1 hr1 e1 ?_
    have g : Int.gcd (-x.1) x.2 = 1 := by rw [Int.neg_gcd]; exact hx.2.1
    rw [g] at R
    have e1 : -x.1 / ((1 : Nat) : Int) = -x.1 := Int.ediv_one _
    have e2 : x.2 / ((1 : Nat) : Int) = x.2 := Int.ediv_one _
    rw [e1, e2] at R
    exact R
theorem ok_Ratio_eq (T : Txt K mg A) : FnOk P w K mg base CX0 4 A.a_Ratio_eq A.d_Ratio_eq ["self", "other"] (spEq K A.c_Ratio) := by
  refine T.fun_Ratio_eq.ok sc_Ratio_eq (fun vs H Q E h => ?_) (fun cdv B outer s H vs Q E hr h => ?_)
  · rcases h with ⟨p, q, x, y, rfl, _⟩ | ⟨p, x, v, t, rfl, _⟩
    · rfl
    · rfl
  · refine ⟨_, (pss_one (ps_ret (pe_and (pe_callB call_isi (by rfl) T.z_isinstance (by decide +kernel) (pa_cons (pv 1) (pa_cons (pe_glob (v := .ref A.c_Ratio) rfl T.mgc_Ratio rfl) pa_nil))) (pe_and (pe_cmpR op_eq (pe_fld (pv 0) rfl) (pe_fld (pv 1) rfl) (nomark _)) (pe_one (pe_cmpR op_eq (pe_fld (pv 0) rfl) (pe_fld (pv 1) rfl) (nomark _))))))), ?_⟩
    rcases h with ⟨p, q, x, y, rfl, ⟨dx, hp⟩, ⟨dy, hq⟩, k⟩ | ⟨p, x, v, t, rfl, ⟨dx, hp⟩, ty, ki, k⟩
    · walk_at "wp"
      refine ⟨_, _, _, _, true, rfl, .own _, .base (.ins hq T.cl_Ratio T.cc_Ratio T.sg_ T.st_ T.mo_Ratio), T.ki_Ratio_Ratio, ?_⟩
      walk_at "wp"
      refine w_fld1 hp T.cl_Ratio T.na_Ratio_top (rf_top _ _) ?_
      walk_at "wp"
      refine w_fld1 hq T.cl_Ratio T.na_Ratio_top (rf_top _ _) ?_
      walk_at "wp"
      refine w_ite (fun c => ?_) fun c => ?_
      · have c : x.1 = y.1 := of_decide_eq_true c
        walk_at "wp"
        refine w_fld1 hp T.cl_Ratio T.na_Ratio_bottom (rf_bottom _ _) ?_
        walk_at "wp"
        refine w_fld1 hq T.cl_Ratio T.na_Ratio_bottom (rf_bottom _ _) ?_
        walk_at "wp"
        have e : decide (x.2 = y.2) = decide (x = y) := by
          by_cases h : x.2 = y.2
          · rw [decide_eq_true h, decide_eq_true (Prod.ext c h)]
          · rw [decide_eq_false h, decide_eq_false fun z => h (by rw [z])]
        rw [e]
        exact k
      · have c : ¬ x.1 = y.1 := of_decide_eq_false c
        have e : decide (x = y) = false := decide_eq_false fun z => c (by rw [z])
        rw [e] at k
        exact k
    · walk_at "wp"
      refine ⟨_, _, _, _, false, rfl, .own _, ty, ki, ?_⟩
      walk_at "wp"
      exact k
def spLess (C : Addr) : Sp := fun vs H Q _ => ∃ p q x y n, vs = [.ref p, .ref q] ∧ Rat C H p x.1 x.2 ∧ Rat C H q y.1 y.2 ∧ Lp n x ∧ Lp n y ∧ n ≤ 7000 ∧ Q (.bl (decide (x.1 * y.2 < y.1 * x.2))) H
theorem kb_is_less (T : Txt K mg A) : KBn K A.d_Ratio_is_less ["self", "other"] 1 ["other"] (fun us ws => us ++ ws) (fun vs zs => vs ++ zs) := by
  obtain ⟨oc, od, kV, doc, pm, an, cdv, ct, osl, e, _⟩ := T.fun_Ratio_is_less.ex
  rw [e]
  exact kbn_self fun us ws h1 h2 => match us, ws, h1, h2 with | [_], [_], _, _ => rfl
theorem ok_Ratio_is_less (T : Txt K mg A) : FnOk P w K mg base CX0 4 A.a_Ratio_is_less A.d_Ratio_is_less ["self", "other"] (spLess A.c_Ratio) := by
  refine T.fun_Ratio_is_less.ok sc_Ratio_is_less (fun vs H Q E h => ?_) (fun cdv B outer s H vs Q E hr h => ?_)
  · obtain ⟨p, q, x, y, n, rfl, _⟩ := h
    rfl
  · obtain ⟨p, q, x, y, n, rfl, ⟨dx, hp⟩, ⟨dy, hq⟩, hx, hy, hn, k⟩ := h
    refine ⟨_, (pss_cons (ps_if (pt_not (pt_val (pe_call (ok_is_ratio T) (hr.mono (by decide)) rfl T.mg_is_ratio T.fun_is_ratio.kp T.bd_is_ratio .nil pass0 (pa_cons (pv 1) pa_nil)))) (pss_one ps_never) pss_nil)
 (pss_one (ps_ret (pe_cmpR op_lt (pe_op op_mulW (pe_fld (pv 0) rfl) (pe_fld (pv 1) rfl)) (pe_op op_mulW (pe_fld (pv 1) rfl) (pe_fld (pv 0) rfl)) (nomark _))))), ?_⟩
    have IT := ins_ty T
    obtain ⟨x1, x2, x3, x4⟩ := hx
    obtain ⟨y1, y2, y3, y4⟩ := hy
    have a1 := x3.mono (show n ≤ 7000 by omega)
    have a2 := x4.mono (show n ≤ 7000 by omega)
    have b1 := y3.mono (show n ≤ 7000 by omega)
    have b2 := y4.mono (show n ≤ 7000 by omega)
    clear x3 x4 y3 y4
    walk_at "wp"
    refine w_isR IT T.ki_Ratio_Ratio ⟨dy, hq⟩ ?_
    walk_at "wp"
    refine w_fld1 hp T.cl_Ratio T.na_Ratio_top (rf_top _ _) ?_
    walk_at "wp"
    refine w_fld1 hq T.cl_Ratio T.na_Ratio_bottom (rf_bottom _ _) ?_
    walk_at "wp"
    refine w_fld1 hq T.cl_Ratio T.na_Ratio_top (rf_top _ _) ?_
    walk_at "wp"
    refine w_fld1 hp T.cl_Ratio T.na_Ratio_bottom (rf_bottom _ _) ?_
    walk_at "wp"
    exact k
end
end K38

namespace K38
open PySem L2 G
local macro_rules | `(tactic| walk_at "pos") => `(tactic| first | assumption | (decide +kernel) | omega)
local macro_rules | `(tactic| walk_at "bt") => `(tactic| first
  | assumption
  | (decide +kernel)
  | exact Bt.mono (by assumption) (by decide)
  | (refine' Bt.add ?b1 ?b2; (case b1 => walk_at "bt"); (case b2 => walk_at "bt"))
  | (refine' Bt.sub ?b1 ?b2; (case b1 => walk_at "bt"); (case b2 => walk_at "bt"))
  | (refine' Bt.mul ?b1 ?b2; (case b1 => walk_at "bt"); (case b2 => walk_at "bt"))
  | (refine' Bt.mod ?b1 ?b2; (case b2 => walk_at "bt"); (case b1 => walk_at "pos"))
  | (refine' Bt.div ?b1 ?b2; (case b2 => walk_at "bt"); (case b1 => walk_at "pos"))
  | (refine' Bt.pow3 ?b1; (case b1 => walk_at "bt"))
  | (refine' Bt.neg ?b1; (case b1 => walk_at "bt"))
  | exact Bt.any)
local macro_rules | `(tactic| walk_at "btm") => `(tactic| ((refine' Bt.mono ?m1 ?m2); (case m1 => walk_at "bt"); (case m2 => (decide +kernel))))
local macro_rules | `(tactic| walk_at "ne") => `(tactic| first
  | assumption
  | (refine' Ne.symm ?q1; (case q1 => assumption))
  | (refine' ne_of_none (by assumption) ?q1; (case q1 => assumption))
  | (refine' Ne.symm (ne_of_none (by assumption) ?q1); (case q1 => assumption)))
local macro_rules | `(tactic| walk_at "hp") => `(tactic| first
  | assumption
  | exact upd_same
  | ((refine' lst_same ?q1 (by assumption : Same _ _)); (case q1 => walk_at "hp"))
  | ((refine' (by assumption : Fr _ _ _) _ _ ?n ?h); (case n => walk_at "ne"); (case h => walk_at "hp"))
  | ((refine (upd_ne (by assumption)).trans ?_); walk_at "hp")
  | ((refine (upd_ne (Ne.symm (by assumption))).trans ?_); walk_at "hp"))
local macro_rules | `(tactic| walk_at "sr") => `(tactic| first
  | assumption
  | ((refine' Src.same ?q1 (by assumption : Same _ _)); (case q1 => walk_at "sr")))
local macro_rules | `(tactic| walk_at "rt") => `(tactic| first
  | assumption
  | ((refine' Rat.same ?q1 (by assumption : Same _ _)); (case q1 => walk_at "rt"))
  | ((refine' Rat.fr ?q1 ?q2 (by assumption : Fr _ _ _)); (case q2 => walk_at "sr"); (case q1 => walk_at "rt")))
local macro_rules | `(tactic| walk_at "tp") => `(tactic| first
  | assumption
  | ((refine' tup_same ?q1 (by assumption : Same _ _)); (case q1 => walk_at "tp"))
  | ((refine' tup_fr ?q1 ?q2 (by assumption : Fr _ _ _)); (case q2 => walk_at "sr"); (case q1 => walk_at "tp")))
local macro_rules | `(tactic| walk_at "ls") => `(tactic| first
  | assumption
  | ((refine' lst_same ?q1 (by assumption : Same _ _)); (case q1 => walk_at "ls"))
  | ((refine' lst_fr ?q1 ?q2 (by assumption : Fr _ _ _)); (case q2 => assumption); (case q1 => walk_at "ls")))
local macro_rules | `(tactic| walk_at "sm") => `(tactic| first
  | exact Same.refl _
  | assumption
  | ((refine Same.trans ?_ (by assumption : Same _ _)); walk_at "sm"))
local macro_rules | `(tactic| walk_at "fr") => `(tactic| first
  | exact Fr.refl _ _
  | assumption
  | ((refine Fr.trans ?_ (Fr.same (by assumption : Same _ _))); walk_at "fr")
  | ((refine Fr.trans ?_ (by assumption : Fr _ _ _)); walk_at "fr"))
local macro_rules | `(tactic| walk_at "wp1") => `(tactic| first
  | (with_reducible refine w_seq ?_) | (with_reducible refine w_next ?_) | (with_reducible refine w_ret ?_) | (with_reducible refine w_asg ?_) | (with_reducible refine w_gn ?_) | (with_reducible refine w_if ?_)
  | (with_reducible refine w_cons ?_) | (with_reducible refine w_nil ?_) | (with_reducible refine w_c ?_) | (with_reducible refine w_op ?_) | (with_reducible refine w_cb ?_)
  | ((with_reducible refine' w_var ?h ?_); (case h => exact rfl))
  | (with_reducible refine w_I0 ?_) | (with_reducible refine w_eqI ?_) | (with_reducible refine w_neI ?_) | (with_reducible refine w_test ?_) | (with_reducible refine w_tB ?_) | (with_reducible refine w_bl ?_) | (with_reducible refine w_par ?_) | (with_reducible refine w_par2 ?_) | (with_reducible refine w_par3 ?_) | (with_reducible refine w_three ?_)
  | (with_reducible refine w_not ?_) | (with_reducible refine w_and ?_) | (with_reducible refine w_or ?_) | (with_reducible refine w_andV ?_) | (with_reducible refine w_orV ?_) | (with_reducible refine w_notV ?_) | (with_reducible refine w_tif ?_)
  | (with_reducible refine w_tup ?_) | (with_reducible refine w_lst ?_) | (with_reducible refine w_un ?_) | (with_reducible refine w_U ?_) | (with_reducible refine w_drop ?_) | (with_reducible refine w_brk ?_) | (with_reducible refine w_cont ?_) | (with_reducible refine w_retN ?_)
  | (with_reducible refine w_call ?_) | (with_reducible refine w_fld ?_) | (with_reducible refine w_sfld ?_) | (with_reducible refine w_prop ?_) | (with_reducible refine w_make ?_) | (with_reducible refine w_meth ?_) | (with_reducible refine w_methN ?_) | (with_reducible refine w_revL ?_) | (with_reducible refine w_gsub ?_)
  | ((with_reducible refine' w_powN ?c1 ?c2 ?_); (case c2 => (decide +kernel)); (case c1 => exact rfl))
  | ((with_reducible refine' w_powV ?c1 ?c2 ?c3 ?c4 ?_); (case c2 => walk_at "bt"); (case c3 => (decide +kernel)); (case c4 => (decide +kernel)); (case c1 => exact rfl))
  | ((with_reducible refine' w_I (C := CMulW) ?c1 ?_); (case c1 => (refine' mulOk ?k1 ?k2 ?k3; (case k1 => walk_at "bt"); (case k2 => walk_at "bt"); (case k3 => decide +kernel))))
  | ((with_reducible refine' w_I (C := CDivW) ?c1 ?_); (case c1 => (refine' divOk ?k1 ?k2 ?k3; (case k1 => walk_at "pos"); (case k2 => walk_at "bt"); (case k3 => decide +kernel))))
  | ((with_reducible refine' w_I (C := fun _ j => 0 < j) ?c1 ?_); (case c1 => walk_at "pos"))
  | (with_reducible refine w_isB ?_) | (with_reducible refine w_notB ?_) | (with_reducible refine w_neS ?_) | (with_reducible refine w_eqS ?_)
  | (with_reducible refine w_iRng1 ?_) | (with_reducible refine w_for ?_) | (with_reducible refine w_iEnum ?_) | (with_reducible refine w_iList ?_) | (with_reducible refine w_iTup ?_) | (with_reducible refine w_noPart ?_) | (with_reducible refine w_part ?_) | (with_reducible refine w_int ?_)
  | (with_reducible refine w_sl ?_)
  | (with_reducible refine w_two ?_) | (with_reducible refine w_one ?_)
  | ((with_reducible refine' w_ixL ?hs ?he ?_); (case hs => first | (refine' SqL.of ?q0; (case q0 => walk_at "hp")) | assumption); (case he => exact rfl))
  | ((with_reducible refine' w_ixT ?hs ?he ?_); (case hs => first | (refine' SqT.of ?q0; (case q0 => walk_at "tp")) | assumption); (case he => exact rfl))
  | ((with_reducible refine' w_setL ?hs ?he ?_); (case hs => walk_at "hp"); (case he => exact rfl))
  | (with_reducible refine w_iteT rfl ?_) | (with_reducible refine w_iteF rfl ?_) | ((with_reducible refine w_alloc ?h ?_); (case h => exact rfl))
  | (with_reducible refine w_augS ?_) | (with_reducible refine w_ipI ?_) | (with_reducible refine w_exo1 ?_) | (with_reducible refine w_exoI ?_) | (with_reducible refine w_exoK ?_) | (with_reducible refine w_fldE ?_) | (with_reducible refine w_ost ?_) | (with_reducible refine w_makeS ?_) | (with_reducible refine w_methS ?_) | (with_reducible refine w_callS ?_) | (with_reducible refine w_bm ?_) | (with_reducible refine w_bm0 ?_) | (with_reducible refine w_din ?_) | (with_reducible refine w_dget ?_) | (with_reducible refine w_dput ?_) | (with_reducible refine w_listVals ?_) | (with_reducible refine w_dget2 ?_) | (with_reducible refine w_dpop2 ?_) | (with_reducible refine w_makeK ?_) | (with_reducible refine w_callN ?_))
local macro_rules | `(tactic| walk_at "wp") => `(tactic| repeat (walk_at "wp1"))

section
variable {P : Program} {w : World} {K : PySem.W.Frag} {mg : Str → Option Value} {base : Heap} {A : Ad}
theorem ok_is_volumes (T : Txt K mg A) : FnOk P w K mg base CX0 3 A.a_is_volumes A.d_is_volumes ["value"] spVl := by
  refine T.fun_is_volumes.ok sc_is_volumes (fun vs H Q E h => ?_) (fun cdv B outer s H vs Q E hr h => ?_)
  · obtain ⟨a, ns, rfl, _⟩ := h
    rfl
  · obtain ⟨a, ns, rfl, hv, q⟩ := h
    refine ⟨_, (pss_cons (ps_if (pt_not (pt_val (pe_call (ok_is_list_within T) (hr.mono (by decide)) rfl T.mg_is_list_within T.fun_is_list_within.kp T.bd_is_list_within .nil pass0 (pa_cons (pv 0) (pa_cons pe_int (pa_cons (pe_glob (v := .int 8) rfl T.gi_MOST_VESSELS.choose_spec ⟨_, rfl⟩) pa_nil)))))) (pss_one (ps_ret pe_bl)) pss_nil)
 (pss_one (ps_ret (pe_callB (cr_all rfl) (by rfl) T.z_all (by decide +kernel) (pa_cons (pe_lc (own := [("volume", 1)]) (g := gName 1) rfl (sc_is_volumes).nd (pi_list (pv 0)) (blkOk_by (own := [("volume", 1)]) (N := N_is_volumes) (sc := defScope s_is_volumes) (by decide +kernel)) (fun _ _ _ _ _ => (pg_name (i := 1) (sc_is_volumes).nd rfl (Or.inl rfl))) (fun _ _ _ _ _ => pts_nil) (fun _ _ _ _ _ => (pe_call (ok_is_whole_within T) (hr.mono (by decide)) rfl T.mg_is_whole_within T.fun_is_whole_within.kp T.bd_is_whole_within .nil pass0 (pa_cons (pv 1) (pa_cons pe_int (pa_cons (pe_glob (v := .int 1000000) rfl T.gi_MOST_DROPS.choose_spec ⟨_, rfl⟩) pa_nil)))))) pa_nil))))), ?_⟩
    obtain ⟨ha, pos, few, bd⟩ := hv
    have lx : (ns.map V.int).length = ns.length := List.length_map _
    walk_at "wp"
    refine ⟨a, _, 1, 8, rfl, ha, by omega, ?_⟩
    rw [decide_eq_true (show (1 : Int) ≤ (ns.map V.int).length ∧ ((ns.map V.int).length : Int) ≤ 8 by omega)]
    walk_at "wp"
    refine w_lc ?_
    walk_at "wp"
    refine ⟨a, rfl, ⟨_, SqL.of ha⟩, w_lcMap (O := fun _ v b => v = V.bl b) kept_val (ns.map fun _ => true) ha (by rw [List.length_map, List.length_map]) (by omega) ?_ ?_⟩
    · intro c u b H3 R' hu hb e3 r'
      rw [List.getElem?_map] at hu hb
      obtain ⟨n, hn, rfl⟩ := Option.map_eq_some_iff.mp hu
      rw [hn] at hb
      cases hb
      have hb := bd n (List.mem_of_getElem? hn)
      walk_at "wp"
      refine ⟨n, 1, 1000000, rfl, ?_⟩
      rw [decide_eq_true (show (1 : Int) ≤ n ∧ n ≤ 1000000 by omega)]
      exact r' _ _ (Same.refl _) rfl
    · intro L acc H3 nL e3 hL ps
      rw [pl_bl ps] at hL
      walk_at "wp"
      refine ⟨L, _, rfl, SqL.of hL, ?_⟩
      rw [show ((ns.map fun _ => true).all id) = true from by rw [List.all_map]; exact List.all_eq_true.mpr fun _ _ => rfl]
      exact q _ e3
theorem ok_check_volumes (T : Txt K mg A) : FnOk P w K mg base CX0 4 A.a_check_volumes A.d_check_volumes ["volumes"] spChkVl := by
  refine T.fun_check_volumes.ok sc_check_volumes (fun vs H Q E h => ?_) (fun cdv B outer s H vs Q E hr h => ?_)
  · obtain ⟨a, ns, rfl, _⟩ := h
    rfl
  · obtain ⟨a, ns, rfl, hv, q⟩ := h
    refine ⟨_, (pss_one (ps_if (pt_not (pt_val (pe_call (ok_is_volumes T) (hr.mono (by decide)) rfl T.mg_is_volumes T.fun_is_volumes.kp T.bd_is_volumes .nil pass0 (pa_cons (pv 0) pa_nil)))) (pss_one ps_never) pss_nil)), ?_⟩
    walk_at "wp"
    refine ⟨a, ns, rfl, hv, fun H1 e1 => ?_⟩
    walk_at "wp"
    exact q H1 e1
theorem ok_is_transfer_between (T : Txt K mg A) : FnOk P w K mg base CX0 4 A.a_is_transfer_between A.d_is_transfer_between ["value", "many"] spBetw := by
  refine T.fun_is_transfer_between.ok sc_is_transfer_between (fun vs H Q E h => ?_) (fun cdv B outer s H vs Q E hr h => ?_)
  · obtain ⟨v, x, n, rfl, _⟩ := h
    rfl
  · obtain ⟨v, x, n, rfl, hv, g, l1, l2, q⟩ := h
    refine ⟨_, (pss_one (ps_ret (pe_and (pe_call (ok_is_transfer T) (hr.mono (by decide)) rfl T.mg_is_transfer T.fun_is_transfer.kp T.bd_is_transfer .nil pass0 (pa_cons (pv 0) pa_nil)) (pe_and (pe_cmpR op_lt (pe_ix ix_tup (pv 0) pe_int (fun _ _ => rfl)) (pv 1) (nomark _)) (pe_one (pe_cmpR op_lt (pe_ix ix_tup (pv 0) pe_int (fun _ _ => rfl)) (pv 1) (nomark _))))))), ?_⟩
    walk_at "wp"
    refine ⟨v, x, rfl, hv, g, fun H1 e1 => ?_⟩
    obtain ⟨r, rfl, hr1⟩ := hv.same e1
    walk_at "wp"
    rw [decide_eq_true l1]
    walk_at "wp"
    rw [decide_eq_true l2]
    exact q _ e1
theorem ok_check_transfers_between (T : Txt K mg A) : FnOk P w K mg base CX0 6 A.a_check_transfers_between A.d_check_transfers_between ["transfers", "many"] spChkB := by
  refine T.fun_check_transfers_between.ok sc_check_transfers_between (fun vs H Q E h => ?_) (fun cdv B outer s H vs Q E hr h => ?_)
  · obtain ⟨a, xs, ts, n, rfl, _⟩ := h
    rfl
  · obtain ⟨a, xs, ts, n, rfl, ha, hT, g, lt, q⟩ := h
    refine ⟨_, (pss_cons (ps_expr (pe_call (ok_check_transfers T) (hr.mono (by decide)) rfl T.mg_check_transfers T.fun_check_transfers.kp T.bd_check_transfers .nil pass0 (pa_cons (pv 0) pa_nil)))
 (pss_one (ps_if (pt_not (pt_val (pe_callB (cr_all rfl) (by rfl) T.z_all (by decide +kernel) (pa_cons (pe_lc (own := [("transfer", 2)]) (g := gName 2) rfl (sc_check_transfers_between).nd (pi_list (pv 0)) (blkOk_by (own := [("transfer", 2)]) (N := N_check_transfers_between) (sc := defScope s_check_transfers_between) (by decide +kernel)) (fun _ _ _ _ _ => (pg_name (i := 2) (sc_check_transfers_between).nd rfl (Or.inl rfl))) (fun _ _ _ _ _ => pts_nil) (fun _ _ _ _ _ => (pe_call (ok_is_transfer_between T) (hr.mono (by decide)) rfl T.mg_is_transfer_between T.fun_is_transfer_between.kp T.bd_is_transfer_between .nil pass0 (pa_cons (pv 2) (pa_cons (pv 1) pa_nil))))) pa_nil)))) (pss_one ps_never) pss_nil))), ?_⟩
    walk_at "wp"
    refine ⟨a, xs, ts, rfl, ha, hT, fun x hx => (g x hx).1, lt, fun H1 e1 => ?_⟩
    walk_at "wp"
    have ha1 := e1 _ _ ha
    have hT1 := Ts.same hT e1
    have lx := PL.len hT
    refine w_lc ?_
    walk_at "wp"
    refine ⟨a, rfl, ⟨_, SqL.of ha1⟩, w_lcMap (O := fun _ v b => v = V.bl b) kept_val (xs.map fun _ => true) ha1 (by rw [List.length_map]) (by omega) ?_ ?_⟩
    · intro c u b H3 R' hu hb e3 r'
      rw [List.getElem?_map, hu] at hb
      cases hb
      obtain ⟨x, hx, ox⟩ := hT1.get hu
      obtain ⟨g1, g2, g3⟩ := g x (List.mem_of_getElem? hx)
      walk_at "wp"
      refine ⟨u, x, n, rfl, ox.same e3, g1, g2, g3, fun H4 e4 => ?_⟩
      exact r' _ _ e4 rfl
    · intro L acc H3 nL e3 hL ps
      rw [pl_bl ps] at hL
      walk_at "wp"
      refine ⟨L, _, rfl, SqL.of hL, ?_⟩
      rw [show ((xs.map fun _ => true).all id) = true from by rw [List.all_map]; exact List.all_eq_true.mpr fun _ _ => rfl]
      walk_at "wp"
      exact q _ (e1.trans e3)
theorem ok_volumes_behind (T : Txt K mg A) : FnOk P w K mg base CX0 1 A.a_volumes_behind A.d_volumes_behind ["volumes", "transfer", "index"] spBehind := by
  refine T.fun_volumes_behind.ok sc_volumes_behind (fun vs H Q E h => ?_) (fun cdv B outer s H vs Q E hr h => ?_)
  · obtain ⟨a, v, ns, x, i, rfl, _⟩ := h
    rfl
  · obtain ⟨a, v, ns, x, i, rfl, ha, hv, hp, q⟩ := h
    refine ⟨_, (pss_cons (ps_asg (pv 1) (pg_tup rfl (pgs_cons (pg_name (i := 3) (sc_volumes_behind).nd rfl (Or.inl rfl)) (pgs_cons (pg_name (i := 4) (sc_volumes_behind).nd rfl (Or.inl rfl)) (pgs_cons (pg_name (i := 5) (sc_volumes_behind).nd rfl (Or.inl rfl)) pgs_nil)))))
 (pss_cons (ps_if (pt_cmpR op_ge (pv 5) (pe_ix ix_list (pv 0) (pv 3) (fun _ _ => rfl)) (nomark _)) (pss_one ps_never) pss_nil)
 (pss_cons (ps_set (i := 6) (sc_volumes_behind).nd rfl (Or.inl rfl) (pe_callTy G.call_listO (by rfl) T.z_list (by decide +kernel) (pa_cons (pv 0) pa_nil)))
 (pss_cons (ps_asg (pe_op op_sub (pe_ix ix_list (pv 0) (pv 3) (fun _ _ => rfl)) (pv 5)) (pg_sub (pv 6) (pv 3) set_list))
 (pss_cons (ps_asg (pe_op op_add (pe_ix ix_list (pv 0) (pv 4) (fun _ _ => rfl)) (pv 5)) (pg_sub (pv 6) (pv 4) set_list))
 (pss_one (ps_ret (pv 6)))))))), ?_⟩
    obtain ⟨g, t, hg, ht, gl, tl, ne, d0, d1⟩ := psb1_of hp
    obtain ⟨r, rfl, hr1⟩ := hv
    have lm : (ns.map V.int).length = ns.length := List.length_map _
    walk_at "wp"
    refine w_g3 (SqT.of hr1) rfl ?_
    rw [hg, ht]
    walk_at "wp"
    refine w_ixL (v := .int (ns.getD g 0)) (SqL.of ha) (ix_nat (getD_int gl)) ?_
    walk_at "wp"
    refine w_iteF (decide_eq_false (by omega)) ?_
    walk_at "wp"
    refine w_listOf (SqL.of ha) fun l H1 n1 e1 h1 => ?_
    walk_at "wp"
    have ha1 := e1 _ _ ha
    have al : a ≠ l := ne_of_none ha n1
    refine w_ixL (v := .int (ns.getD g 0)) (SqL.of ha1) (ix_nat (getD_int gl)) ?_
    walk_at "wp"
    refine w_setL h1 (j := g) (ixN_nat (by rw [lm]; omega)) ?_
    walk_at "wp"
    refine w_ixL (v := .int (ns.getD t 0)) (SqL.of (by rw [upd_ne al]; exact ha1)) (ix_nat (getD_int tl)) ?_
    walk_at "wp"
    refine w_setL upd_same (j := t) (ixN_nat (by rw [List.length_set, lm]; omega)) ?_
    walk_at "wp"
    rw [upd_twice]
    refine q l _ n1 (Fr.unseen n1 e1 Fr.at_) ?_
    have ev : vol1 ns x = (ns.set g (ns.getD g 0 - x.2.2)).set t (ns.getD t 0 + x.2.2) := by
      unfold vol1
      rw [hg, ht, Int.toNat_natCast, Int.toNat_natCast]
    rw [ev, List.map_set, List.map_set]
    exact upd_same
theorem ok_volumes_by_step (T : Txt K mg A) : FnOk P w K mg base CX0 7 A.a_volumes_by_step A.d_volumes_by_step ["volumes", "transfers"] spSteps := by
  refine T.fun_volumes_by_step.ok sc_volumes_by_step (fun vs H Q E h => ?_) (fun cdv B outer s H vs Q E hr h => ?_)
  · obtain ⟨a, l, ns, xs, ts, rfl, _⟩ := h
    rfl
  · obtain ⟨a, l, ns, xs, ts, rfl, C, q⟩ := h
    refine ⟨_, (pss_cons (ps_expr (pe_call (ok_check_volumes T) (hr.mono (by decide)) rfl T.mg_check_volumes T.fun_check_volumes.kp T.bd_check_volumes .nil pass0 (pa_cons (pv 0) pa_nil)))
 (pss_cons (ps_expr (pe_call (ok_check_transfers_between T) (hr.mono (by decide)) rfl T.mg_check_transfers_between T.fun_check_transfers_between.kp T.bd_check_transfers_between .nil pass0 (pa_cons (pv 1) (pa_cons (pe_callB call_len (by rfl) T.z_len (by decide +kernel) (pa_cons (pv 0) pa_nil)) pa_nil))))
 (pss_cons (ps_set (i := 2) (sc_volumes_by_step).nd rfl (Or.inl rfl) (pe_lst (pa_cons (pe_callTy G.call_listO (by rfl) T.z_list (by decide +kernel) (pa_cons (pv 0) pa_nil)) pa_nil)))
 (pss_cons (ps_for PassesOwn.never rfl (pi_enum rfl T.z_enumerate (pa_cons (pv 1) pa_nil)) (pg_tup rfl (pgs_cons (pg_name (i := 3) (sc_volumes_by_step).nd rfl (Or.inl rfl)) (pgs_cons (pg_name (i := 4) (sc_volumes_by_step).nd rfl (Or.inl rfl)) pgs_nil))) (pss_one (ps_expr (pe_bm PySem.F.plainAttrs_list PySem.F.slot_list_append PySem.F.type_list_append mt_append (pv 2) (pa_cons (pe_call (ok_volumes_behind T) (hr.mono (by decide)) rfl T.mg_volumes_behind T.fun_volumes_behind.kp T.bd_volumes_behind .nil pass0 (pa_cons (pe_ix ix_list (pv 2) (pe_un un_neg pe_int) (fun _ _ => rfl)) (pa_cons (pv 4) (pa_cons (pv 3) pa_nil)))) pa_nil)))))
 (pss_one (ps_ret (pv 2))))))), ?_⟩
    have ln : (ns.map V.int).length = ns.length := List.length_map _
    have lx := PL.len C.t
    have few := C.few
    walk_at "wp"
    refine ⟨a, ns, rfl, C.v, fun H1 e1 => ?_⟩
    walk_at "wp"
    have C1 := C.same e1
    refine w_lenL (SqL.of C1.v.at_) ?_
    walk_at "wp"
    refine ⟨l, xs, ts, _, rfl, C1.at_, C1.t, by rw [ln]; exact C1.lt, C1.few, fun H2 e2 => ?_⟩
    walk_at "wp"
    have C2 := C1.same e2
    refine w_listOf (SqL.of C2.v.at_) fun s0 H3 n3 e3 h3 => ?_
    walk_at "wp"
    intro b H4 n4 e4 h4
    walk_at "wp"
    have C4 := (C2.same e3).same e4
    have e04 := e1.trans (e2.trans (e3.trans e4))
    have nb : H b = none := (e1.trans (e2.trans e3)).free n4
    have lb : l ≠ b := ne_of_none C.at_ nb
    have s0b : s0 ≠ b := ne_of_none h3 n4
    refine w_walkE (xs := xs) (SqL.of C4.at_) rfl (fun k σ' H' => ∃ (v3 v4 : Option V) (ws : List V), σ' = [some (.ref a), some (.ref l), some (.ref b), v3, v4] ∧ H' b = some (.lst ws) ∧ PL (IntX b H') ws ((List.range (k + 1)).map fun i => (ts.take i).foldl vol1 ns) ∧ Fr b H4 H') ⟨_, _, _, rfl, h4, .cons ⟨s0, rfl, s0b, e4 _ _ h3⟩ .nil, Fr.refl _ _⟩ (fun k σ' H' _ ⟨_, _, _, _, _, _, F⟩ => SqL.of (F _ _ lb C4.at_)) ?_ ?_
    · rintro k x σ' H' H5 hx ⟨v3, v4, ws, rfl, hb, pw, F⟩ e5
      obtain ⟨y, hy, oy⟩ := C4.t.get hx
      have F5 := F.trans (.same e5)
      have oy5 : T3 H5 x y := oy.fr h4 F5
      have hb5 := e5 _ _ hb
      have pw5 := pw.imp fun _ _ o => o.same e5
      have kl : k < xs.length := (List.getElem?_eq_some_iff.mp hx).1
      have lw : ws.length = k + 1 := (PL.len pw).trans (by rw [List.length_map, List.length_range])
      obtain ⟨u, hu, lu, rfl, nu, hlu⟩ := pw5.gety (k := k) (y := (ts.take k).foldl vol1 ns) (by rw [List.getElem?_map, List.getElem?_range (by omega)]; rfl)
      walk_at "wp"
      refine w_bmL hb5 ?_
      walk_at "wp"
      refine w_ixL (v := .ref lu) (SqL.of hb5) ?_ ?_
      · have : ws = ws.take k ++ [.ref lu] := by
          have := take_snoc hu
          rw [← lw, List.take_length] at this
          exact this
        rw [this]
        exact at_last
      walk_at "wp"
      refine ⟨lu, x, _, y, _, rfl, hlu, oy5, psb_snoc C.psb hy, fun z H6 n6 e6 h6 => ?_⟩
      walk_at "wp"
      have hb6 := e6 _ _ hb5
      refine w_append hb6 (fun H7 f7 h7 => ?_) (decide_eq_true (by omega))
      have zb : z ≠ b := Ne.symm (ne_of_none hb5 n6)
      refine ⟨_, _, _, rfl, h7, ?_, (F5.trans (.same e6)).trans f7⟩
      rw [List.range_succ, List.map_append, List.map_singleton]
      refine PL.snoc (pw5.imp fun _ _ o => (o.same e6).fr f7) ⟨z, rfl, zb, f7 _ _ zb ?_⟩
      rw [take_snoc hy, List.foldl_append]
      exact h6
    · rintro σ' H' ⟨v3, v4, ws, rfl, hb, pw, F⟩
      rw [lx] at pw
      walk_at "wp"
      exact q b ws H' nb (Fr.unseen nb e04 F) hb pw
end
end K38

namespace K38
open PySem L2 G
local macro_rules | `(tactic| walk_at "pos") => `(tactic| first | assumption | (decide +kernel) | omega)
local macro_rules | `(tactic| walk_at "bt") => `(tactic| first
  | assumption
  | (decide +kernel)
  | exact Bt.mono (by assumption) (by decide)
  | (refine' Bt.add ?b1 ?b2; (case b1 => walk_at "bt"); (case b2 => walk_at "bt"))
  | (refine' Bt.sub ?b1 ?b2; (case b1 => walk_at "bt"); (case b2 => walk_at "bt"))
  | (refine' Bt.mul ?b1 ?b2; (case b1 => walk_at "bt"); (case b2 => walk_at "bt"))
  | (refine' Bt.mod ?b1 ?b2; (case b2 => walk_at "bt"); (case b1 => walk_at "pos"))
  | (refine' Bt.div ?b1 ?b2; (case b2 => walk_at "bt"); (case b1 => walk_at "pos"))
  | (refine' Bt.pow3 ?b1; (case b1 => walk_at "bt"))
  | (refine' Bt.neg ?b1; (case b1 => walk_at "bt"))
  | exact Bt.any)
local macro_rules | `(tactic| walk_at "btm") => `(tactic| ((refine' Bt.mono ?m1 ?m2); (case m1 => walk_at "bt"); (case m2 => (decide +kernel))))
local macro_rules | `(tactic| walk_at "ne") => `(tactic| first
  | assumption
  | (refine' Ne.symm ?q1; (case q1 => assumption))
  | (refine' ne_of_none (by assumption) ?q1; (case q1 => assumption))
  | (refine' Ne.symm (ne_of_none (by assumption) ?q1); (case q1 => assumption)))
local macro_rules | `(tactic| walk_at "hp") => `(tactic| first
  | assumption
  | exact upd_same
  | ((refine' lst_same ?q1 (by assumption : Same _ _)); (case q1 => walk_at "hp"))
  | ((refine' (by assumption : Fr _ _ _) _ _ ?n ?h); (case n => walk_at "ne"); (case h => walk_at "hp"))
  | ((refine (upd_ne (by assumption)).trans ?_); walk_at "hp")
  | ((refine (upd_ne (Ne.symm (by assumption))).trans ?_); walk_at "hp"))
local macro_rules | `(tactic| walk_at "sr") => `(tactic| first
  | assumption
  | ((refine' Src.same ?q1 (by assumption : Same _ _)); (case q1 => walk_at "sr")))
local macro_rules | `(tactic| walk_at "rt") => `(tactic| first
  | assumption
  | ((refine' Rat.same ?q1 (by assumption : Same _ _)); (case q1 => walk_at "rt"))
  | ((refine' Rat.fr ?q1 ?q2 (by assumption : Fr _ _ _)); (case q2 => walk_at "sr"); (case q1 => walk_at "rt")))
local macro_rules | `(tactic| walk_at "tp") => `(tactic| first
  | assumption
  | ((refine' tup_same ?q1 (by assumption : Same _ _)); (case q1 => walk_at "tp"))
  | ((refine' tup_fr ?q1 ?q2 (by assumption : Fr _ _ _)); (case q2 => walk_at "sr"); (case q1 => walk_at "tp")))
local macro_rules | `(tactic| walk_at "ls") => `(tactic| first
  | assumption
  | ((refine' lst_same ?q1 (by assumption : Same _ _)); (case q1 => walk_at "ls"))
  | ((refine' lst_fr ?q1 ?q2 (by assumption : Fr _ _ _)); (case q2 => assumption); (case q1 => walk_at "ls")))
local macro_rules | `(tactic| walk_at "sm") => `(tactic| first
  | exact Same.refl _
  | assumption
  | ((refine Same.trans ?_ (by assumption : Same _ _)); walk_at "sm"))
local macro_rules | `(tactic| walk_at "fr") => `(tactic| first
  | exact Fr.refl _ _
  | assumption
  | ((refine Fr.trans ?_ (Fr.same (by assumption : Same _ _))); walk_at "fr")
  | ((refine Fr.trans ?_ (by assumption : Fr _ _ _)); walk_at "fr"))
local macro_rules | `(tactic| walk_at "wp1") => `(tactic| first
  | (with_reducible refine w_seq ?_) | (with_reducible refine w_next ?_) | (with_reducible refine w_ret ?_) | (with_reducible refine w_asg ?_) | (with_reducible refine w_gn ?_) | (with_reducible refine w_if ?_)
  | (with_reducible refine w_cons ?_) | (with_reducible refine w_nil ?_) | (with_reducible refine w_c ?_) | (with_reducible refine w_op ?_) | (with_reducible refine w_cb ?_)
  | ((with_reducible refine' w_var ?h ?_); (case h => exact rfl))
  | (with_reducible refine w_I0 ?_) | (with_reducible refine w_eqI ?_) | (with_reducible refine w_neI ?_) | (with_reducible refine w_test ?_) | (with_reducible refine w_tB ?_) | (with_reducible refine w_bl ?_) | (with_reducible refine w_par ?_) | (with_reducible refine w_par2 ?_) | (with_reducible refine w_par3 ?_) | (with_reducible refine w_three ?_)
  | (with_reducible refine w_not ?_) | (with_reducible refine w_and ?_) | (with_reducible refine w_or ?_) | (with_reducible refine w_andV ?_) | (with_reducible refine w_orV ?_) | (with_reducible refine w_notV ?_) | (with_reducible refine w_tif ?_)
  | (with_reducible refine w_tup ?_) | (with_reducible refine w_lst ?_) | (with_reducible refine w_un ?_) | (with_reducible refine w_U ?_) | (with_reducible refine w_drop ?_) | (with_reducible refine w_brk ?_) | (with_reducible refine w_cont ?_) | (with_reducible refine w_retN ?_)
  | (with_reducible refine w_call ?_) | (with_reducible refine w_fld ?_) | (with_reducible refine w_sfld ?_) | (with_reducible refine w_prop ?_) | (with_reducible refine w_make ?_) | (with_reducible refine w_meth ?_) | (with_reducible refine w_methN ?_) | (with_reducible refine w_revL ?_) | (with_reducible refine w_gsub ?_)
  | ((with_reducible refine' w_powN ?c1 ?c2 ?_); (case c2 => (decide +kernel)); (case c1 => exact rfl))
  | ((with_reducible refine' w_powV ?c1 ?c2 ?c3 ?c4 ?_); (case c2 => walk_at "bt"); (case c3 => (decide +kernel)); (case c4 => (decide +kernel)); (case c1 => exact rfl))
  | ((with_reducible refine' w_I (C := CMulW) ?c1 ?_); (case c1 => (refine' mulOk ?k1 ?k2 ?k3; (case k1 => walk_at "bt"); (case k2 => walk_at "bt"); (case k3 => decide +kernel))))
  | ((with_reducible refine' w_I (C := CDivW) ?c1 ?_); (case c1 => (refine' divOk ?k1 ?k2 ?k3; (case k1 => walk_at "pos"); (case k2 => walk_at "bt"); (case k3 => decide +kernel))))
  | ((with_reducible refine' w_I (C := fun _ j => 0 < j) ?c1 ?_); (case c1 => walk_at "pos"))
  | (with_reducible refine w_isB ?_) | (with_reducible refine w_notB ?_) | (with_reducible refine w_neS ?_) | (with_reducible refine w_eqS ?_)
  | (with_reducible refine w_iRng1 ?_) | (with_reducible refine w_for ?_) | (with_reducible refine w_iEnum ?_) | (with_reducible refine w_iList ?_) | (with_reducible refine w_iTup ?_) | (with_reducible refine w_noPart ?_) | (with_reducible refine w_part ?_) | (with_reducible refine w_int ?_)
  | (with_reducible refine w_sl ?_)
  | (with_reducible refine w_two ?_) | (with_reducible refine w_one ?_)
  | ((with_reducible refine' w_ixL ?hs ?he ?_); (case hs => first | (refine' SqL.of ?q0; (case q0 => walk_at "hp")) | assumption); (case he => exact rfl))
  | ((with_reducible refine' w_ixT ?hs ?he ?_); (case hs => first | (refine' SqT.of ?q0; (case q0 => walk_at "tp")) | assumption); (case he => exact rfl))
  | ((with_reducible refine' w_setL ?hs ?he ?_); (case hs => walk_at "hp"); (case he => exact rfl))
  | (with_reducible refine w_iteT rfl ?_) | (with_reducible refine w_iteF rfl ?_) | ((with_reducible refine w_alloc ?h ?_); (case h => exact rfl))
  | (with_reducible refine w_augS ?_) | (with_reducible refine w_ipI ?_) | (with_reducible refine w_exo1 ?_) | (with_reducible refine w_exoI ?_) | (with_reducible refine w_exoK ?_) | (with_reducible refine w_fldE ?_) | (with_reducible refine w_ost ?_) | (with_reducible refine w_makeS ?_) | (with_reducible refine w_methS ?_) | (with_reducible refine w_callS ?_) | (with_reducible refine w_bm ?_) | (with_reducible refine w_bm0 ?_) | (with_reducible refine w_din ?_) | (with_reducible refine w_dget ?_) | (with_reducible refine w_dput ?_) | (with_reducible refine w_listVals ?_) | (with_reducible refine w_dget2 ?_) | (with_reducible refine w_dpop2 ?_) | (with_reducible refine w_makeK ?_) | (with_reducible refine w_callN ?_))
local macro_rules | `(tactic| walk_at "wp") => `(tactic| repeat (walk_at "wp1"))

section
variable {P : Program} {w : World} {K : PySem.W.Frag} {mg : Str → Option Value} {base : Heap} {A : Ad}
theorem ok_copy_of (T : Txt K mg A) : FnOk P w K mg base CX0 1 A.a_copy_of A.d_copy_of ["rows"] (spCopy A.c_Ratio) := by
  refine T.fun_copy_of.ok sc_copy_of (fun vs H Q E h => ?_) (fun cdv B outer s H vs Q E hr h => ?_)
  · obtain ⟨a, rows, m, rfl, _⟩ := h
    rfl
  · obtain ⟨a, rows, m, rfl, ⟨us, ha, pr⟩, S, q⟩ := h
    refine ⟨_, (pss_one (ps_ret (pe_lc (own := [("row", 1)]) (g := gName 1) rfl (sc_copy_of).nd (pi_list (pv 0)) (blkOk_by (own := [("row", 1)]) (N := N_copy_of) (sc := defScope s_copy_of) (by decide +kernel)) (fun _ _ _ _ _ => (pg_name (i := 1) (sc_copy_of).nd rfl (Or.inl rfl))) (fun _ _ _ _ _ => pts_nil) (fun _ _ _ _ _ => (pe_callTy (G.call_listOK (K := K) rfl) (by rfl) T.z_list (by decide +kernel) (pa_cons (pv 1) pa_nil)))))), ?_⟩
    have lu := PL.len pr
    have n8 := S.n
    walk_at "wp"
    refine w_lc ?_
    walk_at "wp"
    refine ⟨a, rfl, ⟨_, SqL.of ha⟩, w_lcGD (O := fun D => RowF A.c_Ratio D H) (kept_RowF A.c_Ratio H) (fun _ => true) (fun i => rows.getD i []) (SqL.of ha) (by omega) ?_ ?_⟩
    · intro i x H1 Re Rn hx e1 _ ⟨D, zs, nD, hD, re⟩
      obtain ⟨r, hr', l, rs, rfl, _, hl, hR⟩ := pr.get hx
      refine w_gn ⟨rfl, ?_⟩
      refine w_yes (w_iteT rfl ?_)
      walk_at "wp"
      refine w_listOf (SqL.of (e1 _ _ hl)) fun z H2 n2 e2 h2 => ?_
      refine re rfl _ _ e2 ⟨z, rs, rfl, Ne.symm (ne_of_none hD n2), e1.free n2, h2, ?_⟩
      rw [List.getD_eq_getElem?_getD, hr']
      exact rats_same hR (e1.trans e2)
    · intro L acc H1 nL e1 hL ps
      rw [filter_yes, lu, rowsG] at ps
      exact q L H1 nL e1 ⟨acc, hL, ps⟩
theorem ok_moved (T : Txt K mg A) : FnOk P w K mg base CX0 5 A.a_moved A.d_moved ["rows", "giver", "taker", "part"] (spMoved A.c_Ratio) := by
  refine T.fun_moved.ok sc_moved (fun vs H Q E h => ?_) (fun cdv B outer s H vs Q E hr h => ?_)
  · obtain ⟨a, g, t, p, rows, m, y, rfl, _⟩ := h
    rfl
  · obtain ⟨a, g, t, p, rows, m, y, rfl, tb, S, hg, ht, ne, ⟨_, ep, Ry⟩, ly, q⟩ := h
    cases ep
    refine ⟨_, (pss_cons (ps_setLc (i := 4) (own := [("ratio", 6)]) (g := gName 6) rfl (sc_moved).nd rfl rfl (sw_true rfl rfl rfl (by decide +kernel)) (pi_list (pe_ix ix_list (pv 0) (pv 1) (fun _ _ => rfl))) (blkOk_by (own := [("ratio", 6)]) (N := N_moved) (sc := defScope s_moved) (by decide +kernel)) (fun _ _ _ _ _ => (pg_name (i := 6) (sc_moved).nd rfl (Or.inl rfl))) (fun _ _ _ _ _ => pts_nil) (fun _ _ _ _ _ => (pe_op (G.op_own (ok_Ratio_mul T) (hr.mono (by decide)) T.bd_Ratio_mul pass0 T.om_Ratio_mul T.sf_Ratio) (pv 6) (pv 3))))
 (pss_cons (ps_set (i := 5) (sc_moved).nd rfl (Or.inl rfl) (pe_call (ok_copy_of T) (hr.mono (by decide)) rfl T.mg_copy_of T.fun_copy_of.kp T.bd_copy_of .nil pass0 (pa_cons (pv 0) pa_nil)))
 (pss_cons (ps_asg (pe_lc (own := [("ratio", 6), ("move", 7)]) (g := gTup K 2 (gCons (gName 6) (gCons (gName 7) gNil))) rfl (sc_moved).nd (pi_zip rfl T.z_zip (pa_cons (pe_ix ix_list (pv 0) (pv 1) (fun _ _ => rfl)) (pa_cons (pv 4) pa_nil))) (blkOk_by (own := [("ratio", 6), ("move", 7)]) (N := N_moved) (sc := defScope s_moved) (by decide +kernel)) (fun _ _ _ _ _ => (pg_tup rfl (pgs_cons (pg_name (i := 6) (sc_moved).nd rfl (Or.inl rfl)) (pgs_cons (pg_name (i := 7) (sc_moved).nd rfl (Or.inl rfl)) pgs_nil)))) (fun _ _ _ _ _ => pts_nil) (fun _ _ _ _ _ => (pe_op (G.op_own (ok_Ratio_sub T) (hr.mono (by decide)) T.bd_Ratio_sub pass0 T.om_Ratio_sub T.sf_Ratio) (pv 6) (pv 7)))) (pg_sub (pv 5) (pv 1) set_list))
 (pss_cons (ps_asg (pe_lc (own := [("ratio", 6), ("move", 7)]) (g := gTup K 2 (gCons (gName 6) (gCons (gName 7) gNil))) rfl (sc_moved).nd (pi_zip rfl T.z_zip (pa_cons (pe_ix ix_list (pv 0) (pv 2) (fun _ _ => rfl)) (pa_cons (pv 4) pa_nil))) (blkOk_by (own := [("ratio", 6), ("move", 7)]) (N := N_moved) (sc := defScope s_moved) (by decide +kernel)) (fun _ _ _ _ _ => (pg_tup rfl (pgs_cons (pg_name (i := 6) (sc_moved).nd rfl (Or.inl rfl)) (pgs_cons (pg_name (i := 7) (sc_moved).nd rfl (Or.inl rfl)) pgs_nil)))) (fun _ _ _ _ _ => pts_nil) (fun _ _ _ _ _ => (pe_op (G.op_own (ok_Ratio_add T) (hr.mono (by decide)) T.bd_Ratio_add pass0 T.om_Ratio_add T.sf_Ratio) (pv 6) (pv 7)))) (pg_sub (pv 5) (pv 2) set_list))
 (pss_one (ps_ret (pv 5))))))), ?_⟩
    obtain ⟨us, ha, pr⟩ := id tb
    have lu := PL.len pr
    have n8 := S.n
    have m8 := S.m8
    have gg : rows[g]? = some (rows.getD g []) := row_some hg
    have gt : rows[t]? = some (rows.getD t []) := row_some ht
    obtain ⟨lg, zg⟩ := S.each _ (List.mem_of_getElem? gg)
    obtain ⟨lt, zt⟩ := S.each _ (List.mem_of_getElem? gt)
    obtain ⟨vg, hvg, al, rg, rfl, _, hrg, Rg⟩ := pr.gety gg
    obtain ⟨vt, hvt, bl, rt, rfl, _, hrt, Rt⟩ := pr.gety gt
    have llg := PL.len Rg
    have llt := PL.len Rt
    generalize eg : rows.getD g [] = xg at *
    generalize et : rows.getD t [] = xt at *
    walk_at "wp"
    refine w_lc ?_
    walk_at "wp"
    refine w_ixL (SqL.of ha) (ix_nat hvg) ?_
    refine ⟨al, rfl, ⟨_, SqL.of hrg⟩, w_lcMap (O := RatV A.c_Ratio) kept_rat (xg.map fun x => jn 2 x y) hrg (by rw [List.length_map]; omega) (by omega) ?_ ?_⟩
    · intro c u b H1 R' hu hb e1 r'
      obtain ⟨x, hx, v, rfl, Rx⟩ := Rg.get hu
      rw [List.getElem?_map, hx] at hb
      cases hb
      walk_at "wp"
      refine w_binR (Rx.same e1) (Ry.same e1) (zg x (List.mem_of_getElem? hx)) ly rfl fun r2 H2 n2 e2 R2 => ?_
      exact r' _ _ e2 ⟨r2, rfl, R2⟩
    · intro L1 mo H1 n1 e1 h1 ps1
      have lmo := PL.len ps1
      rw [List.length_map] at lmo
      walk_at "wp"
      refine ⟨a, rows, m, rfl, tb.same e1, S, fun b H2 n2 e2 tb2 => ?_⟩
      walk_at "wp"
      have e12 := e1.trans e2
      refine w_lc ?_
      refine w_iZip ?_
      walk_at "wp"
      refine w_ixL (SqL.of (e12 _ _ ha)) (ix_nat hvg) ?_
      walk_at "wp"
      have hrg2 := e12 _ _ hrg
      have hmo2 := e2 _ _ h1
      have ps2 := rats_same ps1 e2
      have Rg2 := rats_same Rg e12
      refine ⟨al, L1, _, _, rfl, SqL.of hrg2, SqL.of hmo2, w_lcZip (O := RatV A.c_Ratio) kept_rat (fun _ => true) (fun i => jn 1 (xg.getD i (0, 1)) (jn 2 (xg.getD i (0, 1)) y)) (SqL.of hrg2) (SqL.of hmo2) (by omega) (by omega) ?_ ?_⟩
      · intro i T' u v H3 Re Rn hu hv hT3 e3 _ re
        obtain ⟨x, hx, ru, rfl, Rx⟩ := Rg2.get hu
        obtain ⟨z, hz, rv, rfl, Rz⟩ := ps2.get hv
        rw [List.getElem?_map, hx] at hz
        cases hz
        refine w_g2 (SqT.of hT3) rfl ⟨rfl, ?_⟩
        refine w_yes (w_iteT rfl ?_)
        walk_at "wp"
        have lx := zg x (List.mem_of_getElem? hx)
        refine w_binR (n := 2001) (Rx.same e3) (Rz.same e3) (lx.mono (by decide)) (jn_lp (.inr (.inr rfl)) lx ly) rfl fun r4 H4 n4 e4 R4 => ?_
        refine re rfl _ _ e4 ⟨r4, rfl, ?_⟩
        rw [List.getD_eq_getElem?_getD, hx]
        exact R4
      · intro L3 gv H3 n3 e3 h3 ps3
        rw [filter_yes, llg, mapG (fun x => jn 1 x (jn 2 x y))] at ps3
        walk_at "wp"
        obtain ⟨ws, hb2, pw2⟩ := id tb2
        have hb3 := e3 _ _ hb2
        have lw := PL.len pw2
        have L3b : L3 ≠ b := Ne.symm (ne_of_none hb2 n3)
        refine w_setL hb3 (j := g) (ixN_nat (by omega)) ?_
        have f4 : Fr b H3 (upd H3 b (.lst (ws.set g (.ref L3)))) := Fr.at_
        have h4 : (upd H3 b (.lst (ws.set g (.ref L3)))) b = some (.lst (ws.set g (.ref L3))) := upd_same
        generalize upd H3 b (.lst (ws.set g (.ref L3))) = H4 at f4 h4 ⊢
        have s4 : Same H1 H4 := Fr.unseen n2 (e2.trans e3) f4
        have s04 := e1.trans s4
        walk_at "wp"
        refine w_lc ?_
        refine w_iZip ?_
        walk_at "wp"
        refine w_ixL (SqL.of (s04 _ _ ha)) (ix_nat hvt) ?_
        walk_at "wp"
        have hrt4 := s04 _ _ hrt
        have hmo4 := s4 _ _ h1
        have ps4 := rats_same ps1 s4
        have Rt4 := rats_same Rt s04
        refine ⟨bl, L1, _, _, rfl, SqL.of hrt4, SqL.of hmo4, w_lcZip (O := RatV A.c_Ratio) kept_rat (fun _ => true) (fun i => jn 0 (xt.getD i (0, 1)) (jn 2 (xg.getD i (0, 1)) y)) (SqL.of hrt4) (SqL.of hmo4) (by omega) (by omega) ?_ ?_⟩
        · intro i T' u v H5 Re Rn hu hv hT5 e5 _ re
          obtain ⟨x, hx, ru, rfl, Rx⟩ := Rt4.get hu
          obtain ⟨z, hz, rv, rfl, Rz⟩ := ps4.get hv
          rw [List.getElem?_map] at hz
          obtain ⟨x', hx', rfl⟩ := Option.map_eq_some_iff.mp hz
          refine w_g2 (SqT.of hT5) rfl ⟨rfl, ?_⟩
          refine w_yes (w_iteT rfl ?_)
          walk_at "wp"
          refine w_binR (n := 2001) (Rx.same e5) (Rz.same e5) ((zt x (List.mem_of_getElem? hx)).mono (by decide)) (jn_lp (.inr (.inr rfl)) (zg x' (List.mem_of_getElem? hx')) ly) rfl fun r6 H6 n6 e6 R6 => ?_
          refine re rfl _ _ e6 ⟨r6, rfl, ?_⟩
          rw [List.getD_eq_getElem?_getD, List.getD_eq_getElem?_getD, hx, hx']
          exact R6
        · intro L5 tv H5 n5 e5 h5 ps5
          rw [filter_yes, llt, zipG (fun x z => jn 0 x (jn 2 z y)) (by omega)] at ps5
          walk_at "wp"
          have hb5 := e5 _ _ h4
          have L5b : L5 ≠ b := Ne.symm (ne_of_none h4 n5)
          refine w_setL hb5 (j := t) (ixN_nat (by rw [List.length_set]; omega)) ?_
          have f6 : Fr b H5 (upd H5 b (.lst ((ws.set g (.ref L3)).set t (.ref L5)))) := Fr.at_
          have h6 : (upd H5 b (.lst ((ws.set g (.ref L3)).set t (.ref L5)))) b = some (.lst ((ws.set g (.ref L3)).set t (.ref L5))) := upd_same
          generalize upd H5 b (.lst ((ws.set g (.ref L3)).set t (.ref L5))) = H6 at f6 h6 ⊢
          walk_at "wp"
          have s6 : Same H1 H6 := Fr.unseen n2 ((e2.trans e3)) ((f4.trans (.same e5)).trans f6)
          refine q b H6 (e1.free n2) (e1.trans s6) ⟨_, h6, ?_⟩
          have p3 : PL (RowF A.c_Ratio b H H6) ws rows := pw2.imp fun _ _ o => ((((o.same e3).fr hb3 f4).same e5).fr hb5 f6).back e1
          have o3 : RowF A.c_Ratio b H H6 (.ref L3) (xg.map fun x => jn 1 x (jn 2 x y)) := ⟨L3, gv, rfl, L3b, e12.free n3, f6 _ _ L3b (e5 _ _ (f4 _ _ L3b h3)), rats_fr (rats_same (rats_fr ps3 hb3 f4) e5) hb5 f6⟩
          have o5 : RowF A.c_Ratio b H H6 (.ref L5) (List.zipWith (fun x z => jn 0 x (jn 2 z y)) xt xg) := ⟨L5, tv, rfl, L5b, s04.free n5, f6 _ _ L5b h5, rats_fr ps5 hb5 f6⟩
          unfold mv
          rw [eg, et, zip_self, zip_map2]
          exact (p3.set o3 g).set o5 t
end
end K38

namespace K38
open PySem L2 G
local macro_rules | `(tactic| walk_at "pos") => `(tactic| first | assumption | (decide +kernel) | omega)
local macro_rules | `(tactic| walk_at "bt") => `(tactic| first
  | assumption
  | (decide +kernel)
  | exact Bt.mono (by assumption) (by decide)
  | (refine' Bt.add ?b1 ?b2; (case b1 => walk_at "bt"); (case b2 => walk_at "bt"))
  | (refine' Bt.sub ?b1 ?b2; (case b1 => walk_at "bt"); (case b2 => walk_at "bt"))
  | (refine' Bt.mul ?b1 ?b2; (case b1 => walk_at "bt"); (case b2 => walk_at "bt"))
  | (refine' Bt.mod ?b1 ?b2; (case b2 => walk_at "bt"); (case b1 => walk_at "pos"))
  | (refine' Bt.div ?b1 ?b2; (case b2 => walk_at "bt"); (case b1 => walk_at "pos"))
  | (refine' Bt.pow3 ?b1; (case b1 => walk_at "bt"))
  | (refine' Bt.neg ?b1; (case b1 => walk_at "bt"))
  | exact Bt.any)
local macro_rules | `(tactic| walk_at "btm") => `(tactic| ((refine' Bt.mono ?m1 ?m2); (case m1 => walk_at "bt"); (case m2 => (decide +kernel))))
local macro_rules | `(tactic| walk_at "ne") => `(tactic| first
  | assumption
  | (refine' Ne.symm ?q1; (case q1 => assumption))
  | (refine' ne_of_none (by assumption) ?q1; (case q1 => assumption))
  | (refine' Ne.symm (ne_of_none (by assumption) ?q1); (case q1 => assumption)))
local macro_rules | `(tactic| walk_at "hp") => `(tactic| first
  | assumption
  | exact upd_same
  | ((refine' lst_same ?q1 (by assumption : Same _ _)); (case q1 => walk_at "hp"))
  | ((refine' (by assumption : Fr _ _ _) _ _ ?n ?h); (case n => walk_at "ne"); (case h => walk_at "hp"))
  | ((refine (upd_ne (by assumption)).trans ?_); walk_at "hp")
  | ((refine (upd_ne (Ne.symm (by assumption))).trans ?_); walk_at "hp"))
local macro_rules | `(tactic| walk_at "sr") => `(tactic| first
  | assumption
  | ((refine' Src.same ?q1 (by assumption : Same _ _)); (case q1 => walk_at "sr")))
local macro_rules | `(tactic| walk_at "rt") => `(tactic| first
  | assumption
  | ((refine' Rat.same ?q1 (by assumption : Same _ _)); (case q1 => walk_at "rt"))
  | ((refine' Rat.fr ?q1 ?q2 (by assumption : Fr _ _ _)); (case q2 => walk_at "sr"); (case q1 => walk_at "rt")))
local macro_rules | `(tactic| walk_at "tp") => `(tactic| first
  | assumption
  | ((refine' tup_same ?q1 (by assumption : Same _ _)); (case q1 => walk_at "tp"))
  | ((refine' tup_fr ?q1 ?q2 (by assumption : Fr _ _ _)); (case q2 => walk_at "sr"); (case q1 => walk_at "tp")))
local macro_rules | `(tactic| walk_at "ls") => `(tactic| first
  | assumption
  | ((refine' lst_same ?q1 (by assumption : Same _ _)); (case q1 => walk_at "ls"))
  | ((refine' lst_fr ?q1 ?q2 (by assumption : Fr _ _ _)); (case q2 => assumption); (case q1 => walk_at "ls")))
local macro_rules | `(tactic| walk_at "sm") => `(tactic| first
  | exact Same.refl _
  | assumption
  | ((refine Same.trans ?_ (by assumption : Same _ _)); walk_at "sm"))
local macro_rules | `(tactic| walk_at "fr") => `(tactic| first
  | exact Fr.refl _ _
  | assumption
  | ((refine Fr.trans ?_ (Fr.same (by assumption : Same _ _))); walk_at "fr")
  | ((refine Fr.trans ?_ (by assumption : Fr _ _ _)); walk_at "fr"))
local macro_rules | `(tactic| walk_at "wp1") => `(tactic| first
  | (with_reducible refine w_seq ?_) | (with_reducible refine w_next ?_) | (with_reducible refine w_ret ?_) | (with_reducible refine w_asg ?_) | (with_reducible refine w_gn ?_) | (with_reducible refine w_if ?_)
  | (with_reducible refine w_cons ?_) | (with_reducible refine w_nil ?_) | (with_reducible refine w_c ?_) | (with_reducible refine w_op ?_) | (with_reducible refine w_cb ?_)
  | ((with_reducible refine' w_var ?h ?_); (case h => exact rfl))
  | (with_reducible refine w_I0 ?_) | (with_reducible refine w_eqI ?_) | (with_reducible refine w_neI ?_) | (with_reducible refine w_test ?_) | (with_reducible refine w_tB ?_) | (with_reducible refine w_bl ?_) | (with_reducible refine w_par ?_) | (with_reducible refine w_par2 ?_) | (with_reducible refine w_par3 ?_) | (with_reducible refine w_three ?_)
  | (with_reducible refine w_not ?_) | (with_reducible refine w_and ?_) | (with_reducible refine w_or ?_) | (with_reducible refine w_andV ?_) | (with_reducible refine w_orV ?_) | (with_reducible refine w_notV ?_) | (with_reducible refine w_tif ?_)
  | (with_reducible refine w_tup ?_) | (with_reducible refine w_lst ?_) | (with_reducible refine w_un ?_) | (with_reducible refine w_U ?_) | (with_reducible refine w_drop ?_) | (with_reducible refine w_brk ?_) | (with_reducible refine w_cont ?_) | (with_reducible refine w_retN ?_)
  | (with_reducible refine w_call ?_) | (with_reducible refine w_fld ?_) | (with_reducible refine w_sfld ?_) | (with_reducible refine w_prop ?_) | (with_reducible refine w_make ?_) | (with_reducible refine w_meth ?_) | (with_reducible refine w_methN ?_) | (with_reducible refine w_revL ?_) | (with_reducible refine w_gsub ?_)
  | ((with_reducible refine' w_powN ?c1 ?c2 ?_); (case c2 => (decide +kernel)); (case c1 => exact rfl))
  | ((with_reducible refine' w_powV ?c1 ?c2 ?c3 ?c4 ?_); (case c2 => walk_at "bt"); (case c3 => (decide +kernel)); (case c4 => (decide +kernel)); (case c1 => exact rfl))
  | ((with_reducible refine' w_I (C := CMulW) ?c1 ?_); (case c1 => (refine' mulOk ?k1 ?k2 ?k3; (case k1 => walk_at "bt"); (case k2 => walk_at "bt"); (case k3 => decide +kernel))))
  | ((with_reducible refine' w_I (C := CDivW) ?c1 ?_); (case c1 => (refine' divOk ?k1 ?k2 ?k3; (case k1 => walk_at "pos"); (case k2 => walk_at "bt"); (case k3 => decide +kernel))))
  | ((with_reducible refine' w_I (C := fun _ j => 0 < j) ?c1 ?_); (case c1 => walk_at "pos"))
  | (with_reducible refine w_isB ?_) | (with_reducible refine w_notB ?_) | (with_reducible refine w_neS ?_) | (with_reducible refine w_eqS ?_)
  | (with_reducible refine w_iRng1 ?_) | (with_reducible refine w_for ?_) | (with_reducible refine w_iEnum ?_) | (with_reducible refine w_iList ?_) | (with_reducible refine w_iTup ?_) | (with_reducible refine w_noPart ?_) | (with_reducible refine w_part ?_) | (with_reducible refine w_int ?_)
  | (with_reducible refine w_sl ?_)
  | (with_reducible refine w_two ?_) | (with_reducible refine w_one ?_)
  | ((with_reducible refine' w_ixL ?hs ?he ?_); (case hs => first | (refine' SqL.of ?q0; (case q0 => walk_at "hp")) | assumption); (case he => exact rfl))
  | ((with_reducible refine' w_ixT ?hs ?he ?_); (case hs => first | (refine' SqT.of ?q0; (case q0 => walk_at "tp")) | assumption); (case he => exact rfl))
  | ((with_reducible refine' w_setL ?hs ?he ?_); (case hs => walk_at "hp"); (case he => exact rfl))
  | (with_reducible refine w_iteT rfl ?_) | (with_reducible refine w_iteF rfl ?_) | ((with_reducible refine w_alloc ?h ?_); (case h => exact rfl))
  | (with_reducible refine w_augS ?_) | (with_reducible refine w_ipI ?_) | (with_reducible refine w_exo1 ?_) | (with_reducible refine w_exoI ?_) | (with_reducible refine w_exoK ?_) | (with_reducible refine w_fldE ?_) | (with_reducible refine w_ost ?_) | (with_reducible refine w_makeS ?_) | (with_reducible refine w_methS ?_) | (with_reducible refine w_callS ?_) | (with_reducible refine w_bm ?_) | (with_reducible refine w_bm0 ?_) | (with_reducible refine w_din ?_) | (with_reducible refine w_dget ?_) | (with_reducible refine w_dput ?_) | (with_reducible refine w_listVals ?_) | (with_reducible refine w_dget2 ?_) | (with_reducible refine w_dpop2 ?_) | (with_reducible refine w_makeK ?_) | (with_reducible refine w_callN ?_))
local macro_rules | `(tactic| walk_at "wp") => `(tactic| repeat (walk_at "wp1"))

section
variable {P : Program} {w : World} {K : PySem.W.Frag} {mg : Str → Option Value} {base : Heap} {A : Ad}
theorem ok_moved_by_all (T : Txt K mg A) : FnOk P w K mg base CX0 6 A.a_moved_by_all A.d_moved_by_all ["rows", "moves"] (spAll A.c_Ratio) := by
  refine T.fun_moved_by_all.ok sc_moved_by_all (fun vs H Q E h => ?_) (fun cdv B outer s H vs Q E hr h => ?_)
  · obtain ⟨a, l, rows, m, ws, ms, rfl, _⟩ := h
    rfl
  · obtain ⟨a, l, rows, m, ws, ms, rfl, tb, hl, pm, few, sz, gts, q⟩ := h
    refine ⟨_, (pss_cons (ps_set (i := 2) (sc_moved_by_all).nd rfl (Or.inl rfl) (pe_call (ok_copy_of T) (hr.mono (by decide)) rfl T.mg_copy_of T.fun_copy_of.kp T.bd_copy_of .nil pass0 (pa_cons (pv 0) pa_nil)))
 (pss_cons (ps_for PassesOwn.never rfl (pi_list (pv 1)) (pg_tup rfl (pgs_cons (pg_name (i := 3) (sc_moved_by_all).nd rfl (Or.inl rfl)) (pgs_cons (pg_name (i := 4) (sc_moved_by_all).nd rfl (Or.inl rfl)) (pgs_cons (pg_name (i := 5) (sc_moved_by_all).nd rfl (Or.inl rfl)) pgs_nil)))) (pss_one (ps_set (i := 2) (sc_moved_by_all).nd rfl (Or.inl rfl) (pe_call (ok_moved T) (hr.mono (by decide)) rfl T.mg_moved T.fun_moved.kp T.bd_moved .nil pass0 (pa_cons (pv 2) (pa_cons (pv 3) (pa_cons (pv 4) (pa_cons (pv 5) pa_nil))))))))
 (pss_one (ps_ret (pv 2))))), ?_⟩
    have lw := PL.len pm
    walk_at "wp"
    refine ⟨a, rows, m, rfl, tb, sz 0 (Nat.zero_le _), fun b0 H1 n1 e1 tb1 => ?_⟩
    walk_at "wp"
    refine w_walkG (xs := ws) (SqL.of (e1 _ _ hl)) (fun k σ' H' => ∃ (b : Addr) (v3 v4 v5 : Option V), σ' = [some (.ref a), some (.ref l), some (.ref b), v3, v4, v5] ∧ H b = none ∧ TabF A.c_Ratio H H' b ((ms.take k).foldl mvm rows) ∧ Same H H') ⟨b0, _, _, _, rfl, n1, tb1, e1⟩ ?_ ?_ ?_
    · rintro k σ' H' _ ⟨b, v3, v4, v5, rfl, nb, tb', e'⟩
      exact SqL.of (e' _ _ hl)
    · rintro k x σ' H' hx ⟨b, v3, v4, v5, rfl, nb, tb', e'⟩
      obtain ⟨y, hy, oy⟩ := pm.get hx
      obtain ⟨r, p, rfl, hr', Rp⟩ := kept_mv.same oy e'
      have kl := (List.getElem?_eq_some_iff.mp hy).1
      obtain ⟨g, t, eg, et, ne, gl, tl, lp⟩ := gts y (List.mem_of_getElem? hy)
      refine w_g3 (SqT.of hr') rfl ?_
      rw [eg, et]
      walk_at "wp"
      refine ⟨b, g, t, p, _, m, _, rfl, tb'.tab, sz k (by omega), by rw [mvm_len]; exact gl, by rw [mvm_len]; exact tl, ne, Rp, lp, fun c H2 n2 e2 tb2 => ?_⟩
      walk_at "wp"
      refine ⟨c, _, _, _, rfl, e'.free n2, ?_, e'.trans e2⟩
      rw [take_snoc' hy, List.foldl_append]
      show TabF A.c_Ratio H H2 c (mvm _ y)
      unfold mvm
      rw [eg, et, Int.toNat_natCast, Int.toNat_natCast]
      exact tb2.back e'
    · rintro σ' H' ⟨b, v3, v4, v5, rfl, nb, tb', e'⟩
      rw [lw, List.take_length] at tb'
      walk_at "wp"
      exact q b H' nb e' tb'
theorem ok_moves_of (T : Txt K mg A) : FnOk P w K mg base CX0 8 A.a_moves_of A.d_moves_of ["volumes", "transfers"] (spMoves A.c_Ratio) := by
  refine T.fun_moves_of.ok sc_moves_of (fun vs H Q E h => ?_) (fun cdv B outer s H vs Q E hr h => ?_)
  · obtain ⟨a, l, ns, xs, ts, rfl, _⟩ := h
    rfl
  · obtain ⟨a, l, ns, xs, ts, rfl, C, q⟩ := h
    refine ⟨_, (pss_cons (ps_set (i := 2) (sc_moves_of).nd rfl (Or.inl rfl) (pe_call (ok_volumes_by_step T) (hr.mono (by decide)) rfl T.mg_volumes_by_step T.fun_volumes_by_step.kp T.bd_volumes_by_step .nil pass0 (pa_cons (pv 0) (pa_cons (pv 1) pa_nil))))
 (pss_one (ps_ret (pe_lc (own := [("now", 3), ("giver", 4), ("taker", 5), ("amount", 6)]) (g := gTup K 2 (gCons (gName 3) (gCons (gTup K 3 (gCons (gName 4) (gCons (gName 5) (gCons (gName 6) gNil)))) gNil))) rfl (sc_moves_of).nd (pi_zip rfl T.z_zip (pa_cons (pv 2) (pa_cons (pv 1) pa_nil))) (blkOk_by (own := [("now", 3), ("giver", 4), ("taker", 5), ("amount", 6)]) (N := N_moves_of) (sc := defScope s_moves_of) (by decide +kernel)) (fun _ _ _ _ _ => (pg_tup rfl (pgs_cons (pg_name (i := 3) (sc_moves_of).nd rfl (Or.inl rfl)) (pgs_cons (pg_tup rfl (pgs_cons (pg_name (i := 4) (sc_moves_of).nd rfl (Or.inl rfl)) (pgs_cons (pg_name (i := 5) (sc_moves_of).nd rfl (Or.inl rfl)) (pgs_cons (pg_name (i := 6) (sc_moves_of).nd rfl (Or.inl rfl)) pgs_nil)))) pgs_nil)))) (fun _ _ _ _ _ => pts_nil) (fun _ _ _ _ _ => (pe_tup (pa_cons (pv 4) (pa_cons (pv 5) (pa_cons (pe_make T.mk_Ratio (ok_Ratio_init T) (hr.mono (by decide)) rfl T.mgc_Ratio (b2_Ratio T).choose_spec.2 (b2_Ratio T).choose_spec.1 pass0 (pa_cons (pv 6) (pa_cons (pe_ix (G.ix_listK (K := K) rfl) (pv 3) (pv 4) (fun _ _ => rfl)) pa_nil))) pa_nil))))))))), ?_⟩
    have lx := PL.len C.t
    have few := C.few
    walk_at "wp"
    refine ⟨a, l, ns, xs, ts, rfl, C, fun b ws H1 n1 e1 h1 pw => ?_⟩
    walk_at "wp"
    have C1 := C.same e1
    have lw := PL.len pw
    have ltr : (tr ns ts).length = ts.length + 1 := by
      unfold tr
      rw [List.length_map, List.length_range]
    refine w_lc ?_
    refine w_iZip ?_
    walk_at "wp"
    refine ⟨b, l, _, _, rfl, SqL.of h1, SqL.of C1.at_, w_lcZipS (O := MvV A.c_Ratio) kept_mv (fun _ => true) (fun k => (ts.getD k t0, ((ts.take k).foldl vol1 ns).getD (ts.getD k t0).1.toNat 0)) (SqL.of h1) (SqL.of C1.at_) (by omega) (by omega) ?_ ?_⟩
    · intro i T' u v H2 Re Rn hu hv hT2 e2 _ re
      obtain ⟨z, hz, lz, rfl, _, hlz⟩ := pw.get hu
      obtain ⟨y, hy, r, rfl, hr'⟩ := C1.t.get hv
      have kl : i < ts.length := (List.getElem?_eq_some_iff.mp hy).1
      have ez : z = (ts.take i).foldl vol1 ns := by
        unfold tr at hz
        rw [List.getElem?_map, List.getElem?_range (by omega)] at hz
        exact (Option.some.inj hz).symm
      subst ez
      have hp := psb_snoc C.psb hy
      obtain ⟨g, t, eg, et, gl, tl, ne, d0, d1⟩ := psb1_of hp
      refine w_g13 (SqT.of hT2) (SqT.of (e2 _ _ hr')) rfl rfl ⟨rfl, ?_⟩
      rw [eg, et]
      refine w_yes (w_iteT rfl ?_)
      walk_at "wp"
      refine w_ixL (v := .int (((ts.take i).foldl vol1 ns).getD g 0)) (SqL.of (e2 _ _ hlz)) (ix_nat (getD_int gl)) ?_
      walk_at "wp"
      have S := sinv_at C.v.bd C.psb (fun x hx => (C.gd x hx).c.2) C.few i (by omega)
      have gv := S.vol _ (by rw [stt_vol]; exact getD_mem' gl)
      have bo : Bt 8000 (((ts.take i).foldl vol1 ns).getD g 0) := Bt.mono (a := 40) (by unfold Bt; omega) (by decide)
      refine ratio_of (by omega) bo fun x H3 n3 e3 R3 => ?_
      walk_at "wp"
      intro t' H4 n4 e4 h4
      refine re rfl _ _ (e3.trans e4) ⟨t', x, rfl, ?_, x, rfl, ?_⟩
      · rw [getD_at hy, eg, et]
        exact h4
      · rw [getD_at hy, eg, Int.toNat_natCast]
        exact R3.same e4
    · intro L acc H2 nL e2 hL ps
      rw [filter_yes, lx] at ps
      exact q L acc H2 (e1.free nL) (e1.trans e2) hL ps
theorem ok_contents_at_first (T : Txt K mg A) : FnOk P w K mg base CX0 5 A.a_contents_at_first A.d_contents_at_first ["volumes"] (spFirst A.c_Ratio) := by
  refine T.fun_contents_at_first.ok sc_contents_at_first (fun vs H Q E h => ?_) (fun cdv B outer s H vs Q E hr h => ?_)
  · obtain ⟨a, ns, rfl, _⟩ := h
    rfl
  · obtain ⟨a, ns, rfl, hv, q⟩ := h
    refine ⟨_, (pss_cons (ps_set (i := 1) (sc_contents_at_first).nd rfl (Or.inr rfl) (pe_callTy G.cr_rng1 (by rfl) T.z_range (by decide +kernel) (pa_cons (pe_callB call_len (by rfl) T.z_len (by decide +kernel) (pa_cons (pv 0) pa_nil)) pa_nil)))
 (pss_one (ps_ret (pe_lc (own := [("vessel", 2)]) (g := gName 2) rfl (sc_contents_at_first).nd (G.pi_rng (pv 1)) (blkOk_by (own := [("vessel", 2)]) (N := N_contents_at_first) (sc := defScope s_contents_at_first) (by decide +kernel)) (fun _ _ _ _ _ => (pg_name (i := 2) (sc_contents_at_first).nd rfl (Or.inr rfl))) (fun _ _ _ _ _ => pts_nil) (fun _ _ _ _ _ => (pe_lc (own := [("substance", 3)]) (g := gName 3) rfl (sc_contents_at_first).nd (G.pi_rng (pv 1)) (blkOk_by (own := [("substance", 3)]) (N := N_contents_at_first) (sc := _) (by with_unfolding_all rfl)) (fun _ _ _ _ _ => (pg_name (i := 3) (sc_contents_at_first).nd rfl (Or.inl rfl))) (fun _ _ _ _ _ => pts_nil) (fun _ _ _ _ _ => (pe_make T.mk_Ratio (ok_Ratio_init T) (hr.mono (by decide)) rfl T.mgc_Ratio (b1_Ratio T).choose_spec.2 (b1_Ratio T).choose_spec.1 pass0 (pa_cons (pe_ifExp (pt_cmpR op_eq (pv 3) (pv 2) (nomark _)) (pe_ix (G.ix_listK (K := K) rfl) (pv 0) (pv 2) (fun _ _ => rfl)) pe_int) pa_nil))))))))), ?_⟩
    have ln : (ns.map V.int).length = ns.length := List.length_map _
    have few := hv.few
    walk_at "wp"
    refine w_lenL (SqL.of hv.at_) ?_
    rw [ln]
    refine ⟨_, rfl, fun p H1 n1 e1 h1 => ?_⟩
    walk_at "wp"
    have hv1 := hv.same e1
    refine w_lc ?_
    refine w_iRngV ?_
    walk_at "wp"
    refine ⟨p, _, _, rfl, h1, ⟨by decide, by decide, by omega, by omega⟩, ?_⟩
    rw [show ((ns.length : Int) - 0).toNat = ns.length by omega]
    refine w_lcRangeD (O := RowX A.c_Ratio) (kept_RowX A.c_Ratio) (fun i : Nat => (List.range ns.length).map fun j : Nat => low ((mx0 fun i => ns.getD i 0) i j) 1) (by omega) ?_ ?_
    · intro k H2 R D zs hk e2 hD r
      refine w_lc ?_
      refine w_iRngV ?_
      walk_at "wp"
      refine ⟨p, _, _, rfl, e2 _ _ h1, ⟨by decide, by decide, by omega, by omega⟩, ?_⟩
      rw [show ((ns.length : Int) - 0).toNat = ns.length by omega]
      refine w_lcRange (O := RatV A.c_Ratio) kept_rat ((List.range ns.length).map fun j : Nat => low ((mx0 fun i => ns.getD i 0) k j) 1) (by rw [List.length_map, List.length_range]) (by omega) ?_ ?_
      · intro j y H3 R3 hj hy e3 r3
        rw [List.getElem?_map, List.getElem?_range hj] at hy
        cases hy
        walk_at "wp"
        refine w_ite (fun c => ?_) fun c => ?_
        · have c : j = k := by have := of_decide_eq_true c; omega
          walk_at "wp"
          refine w_ixL (v := .int (ns.getD k 0)) (SqL.of (e3 _ _ (e2 _ _ hv1.at_))) (ix_nat (getD_int hk)) ?_
          walk_at "wp"
          refine ratio_of (by decide) (by decide) fun x H4 n4 e4 R4 => ?_
          refine r3 _ _ e4 ⟨x, rfl, ?_⟩
          have e : (mx0 fun i => ns.getD i 0) k j = ns.getD k 0 := by
            show (if j = k then ns.getD k 0 else 0) = _
            rw [if_pos c]
          show G.Rat A.c_Ratio H4 x (low ((mx0 fun i => ns.getD i 0) k j) 1).1 (low ((mx0 fun i => ns.getD i 0) k j) 1).2
          rw [e]
          exact R4
        · have c : ¬ j = k := by have := of_decide_eq_false c; omega
          walk_at "wp"
          refine ratio_of (by decide) (by decide) fun x H4 n4 e4 R4 => ?_
          refine r3 _ _ e4 ⟨x, rfl, ?_⟩
          have e : (mx0 fun i => ns.getD i 0) k j = 0 := by
            show (if j = k then ns.getD k 0 else 0) = _
            rw [if_neg c]
          show G.Rat A.c_Ratio H4 x (low ((mx0 fun i => ns.getD i 0) k j) 1).1 (low ((mx0 fun i => ns.getD i 0) k j) 1).2
          rw [e]
          exact R4
      · intro L acc H3 nL e3 hL ps
        exact r _ _ e3 ⟨L, acc, rfl, Ne.symm (ne_of_none hD nL), hL, ps⟩
    · intro L acc H2 nL e2 hL ps
      exact q L H2 (e1.free nL) (e1.trans e2) ⟨acc, hL, ps⟩
theorem ok_contents_after (T : Txt K mg A) : FnOk P w K mg base CX0 9 A.a_contents_after A.d_contents_after ["volumes", "transfers"] (spCont A.c_Ratio) := by
  refine T.fun_contents_after.ok sc_contents_after (fun vs H Q E h => ?_) (fun cdv B outer s H vs Q E hr h => ?_)
  · obtain ⟨a, l, ns, xs, ts, rfl, _⟩ := h
    rfl
  · obtain ⟨a, l, ns, xs, ts, rfl, C, q⟩ := h
    refine ⟨_, (pss_cons (ps_set (i := 2) (sc_contents_after).nd rfl (Or.inl rfl) (pe_call (ok_moves_of T) (hr.mono (by decide)) rfl T.mg_moves_of T.fun_moves_of.kp T.bd_moves_of .nil pass0 (pa_cons (pv 0) (pa_cons (pv 1) pa_nil))))
 (pss_one (ps_ret (pe_call (ok_moved_by_all T) (hr.mono (by decide)) rfl T.mg_moved_by_all T.fun_moved_by_all.kp T.bd_moved_by_all .nil pass0 (pa_cons (pe_call (ok_contents_at_first T) (hr.mono (by decide)) rfl T.mg_contents_at_first T.fun_contents_at_first.kp T.bd_contents_at_first .nil pass0 (pa_cons (pv 0) pa_nil)) (pa_cons (pv 2) pa_nil)))))), ?_⟩
    have few := C.few
    have mf := mvs_fold C.v.bd C.psb (fun x hx => (C.gd x hx).c.2) C.few
    have si := sinv_at C.v.bd C.psb (fun x hx => (C.gd x hx).c.2) C.few
    walk_at "wp"
    refine ⟨a, l, ns, xs, ts, rfl, C, fun m ws H1 n1 e1 h1 pw => ?_⟩
    walk_at "wp"
    refine ⟨a, ns, rfl, C.v.same e1, fun b H2 n2 e2 tb => ?_⟩
    walk_at "wp"
    refine ⟨b, m, _, ns.length, ws, mvs ns ts, rfl, tb, e2 _ _ h1, pw.imp fun _ _ o => kept_mv.same o e2, by rw [mvs_len]; exact few, fun k hk => ?_, fun x hx => ?_, fun c H3 n3 e3 tb3 => ?_⟩
    · rw [mvs_len] at hk
      rw [mf k hk]
      have S := si k hk
      exact nr_sz C.v.few S.pos (S.dbt.mono (by omega)) fun i j => (S.mbt i j).mono (by omega)
    · obtain ⟨k, hk⟩ := List.mem_iff_getElem?.mp hx
      have kl := (List.getElem?_eq_some_iff.mp hk).1
      rw [mvs_len] at kl
      rw [mvs_at kl] at hk
      obtain ⟨y, hy⟩ : ∃ y, ts[k]? = some y := ⟨_, List.getElem?_eq_getElem kl⟩
      rw [getD_at hy] at hk
      have hk := Option.some.inj hk
      subst hk
      obtain ⟨g, t, eg, et, gl, tl, ne, d0, d1⟩ := psb1_of (psb_snoc C.psb hy)
      have gv := (si k (by omega)).vol _ (by rw [stt_vol]; exact getD_mem' gl)
      rw [vol_len] at gl tl
      have yc := (C.gd y (List.mem_of_getElem? hy)).c
      refine ⟨g, t, eg, et, ne, by rw [nr_len]; exact gl, by rw [nr_len]; exact tl, ?_⟩
      show Lp 1000 (low y.2.2 (((ts.take k).foldl vol1 ns).getD y.1.toNat 0))
      rw [eg, Int.toNat_natCast]
      exact Lp.low (by omega) (Bt.mono (a := 40) (by unfold Bt; omega) (by decide)) (Bt.mono (a := 40) (by unfold Bt; omega) (by decide))
    · have := mf ts.length (Nat.le_refl _)
      rw [List.take_length, show ts.length = (mvs ns ts).length from mvs_len.symm, List.take_length] at this
      rw [this] at tb3
      exact q c H3 ((e1.trans e2).free n3) (e1.trans (e2.trans e3)) (tb3.back (e1.trans e2))
end
end K38

namespace K38
open PySem L2 G
local macro_rules | `(tactic| walk_at "pos") => `(tactic| first | assumption | (decide +kernel) | omega)
local macro_rules | `(tactic| walk_at "bt") => `(tactic| first
  | assumption
  | (decide +kernel)
  | exact Bt.mono (by assumption) (by decide)
  | (refine' Bt.add ?b1 ?b2; (case b1 => walk_at "bt"); (case b2 => walk_at "bt"))
  | (refine' Bt.sub ?b1 ?b2; (case b1 => walk_at "bt"); (case b2 => walk_at "bt"))
  | (refine' Bt.mul ?b1 ?b2; (case b1 => walk_at "bt"); (case b2 => walk_at "bt"))
  | (refine' Bt.mod ?b1 ?b2; (case b2 => walk_at "bt"); (case b1 => walk_at "pos"))
  | (refine' Bt.div ?b1 ?b2; (case b2 => walk_at "bt"); (case b1 => walk_at "pos"))
  | (refine' Bt.pow3 ?b1; (case b1 => walk_at "bt"))
  | (refine' Bt.neg ?b1; (case b1 => walk_at "bt"))
  | exact Bt.any)
local macro_rules | `(tactic| walk_at "btm") => `(tactic| ((refine' Bt.mono ?m1 ?m2); (case m1 => walk_at "bt"); (case m2 => (decide +kernel))))
local macro_rules | `(tactic| walk_at "ne") => `(tactic| first
  | assumption
  | (refine' Ne.symm ?q1; (case q1 => assumption))
  | (refine' ne_of_none (by assumption) ?q1; (case q1 => assumption))
  | (refine' Ne.symm (ne_of_none (by assumption) ?q1); (case q1 => assumption)))
local macro_rules | `(tactic| walk_at "hp") => `(tactic| first
  | assumption
  | exact upd_same
  | ((refine' lst_same ?q1 (by assumption : Same _ _)); (case q1 => walk_at "hp"))
  | ((refine' (by assumption : Fr _ _ _) _ _ ?n ?h); (case n => walk_at "ne"); (case h => walk_at "hp"))
  | ((refine (upd_ne (by assumption)).trans ?_); walk_at "hp")
  | ((refine (upd_ne (Ne.symm (by assumption))).trans ?_); walk_at "hp"))
local macro_rules | `(tactic| walk_at "sr") => `(tactic| first
  | assumption
  | ((refine' Src.same ?q1 (by assumption : Same _ _)); (case q1 => walk_at "sr")))
local macro_rules | `(tactic| walk_at "rt") => `(tactic| first
  | assumption
  | ((refine' Rat.same ?q1 (by assumption : Same _ _)); (case q1 => walk_at "rt"))
  | ((refine' Rat.fr ?q1 ?q2 (by assumption : Fr _ _ _)); (case q2 => walk_at "sr"); (case q1 => walk_at "rt")))
local macro_rules | `(tactic| walk_at "tp") => `(tactic| first
  | assumption
  | ((refine' tup_same ?q1 (by assumption : Same _ _)); (case q1 => walk_at "tp"))
  | ((refine' tup_fr ?q1 ?q2 (by assumption : Fr _ _ _)); (case q2 => walk_at "sr"); (case q1 => walk_at "tp")))
local macro_rules | `(tactic| walk_at "ls") => `(tactic| first
  | assumption
  | ((refine' lst_same ?q1 (by assumption : Same _ _)); (case q1 => walk_at "ls"))
  | ((refine' lst_fr ?q1 ?q2 (by assumption : Fr _ _ _)); (case q2 => assumption); (case q1 => walk_at "ls")))
local macro_rules | `(tactic| walk_at "sm") => `(tactic| first
  | exact Same.refl _
  | assumption
  | ((refine Same.trans ?_ (by assumption : Same _ _)); walk_at "sm"))
local macro_rules | `(tactic| walk_at "fr") => `(tactic| first
  | exact Fr.refl _ _
  | assumption
  | ((refine Fr.trans ?_ (Fr.same (by assumption : Same _ _))); walk_at "fr")
  | ((refine Fr.trans ?_ (by assumption : Fr _ _ _)); walk_at "fr"))
local macro_rules | `(tactic| walk_at "wp1") => `(tactic| first
  | (with_reducible refine w_seq ?_) | (with_reducible refine w_next ?_) | (with_reducible refine w_ret ?_) | (with_reducible refine w_asg ?_) | (with_reducible refine w_gn ?_) | (with_reducible refine w_if ?_)
  | (with_reducible refine w_cons ?_) | (with_reducible refine w_nil ?_) | (with_reducible refine w_c ?_) | (with_reducible refine w_op ?_) | (with_reducible refine w_cb ?_)
  | ((with_reducible refine' w_var ?h ?_); (case h => exact rfl))
  | (with_reducible refine w_I0 ?_) | (with_reducible refine w_eqI ?_) | (with_reducible refine w_neI ?_) | (with_reducible refine w_test ?_) | (with_reducible refine w_tB ?_) | (with_reducible refine w_bl ?_) | (with_reducible refine w_par ?_) | (with_reducible refine w_par2 ?_) | (with_reducible refine w_par3 ?_) | (with_reducible refine w_three ?_)
  | (with_reducible refine w_not ?_) | (with_reducible refine w_and ?_) | (with_reducible refine w_or ?_) | (with_reducible refine w_andV ?_) | (with_reducible refine w_orV ?_) | (with_reducible refine w_notV ?_) | (with_reducible refine w_tif ?_)
  | (with_reducible refine w_tup ?_) | (with_reducible refine w_lst ?_) | (with_reducible refine w_un ?_) | (with_reducible refine w_U ?_) | (with_reducible refine w_drop ?_) | (with_reducible refine w_brk ?_) | (with_reducible refine w_cont ?_) | (with_reducible refine w_retN ?_)
  | (with_reducible refine w_call ?_) | (with_reducible refine w_fld ?_) | (with_reducible refine w_sfld ?_) | (with_reducible refine w_prop ?_) | (with_reducible refine w_make ?_) | (with_reducible refine w_meth ?_) | (with_reducible refine w_methN ?_) | (with_reducible refine w_revL ?_) | (with_reducible refine w_gsub ?_)
  | ((with_reducible refine' w_powN ?c1 ?c2 ?_); (case c2 => (decide +kernel)); (case c1 => exact rfl))
  | ((with_reducible refine' w_powV ?c1 ?c2 ?c3 ?c4 ?_); (case c2 => walk_at "bt"); (case c3 => (decide +kernel)); (case c4 => (decide +kernel)); (case c1 => exact rfl))
  | ((with_reducible refine' w_I (C := CMulW) ?c1 ?_); (case c1 => (refine' mulOk ?k1 ?k2 ?k3; (case k1 => walk_at "bt"); (case k2 => walk_at "bt"); (case k3 => decide +kernel))))
  | ((with_reducible refine' w_I (C := CDivW) ?c1 ?_); (case c1 => (refine' divOk ?k1 ?k2 ?k3; (case k1 => walk_at "pos"); (case k2 => walk_at "bt"); (case k3 => decide +kernel))))
  | ((with_reducible refine' w_I (C := fun _ j => 0 < j) ?c1 ?_); (case c1 => walk_at "pos"))
  | (with_reducible refine w_isB ?_) | (with_reducible refine w_notB ?_) | (with_reducible refine w_neS ?_) | (with_reducible refine w_eqS ?_)
  | (with_reducible refine w_iRng1 ?_) | (with_reducible refine w_for ?_) | (with_reducible refine w_iEnum ?_) | (with_reducible refine w_iList ?_) | (with_reducible refine w_iTup ?_) | (with_reducible refine w_noPart ?_) | (with_reducible refine w_part ?_) | (with_reducible refine w_int ?_)
  | (with_reducible refine w_sl ?_)
  | (with_reducible refine w_two ?_) | (with_reducible refine w_one ?_)
  | ((with_reducible refine' w_ixL ?hs ?he ?_); (case hs => first | (refine' SqL.of ?q0; (case q0 => walk_at "hp")) | assumption); (case he => exact rfl))
  | ((with_reducible refine' w_ixT ?hs ?he ?_); (case hs => first | (refine' SqT.of ?q0; (case q0 => walk_at "tp")) | assumption); (case he => exact rfl))
  | ((with_reducible refine' w_setL ?hs ?he ?_); (case hs => walk_at "hp"); (case he => exact rfl))
  | (with_reducible refine w_iteT rfl ?_) | (with_reducible refine w_iteF rfl ?_) | ((with_reducible refine w_alloc ?h ?_); (case h => exact rfl))
  | (with_reducible refine w_augS ?_) | (with_reducible refine w_ipI ?_) | (with_reducible refine w_exo1 ?_) | (with_reducible refine w_exoI ?_) | (with_reducible refine w_exoK ?_) | (with_reducible refine w_fldE ?_) | (with_reducible refine w_ost ?_) | (with_reducible refine w_makeS ?_) | (with_reducible refine w_methS ?_) | (with_reducible refine w_callS ?_) | (with_reducible refine w_bm ?_) | (with_reducible refine w_bm0 ?_) | (with_reducible refine w_din ?_) | (with_reducible refine w_dget ?_) | (with_reducible refine w_dput ?_) | (with_reducible refine w_listVals ?_) | (with_reducible refine w_dget2 ?_) | (with_reducible refine w_dpop2 ?_) | (with_reducible refine w_makeK ?_) | (with_reducible refine w_callN ?_))
local macro_rules | `(tactic| walk_at "wp") => `(tactic| repeat (walk_at "wp1"))

section
variable {P : Program} {w : World} {K : PySem.W.Frag} {mg : Str → Option Value} {base : Heap} {A : Ad}
theorem ok_law_open_source (T : Txt K mg A) : FnOk P w K mg base CX0 1 A.a_law_open_source A.d_law_open_source ["script", "k"] (spOpen K) := by
  refine T.fun_law_open_source.ok sc_law_open_source (fun vs H Q E h => ?_) (fun cdv B outer s H vs Q E hr h => ?_)
  · obtain ⟨s, ns, k, rfl, _⟩ := h
    rfl
  · obtain ⟨s, ns, k, rfl, hs, hl, hk, bk, q⟩ := h
    refine ⟨_, (pss_cons (ps_set (i := 2) (sc_law_open_source).nd rfl (Or.inl rfl) pe_int)
 (pss_cons (ps_if (pt_cmpR op_lt (pv 1) (pe_callB call_len (by rfl) T.z_len (by decide +kernel) (pa_cons (pv 0) pa_nil)) (nomark _)) (pss_one (ps_set (i := 2) (sc_law_open_source).nd rfl (Or.inl rfl) (pe_ix ix_list (pv 0) (pv 1) (fun _ _ => rfl)))) pss_nil)
 (pss_one (ps_ret (pe_lst (pa_cons (pe_callB (call_max2 rfl) (by rfl) T.z_max (by decide +kernel) (pa_cons pe_int (pa_cons (pe_op op_sub (pv 2) (G.pe_powc (c := 1000000000000000000) (by decide +kernel) (by decide +kernel))) pa_nil))) (pa_cons (pe_op op_add (pe_op op_mulW (pe_op op_modW (pv 2) (pe_op op_add (G.pe_powc (c := 1000000000000000000000000000000000000000000000000000000000000) (by decide +kernel) (by decide +kernel)) pe_int)) pe_int) (pe_op op_modW (pv 1) pe_int)) (pa_cons pe_int pa_nil)))))))), ?_⟩
    have fin : ∀ (c : Int) (p : Addr) (H' : Hp), H p = none → Same H H' → H' p = some (.lst [.int (if c - 1000000000000000000 > 0 then c - 1000000000000000000 else 0), .int (c % (1000000000000000000000000000000000000000000000000000000000000 + 7) * 64 + k % 64), .int 0]) → Q (.ref p) H' := by
      intro c p H' np e h
      refine q p H' np e ⟨_, _, _, h, ?_, ?_, ?_, Int.le_refl 0, Int.le_refl 0⟩
      · split <;> omega
      · have h := Int.emod_nonneg c (show (1000000000000000000000000000000000000000000000000000000000000 : Int) + 7 ≠ 0 by decide +kernel)
        omega
      · refine Bt.mono (a := ?_) ?_ ?_
        rotate_left
        · walk_at "bt"
        · decide +kernel
    walk_at "wp"
    refine w_lenL hs ?_
    walk_at "wp"
    refine w_ite (fun c => ?_) fun c => ?_
    · have c := of_decide_eq_true c
      rw [List.length_map] at c
      obtain ⟨z, hz⟩ : ∃ z, ns[k.toNat]? = some z := ⟨ns[k.toNat]'(by omega), by rw [List.getElem?_eq_getElem]⟩
      walk_at "wp"
      refine w_ixL hs (v := .int z) ?_ ?_
      · unfold atI ixN
        rw [if_pos hk, if_pos (by rw [List.length_map]; exact c)]
        show (ns.map V.int)[k.toNat]? = _
        rw [List.getElem?_map, hz]
        rfl
      · walk_at "wp"
        exact fin z
    · walk_at "wp"
      exact fin 0
theorem ok_law_draw (T : Txt K mg A) : FnOk P w K mg base CX0 1 A.a_law_draw A.d_law_draw ["source", "limit"] spDraw := by
  refine T.fun_law_draw.ok sc_law_draw (fun vs H Q E h => ?_) (fun cdv B outer s H vs Q E hr h => ?_)
  · obtain ⟨a, n, b, rfl, _⟩ := h
    rfl
  · obtain ⟨a, n, b, rfl, ⟨x, y, z, ha, hx, hy, by_, hz, hzb⟩, hb, hn, bn, q⟩ := h
    refine ⟨_, (pss_cons (ps_if (pt_cmpR op_gt (pe_ix ix_list (pv 0) pe_int (fun _ _ => rfl)) pe_int (nomark _)) (pss_cons (ps_set (i := 2) (sc_law_draw).nd rfl (Or.inl rfl) (pe_op op_modW (pe_ix ix_list (pv 0) pe_int (fun _ _ => rfl)) (pv 1)))
 (pss_cons (ps_asg (pe_op op_fdivW (pe_ix ix_list (pv 0) pe_int (fun _ _ => rfl)) (pv 1)) (pg_sub (pv 0) pe_int set_list))
 (pss_one (ps_ret (pv 2))))) pss_nil)
 (pss_cons (ps_asg (pe_op op_add (pe_ix ix_list (pv 0) pe_int (fun _ _ => rfl)) pe_int) (pg_sub (pv 0) pe_int set_list))
 (pss_cons (ps_set (i := 3) (sc_law_draw).nd rfl (Or.inl rfl) (pe_op op_modW (pe_op op_powW (pe_op op_add (pe_op op_add (pe_ix ix_list (pv 0) pe_int (fun _ _ => rfl)) (pe_op op_mulW (pe_op op_mulW pe_int (pe_ix ix_list (pv 0) pe_int (fun _ _ => rfl))) (pe_ix ix_list (pv 0) pe_int (fun _ _ => rfl)))) pe_int) pe_int) pe_int))
 (pss_cons (ps_set (i := 3) (sc_law_draw).nd rfl (Or.inl rfl) (pe_op op_modW (pe_op op_powW (pe_op op_add (pv 3) (pe_op op_mulW pe_int (pe_ix ix_list (pv 0) pe_int (fun _ _ => rfl)))) pe_int) pe_int))
 (pss_one (ps_ret (pe_op op_modW (pe_op op_fdivW (pv 3) pe_int) (pv 1)))))))), ?_⟩
    have bz : Bt 61 (z + 1) := by
      unfold Bt
      omega
    walk_at "wp"
    refine w_ite (fun c => ?_) fun c => ?_
    · have c : 0 < x := of_decide_eq_true c
      walk_at "wp"
      refine q _ _ (Int.emod_nonneg x (by omega)) (Int.emod_lt_of_pos x hn) ⟨_, _, _, upd_same, Int.ediv_nonneg hx (by omega), hy, by_, hz, by omega⟩ Fr.at_
    · walk_at "wp"
      refine q _ _ (Int.emod_nonneg _ (by omega)) (Int.emod_lt_of_pos _ hn) ⟨_, _, _, upd_same, hx, hy, by_, by omega, by omega⟩ Fr.at_
theorem ok_law_case (T : Txt K mg A) : FnOk P w K mg base CX0 3 A.a_law_case A.d_law_case ["source", "script", "most", "many"] (spCase K) := by
  refine T.fun_law_case.ok sc_law_case (fun vs H Q E h => ?_) (fun cdv B outer s H vs Q E hr h => ?_)
  · obtain ⟨a, c, m, n, b, ns, rfl, _⟩ := h
    rfl
  · obtain ⟨a, c, m, n, b, ns, rfl, S, hb, hs, m2, m8, n3, n24, q⟩ := h
    refine ⟨_, (pss_cons (ps_set (i := 4) (sc_law_case).nd rfl (Or.inl rfl) (pe_ix ix_list (pe_lst (pa_cons (pe_op op_add pe_int (pe_call (ok_law_draw T) (hr.mono (by decide)) rfl T.mg_law_draw T.fun_law_draw.kp T.bd_law_draw .nil pass0 (pa_cons (pv 0) (pa_cons (pv 2) pa_nil)))) (pa_cons (pv 2) (pa_cons (pe_callB (call_min2 rfl) (by rfl) T.z_min (by decide +kernel) (pa_cons (pv 2) (pa_cons pe_int pa_nil))) pa_nil)))) (pe_call (ok_law_draw T) (hr.mono (by decide)) rfl T.mg_law_draw T.fun_law_draw.kp T.bd_law_draw .nil pass0 (pa_cons (pv 0) (pa_cons pe_int pa_nil))) (fun _ _ => rfl)))
 (pss_cons (ps_asg (pe_tup (pa_cons (pe_ix ix_list (pe_lst (pa_cons pe_int (pa_cons pe_int (pa_cons (G.pe_powc (c := 1000000) (by decide +kernel) (by decide +kernel)) pa_nil)))) (pe_call (ok_law_draw T) (hr.mono (by decide)) rfl T.mg_law_draw T.fun_law_draw.kp T.bd_law_draw .nil pass0 (pa_cons (pv 0) (pa_cons pe_int pa_nil))) (fun _ _ => rfl)) (pa_cons (pe_call (ok_law_draw T) (hr.mono (by decide)) rfl T.mg_law_draw T.fun_law_draw.kp T.bd_law_draw .nil pass0 (pa_cons (pv 0) (pa_cons (pe_op op_add (pv 3) pe_int) pa_nil))) pa_nil))) (pg_tup rfl (pgs_cons (pg_name (i := 5) (sc_law_case).nd rfl (Or.inr rfl)) (pgs_cons (pg_name (i := 6) (sc_law_case).nd rfl (Or.inl rfl)) pgs_nil))))
 (C8.pss_cut (ps_if (pt_cmpR (op_eqD hr.units) (pv 1) (pe_lst pa_nil) (nomark _)) (pss_one (ps_asg (pe_tup (pa_cons pe_int (pa_cons pe_int (pa_cons pe_int pa_nil)))) (pg_tup rfl (pgs_cons (pg_name (i := 4) (sc_law_case).nd rfl (Or.inl rfl)) (pgs_cons (pg_name (i := 5) (sc_law_case).nd rfl (Or.inr rfl)) (pgs_cons (pg_name (i := 6) (sc_law_case).nd rfl (Or.inl rfl)) pgs_nil)))))) pss_nil)
 (pss_cons (ps_setLc (i := 7) (own := [("turn", 10)]) (g := gName 10) rfl (sc_law_case).nd rfl rfl (sw_true rfl rfl rfl (by decide +kernel)) (pi_range1 rfl T.z_range (pa_cons (pv 4) pa_nil)) (blkOk_by (own := [("turn", 10)]) (N := N_law_case) (sc := defScope s_law_case) (by decide +kernel)) (fun _ _ _ _ _ => (pg_name (i := 10) (sc_law_case).nd rfl (Or.inl rfl))) (fun _ _ _ _ _ => pts_nil) (fun _ _ _ _ _ => (pe_op op_add pe_int (pe_call (ok_law_draw T) (hr.mono (by decide)) rfl T.mg_law_draw T.fun_law_draw.kp T.bd_law_draw .nil pass0 (pa_cons (pv 0) (pa_cons (pv 5) pa_nil))))))
 (pss_cons (ps_par (i := 8) (j := 9) (by rfl) (sc_law_case).nd rfl rfl (by decide) rfl rfl (pa_cons (pe_callTy G.call_listO (by rfl) T.z_list (by decide +kernel) (pa_cons (pv 7) pa_nil)) (pa_cons (pe_lst pa_nil) pa_nil)) (by rfl))
 (pss_cons (ps_for PassesOwn.never rfl (pi_range1 rfl T.z_range (pa_cons (pv 6) pa_nil)) (pg_name (i := 10) (sc_law_case).nd rfl (Or.inl rfl)) (pss_cons (ps_par (i := 11) (j := 12) (by rfl) (sc_law_case).nd rfl rfl (by decide) rfl rfl (pa_cons (pe_call (ok_law_draw T) (hr.mono (by decide)) rfl T.mg_law_draw T.fun_law_draw.kp T.bd_law_draw .nil pass0 (pa_cons (pv 0) (pa_cons (pv 4) pa_nil))) (pa_cons (pe_op op_add pe_int (pe_call (ok_law_draw T) (hr.mono (by decide)) rfl T.mg_law_draw T.fun_law_draw.kp T.bd_law_draw .nil pass0 (pa_cons (pv 0) (pa_cons (pe_callB (call_max2 rfl) (by rfl) T.z_max (by decide +kernel) (pa_cons pe_int (pa_cons (pe_op op_sub (pv 4) pe_int) pa_nil))) pa_nil)))) pa_nil)) (by rfl))
 (pss_cons (ps_par (i := 13) (j := 14) (by rfl) (sc_law_case).nd rfl rfl (by decide) rfl rfl (pa_cons (pe_op op_modW (pe_op op_add (pv 11) (pv 12)) (pv 4)) (pa_cons (pe_op op_sub (pe_ix ix_list (pv 8) (pv 11) (fun _ _ => rfl)) pe_int) pa_nil)) (by rfl))
 (pss_cons (ps_set (i := 15) (sc_law_case).nd rfl (Or.inl rfl) (pe_callB (call_min2 rfl) (by rfl) T.z_min (by decide +kernel) (pa_cons (pe_ix ix_list (pe_lst (pa_cons (pe_op op_add pe_int (pe_call (ok_law_draw T) (hr.mono (by decide)) rfl T.mg_law_draw T.fun_law_draw.kp T.bd_law_draw .nil pass0 (pa_cons (pv 0) (pa_cons (pe_callB (call_max2 rfl) (by rfl) T.z_max (by decide +kernel) (pa_cons pe_int (pa_cons (pv 14) pa_nil))) pa_nil)))) (pa_cons pe_int (pa_cons (pv 14) pa_nil)))) (pe_call (ok_law_draw T) (hr.mono (by decide)) rfl T.mg_law_draw T.fun_law_draw.kp T.bd_law_draw .nil pass0 (pa_cons (pv 0) (pa_cons pe_int pa_nil))) (fun _ _ => rfl)) (pa_cons (G.pe_powc (c := 1000000) (by decide +kernel) (by decide +kernel)) pa_nil))))
 (pss_one (ps_if (PW.pt (pw_and (pt_cmpR op_ne (pv 13) (pv 11) (nomark _)) (pw_and1 (pt_chain op_le op_le pe_int (pv 15) (pv 14))))) (pss_cons (ps_expr (pe_bm PySem.F.plainAttrs_list PySem.F.slot_list_append PySem.F.type_list_append mt_append (pv 9) (pa_cons (pe_tup (pa_cons (pv 11) (pa_cons (pv 13) (pa_cons (pv 15) pa_nil)))) pa_nil)))
 (pss_cons (ps_asg (pe_op op_sub (pe_ix ix_list (pv 8) (pv 11) (fun _ _ => rfl)) (pv 15)) (pg_sub (pv 8) (pv 11) set_list))
 (pss_one (ps_asg (pe_op op_add (pe_ix ix_list (pv 8) (pv 13) (fun _ _ => rfl)) (pv 15)) (pg_sub (pv 8) (pv 13) set_list))))) pss_nil))))))
 (pss_one (ps_ret (pe_tup (pa_cons (pv 7) (pa_cons (pv 9) pa_nil))))))))))), ?_⟩
    have bm : Bt 2000 m := Bt.mono (a := 10) (by unfold Bt; omega) (by decide)
    have bn : Bt 2000 (n + 1) := Bt.mono (a := 10) (by unfold Bt; omega) (by decide)
    have bb : b + 1 + 1 + 1 + 1 < 2 ^ 60 := by omega
    walk_at "wp"
    refine ⟨a, _, b, rfl, S, by omega, by omega, bm, fun d1 H1 d0 d9 S1 f1 => ?_⟩
    walk_at "wp"
    intro l3 H3 n3' e3 h3
    walk_at "wp"
    refine ⟨a, _, _, rfl, S1.same e3, by omega, by decide, by decide +kernel, fun d4 H4 k0 k9 S4 f4 => ?_⟩
    walk_at "wp"
    have h4 := f4 _ _ (S1.ne n3') h3
    obtain ⟨sz, es, s0, s9⟩ : ∃ sz : Int, atI [V.int (1 + d1), V.int m, V.int (if 3 < m then 3 else m)] d4 = some (.int sz) ∧ 1 ≤ sz ∧ sz ≤ 8 := by
      have c : d4 = 0 ∨ d4 = 1 ∨ d4 = 2 := by omega
      rcases c with rfl | rfl | rfl
      · exact ⟨_, rfl, by omega, by omega⟩
      · exact ⟨_, rfl, by omega, by omega⟩
      · exact ⟨_, rfl, by split <;> omega, by split <;> omega⟩
    have F4 : Fr a H H4 := (f1.trans (.same e3)).trans f4
    refine w_ixL (SqL.of h4) es ?_
    clear h3 h4 es e3 f1 f4 S1
    walk_at "wp"
    intro l5 H5 n5 e5 h5
    walk_at "wp"
    refine ⟨a, _, _, rfl, S4.same e5, by omega, by decide, by decide +kernel, fun d6 H6 g0 g9 S6 f6 => ?_⟩
    walk_at "wp"
    have h6 := f6 _ _ (S4.ne n5) h5
    obtain ⟨tp, et, t0', t9⟩ : ∃ tp : Int, atI [V.int 3, V.int 50, V.int 1000000] d6 = some (.int tp) ∧ 1 ≤ tp ∧ tp ≤ 1000000 := by
      have c : d6 = 0 ∨ d6 = 1 ∨ d6 = 2 := by omega
      rcases c with rfl | rfl | rfl
      · exact ⟨_, rfl, by decide, by decide⟩
      · exact ⟨_, rfl, by decide, by decide⟩
      · exact ⟨_, rfl, by decide, by decide⟩
    have F6 : Fr a H H6 := (F4.trans (.same e5)).trans f6
    refine w_ixL (SqL.of h6) et ?_
    clear h5 h6 et e5 f6 S4 F4
    walk_at "wp"
    refine ⟨a, _, _, rfl, S6, by omega, by omega, bn, fun tn H7 j0 j9 S7 f7 => ?_⟩
    walk_at "wp"
    intro p8 H8 n8 e8 h8
    refine w_g2 (SqT.of h8) rfl ?_
    have S8 := S7.same e8
    have F8 : Fr a H H8 := (F6.trans f7).trans (.same e8)
    clear h8 n8 e8 f7 S7 F6 S6
    refine w_cut (fun σ' H' => ∃ sz tp tn : Int, σ' = [some (.ref a), some (.ref c), some (.int m), some (.int n), some (.int sz), some (.int tp), some (.int tn), none, none, none, none, none, none, none, none, none] ∧ 1 ≤ sz ∧ sz ≤ 8 ∧ 1 ≤ tp ∧ tp ≤ 1000000 ∧ 0 ≤ tn ∧ tn ≤ 24 ∧ Same H8 H') ?_ ?_
    · walk_at "wp"
      intro l9 H9 n9 e9 h9
      refine ⟨_, .list [], dp_ints (hs _ (F8.trans (.same e9))), .lst (SqL.of h9) .nil, shaped_ints ns, rfl, ?_⟩
      walk_at "wp"
      refine w_ite (fun _ => ?_) fun _ => ?_
      · walk_at "wp"
        intro p10 H10 n10 e10 h10
        refine w_g3 (SqT.of h10) rfl ?_
        exact ⟨2, 50, 3, rfl, by decide, by decide, by decide, by decide, by decide, by decide, e9.trans e10⟩
      · walk_at "wp"
        exact ⟨sz, tp, tn, rfl, s0, s9, t0', t9, j0, by omega, e9⟩
    · clear s0 s9 t0' t9 j0 j9 d0 d9 k0 k9 g0 g9
      rintro σ' H9 ⟨sz, tp, tn, rfl, s0, s9, t0', t9, j0, j9, e9⟩
      have S9 := S8.same e9
      have F9 := F8.trans (.same e9)
      clear S8 F8 e9
      have bt : Bt 2000 tp := Bt.mono (a := 20) (by unfold Bt; omega) (by decide)
      have bs : Bt 2000 sz := Bt.mono (a := 20) (by unfold Bt; omega) (by decide)
      walk_at "wp"
      refine w_lc ?_
      walk_at "wp"
      refine ⟨by omega, by omega, w_lcDraws (fun i => 1 ≤ i ∧ i ≤ 1000000) S9 (by omega) ?_ ?_⟩
      · intro k H2 R hk S2 F2 r
        walk_at "wp"
        refine ⟨a, _, _, rfl, S2, by omega, by omega, bt, fun d3 H3 g0 g9 S3 f3 => ?_⟩
        walk_at "wp"
        exact r _ _ ⟨by omega, by omega⟩ S3 f3
      · intro v vn H10 nv F10 hv lv gv S10
        walk_at "wp"
        refine w_listOf (SqL.of hv) fun wn H11 n11 e11 h11 => ?_
        walk_at "wp"
        intro l H12 n12 e12 h12
        walk_at "wp"
        have va : v ≠ a := S9.ne nv
        have wa : wn ≠ a := S10.ne n11
        have S11 := S10.same e11
        have la : l ≠ a := S11.ne n12
        have S12 := S11.same e12
        have h11' := e12 _ _ h11
        have hv12 := e12 _ _ (e11 _ _ hv)
        have vw : v ≠ wn := ne_of_none hv n11
        have vl : v ≠ l := ne_of_none (e11 _ _ hv) n12
        have wl : wn ≠ l := ne_of_none h11 n12
        have nvH : H v = none := fr_free F9 va nv
        have F12 : Fr a H H12 := ((F9.trans F10).trans (.same e11)).trans (.same e12)
        have nwH : H wn = none := fr_free (F9.trans F10) wa n11
        have nlH : H l = none := fr_free ((F9.trans F10).trans (.same e11)) la n12
        clear S9 S10 S11 F9 F10 e11 e12 n11 n12 hv nv h11 hs
        refine w_walkR ⟨by omega, by omega⟩ (fun i σ' H' => ∃ (v10 v11 v12 v13 v14 v15 : Option V) (xs : List V) (ts : List Tr), σ' = [some (.ref a), some (.ref c), some (.int m), some (.int n), some (.int sz), some (.int tp), some (.int tn), some (.ref v), some (.ref wn), some (.ref l), v10, v11, v12, v13, v14, v15] ∧ H' v = some (.lst (vn.map V.int)) ∧ H' wn = some (.lst ((ts.foldl vol1 vn).map V.int)) ∧ H' l = some (.lst xs) ∧ Ts H' xs ts ∧ psb vn ts = true ∧ (∀ x ∈ ts, Gd x) ∧ ts.length ≤ i ∧ Src (b + 12 + 4 * i) H' a ∧ Fr a H H') ⟨_, _, _, _, _, _, [], [], rfl, hv12, h11', h12, .nil, rfl, nofun, Nat.le_refl _, S12.mono (by omega), F12⟩ ?_ ?_
        · rintro i σ' H' hi ⟨v10, v11, v12, v13, v14, v15, xs, ts, rfl, hv, hw, hl, hT, hp, hg, lt, S', F⟩
          have lc : (ts.foldl vol1 vn).length = sz.toNat := (vol_len vn ts).trans lv
          have si := sinv_at gv hp (fun x hx => (hg x hx).c.2) (by omega) ts.length (Nat.le_refl _)
          rw [List.take_length] at si
          have cv : ∀ x ∈ ts.foldl vol1 vn, 1 ≤ x ∧ x ≤ 1000000 * (24 + 1) := fun x hx => by
            have := si.vol x (by rw [stt_vol]; exact hx)
            omega
          generalize ec : ts.foldl vol1 vn = cur at *
          walk_at "wp"
          refine ⟨a, _, _, rfl, S', by omega, by omega, bs, fun g H1 g0 g9 S1 f1 => ?_⟩
          obtain ⟨gi, rfl⟩ : ∃ gi : Nat, g = (gi : Int) := ⟨g.toNat, by omega⟩
          walk_at "wp"
          have b1 : Bt 2000 (if sz - 1 > 1 then sz - 1 else 1) := Bt.mono (a := 20) (by unfold Bt; split <;> omega) (by decide)
          refine ⟨a, _, _, rfl, S1, by omega, by split <;> omega, b1, fun st H2 st0 st9 S2 f2 => ?_⟩
          walk_at "wp"
          have f02 := f1.trans f2
          refine w_ixL (v := .int (cur.getD gi 0)) (SqL.of (f02 _ _ wa hw)) (ix_nat (getD_int (by omega))) ?_
          walk_at "wp"
          have gv1 := cv _ (getD_mem' (ns := cur) (k := gi) (by omega))
          have b2 : Bt 2000 (if cur.getD gi 0 - 1 > 1 then cur.getD gi 0 - 1 else 1) := Bt.mono (a := 40) (by unfold Bt; split <;> omega) (by decide)
          refine ⟨a, _, _, rfl, S2, by omega, by split <;> omega, b2, fun dd H3 dd0 dd9 S3 f3 => ?_⟩
          walk_at "wp"
          intro l4 H4 n4 e4 h4
          walk_at "wp"
          refine ⟨a, _, _, rfl, S3.same e4, by omega, by decide, by decide +kernel, fun d5 H5 k0 k9 S5 f5 => ?_⟩
          walk_at "wp"
          obtain ⟨dr, ed⟩ : ∃ dr : Int, atI [V.int (1 + dd), V.int 1, V.int (cur.getD gi 0 - 1)] d5 = some (.int dr) := by
            have c : d5 = 0 ∨ d5 = 1 ∨ d5 = 2 := by omega
            rcases c with rfl | rfl | rfl
            · exact ⟨_, rfl⟩
            · exact ⟨_, rfl⟩
            · exact ⟨_, rfl⟩
          refine w_ixL (SqL.of (f5 _ _ (S3.ne n4) h4)) ed ?_
          have f05 : Fr a H' H5 := ((f02.trans f3).trans (.same e4)).trans f5
          have hv5 := f05 _ _ va hv
          have hw5 := f05 _ _ wa hw
          have hl5 := f05 _ _ la hl
          have hT5 : Ts H5 xs ts := hT.imp fun v x o => let ⟨r, ev, h⟩ := o; ⟨r, ev, tup_fr h S' f05⟩
          have F5 := F.trans f05
          clear h4 n4 ed f1 f2 f3 e4 f5 f02 f05 S1 S2 S3 hv hw hl hT F S'
          walk_at "wp"
          have m0 : 0 ≤ ((gi : Int) + (1 + st)) % sz := Int.emod_nonneg _ (by omega)
          have m1 : ((gi : Int) + (1 + st)) % sz < sz := Int.emod_lt_of_pos _ (by omega)
          obtain ⟨ti, hti⟩ : ∃ ti : Nat, ((gi : Int) + (1 + st)) % sz = (ti : Int) := ⟨(((gi : Int) + (1 + st)) % sz).toNat, by omega⟩
          rw [hti] at m1 ⊢
          generalize ew : (if (1000000 : Int) < dr then (1000000 : Int) else dr) = dw at *
          have dw9 : dw ≤ 1000000 := by rw [← ew]; split <;> omega
          refine w_ite (fun c1 => ?_) fun c1 => ?_
          · have c1 : ti ≠ gi := fun e => by rw [e] at c1; simp at c1
            walk_at "wp"
            refine w_chn ?_
            walk_at "wp"
            refine w_ite (fun c2 => ?_) fun c2 => ?_
            · have c2 := of_decide_eq_true c2
              walk_at "wp"
              refine w_ite (fun c3 => ?_) fun c3 => ?_
              · have c3 := of_decide_eq_true c3
                walk_at "wp"
                refine w_bmL hl5 ?_
                walk_at "wp"
                intro t6 H6 n6 e6 h6
                have lx := PL.len hT5
                have hl6 := e6 _ _ hl5
                walk_at "wp"
                refine w_append hl6 (fun H7 f7 h7 => ?_) (decide_eq_true (by omega))
                walk_at "wp"
                have lm : (cur.map V.int).length = cur.length := List.length_map _
                have hw7 := f7 _ _ wl (e6 _ _ hw5)
                have hv7 := f7 _ _ vl (e6 _ _ hv5)
                refine w_ixL (v := .int (cur.getD gi 0)) (SqL.of hw7) (ix_nat (getD_int (by omega))) ?_
                walk_at "wp"
                refine w_setL hw7 (j := gi) (ixN_nat (by rw [lm]; omega)) ?_
                walk_at "wp"
                refine w_ixL (v := .int (cur.getD ti 0)) (SqL.of upd_same) (ix_nat (by rw [List.getElem?_set_ne (Ne.symm c1)]; exact getD_int (by omega))) ?_
                walk_at "wp"
                refine w_setL upd_same (j := ti) (ixN_nat (by rw [List.length_set, lm]; omega)) ?_
                walk_at "wp"
                rw [upd_twice]
                have f8 : Fr wn H7 (upd H7 wn (.lst (((cur.map V.int).set gi (.int (cur.getD gi 0 - dw))).set ti (.int (cur.getD ti 0 + dw))))) := Fr.at_
                have h8 : (upd H7 wn (.lst (((cur.map V.int).set gi (.int (cur.getD gi 0 - dw))).set ti (.int (cur.getD ti 0 + dw))))) wn = some (.lst (((cur.map V.int).set gi (.int (cur.getD gi 0 - dw))).set ti (.int (cur.getD ti 0 + dw)))) := upd_same
                generalize upd H7 wn (.lst (((cur.map V.int).set gi (.int (cur.getD gi 0 - dw))).set ti (.int (cur.getD ti 0 + dw)))) = H8 at f8 h8 ⊢
                have ev : vol1 cur ((gi : Int), ((ti : Int), dw)) = (cur.set gi (cur.getD gi 0 - dw)).set ti (cur.getD ti 0 + dw) := by
                  unfold vol1
                  show (cur.set (gi : Int).toNat _).set (ti : Int).toNat _ = _
                  rw [Int.toNat_natCast, Int.toNat_natCast]
                have pp : psb1 cur ((gi : Int), ((ti : Int), dw)) = true := by
                  unfold psb1
                  refine decide_eq_true ⟨by show (0 : Int) ≤ gi; omega, by show (gi : Int) < _; omega, by show (0 : Int) ≤ ti; omega, by show (ti : Int) < _; omega, by show ¬ (gi : Int) = ti; omega, by show 0 < dw; omega, ?_⟩
                  show dw < cur.getD (gi : Int).toNat 0
                  rw [Int.toNat_natCast]
                  omega
                have hT8 : Ts H8 (xs ++ [.ref t6]) (ts ++ [((gi : Int), ((ti : Int), dw))]) := PL.snoc (Ts.fr (Ts.fr (Ts.same hT5 e6) hl6 f7) hw7 f8) ⟨t6, rfl, f8 _ _ (ne_of (f7 _ _ (Ne.symm (ne_of_none hl5 n6)) h6) hw7 (by intro z; cases z)) (f7 _ _ (Ne.symm (ne_of_none hl5 n6)) h6)⟩
                refine ⟨_, _, _, _, _, _, xs ++ [.ref t6], ts ++ [((gi : Int), ((ti : Int), dw))], rfl, f8 _ _ vw hv7, ?_, f8 _ _ (Ne.symm wl) h7, hT8, psb_app hp (by rw [ec]; exact pp), fun x hx => ?_, by rw [List.length_append]; show ts.length + 1 ≤ i + 1; omega, (((S5.same e6).fr (Ne.symm la) f7).fr (Ne.symm wa) f8).mono (by omega), fun o u no ho => ?_⟩
                · rw [List.foldl_append, ec]
                  show H8 wn = some (.lst ((vol1 cur ((gi : Int), ((ti : Int), dw))).map V.int))
                  rw [ev, List.map_set, List.map_set]
                  exact h8
                · rcases List.mem_append.mp hx with hx | hx
                  · exact hg x hx
                  · rw [List.mem_singleton.mp hx]
                    exact ⟨⟨by show (0 : Int) ≤ gi; omega, by show (gi : Int) < 8; omega⟩, ⟨by show (0 : Int) ≤ ti; omega, by show (ti : Int) < 8; omega⟩, ⟨c2, dw9⟩, by show ¬ (gi : Int) = ti; omega⟩
                · exact f8 _ _ (ne_of_none ho nwH) (f7 _ _ (ne_of_none ho nlH) (e6 _ _ (F5 _ _ no ho)))
              · walk_at "wp"
                exact ⟨_, _, _, _, _, _, xs, ts, rfl, hv5, by rw [ec]; exact hw5, hl5, hT5, hp, hg, by omega, S5.mono (by omega), F5⟩
            · walk_at "wp"
              exact ⟨_, _, _, _, _, _, xs, ts, rfl, hv5, by rw [ec]; exact hw5, hl5, hT5, hp, hg, by omega, S5.mono (by omega), F5⟩
          · walk_at "wp"
            exact ⟨_, _, _, _, _, _, xs, ts, rfl, hv5, by rw [ec]; exact hw5, hl5, hT5, hp, hg, by omega, S5.mono (by omega), F5⟩
        · rintro σ' H' ⟨v10, v11, v12, v13, v14, v15, xs, ts, rfl, hv, hw, hl, hT, hp, hg, lt, S', F⟩
          walk_at "wp"
          intro p H13 n13 e13 h13
          refine q p v l vn xs ts H13 nvH nlH h13 ⟨⟨e13 _ _ hv, by omega, by omega, gv⟩, e13 _ _ hl, Ts.same hT e13, hg, by omega, hp⟩ vl ((S'.same e13).mono (by omega)) (F.trans (.same e13))
end
end K38

namespace K38
open PySem L2 G
local macro_rules | `(tactic| walk_at "pos") => `(tactic| first | assumption | (decide +kernel) | omega)
local macro_rules | `(tactic| walk_at "bt") => `(tactic| first
  | assumption
  | (decide +kernel)
  | exact Bt.mono (by assumption) (by decide)
  | (refine' Bt.add ?b1 ?b2; (case b1 => walk_at "bt"); (case b2 => walk_at "bt"))
  | (refine' Bt.sub ?b1 ?b2; (case b1 => walk_at "bt"); (case b2 => walk_at "bt"))
  | (refine' Bt.mul ?b1 ?b2; (case b1 => walk_at "bt"); (case b2 => walk_at "bt"))
  | (refine' Bt.mod ?b1 ?b2; (case b2 => walk_at "bt"); (case b1 => walk_at "pos"))
  | (refine' Bt.div ?b1 ?b2; (case b2 => walk_at "bt"); (case b1 => walk_at "pos"))
  | (refine' Bt.pow3 ?b1; (case b1 => walk_at "bt"))
  | (refine' Bt.neg ?b1; (case b1 => walk_at "bt"))
  | exact Bt.any)
local macro_rules | `(tactic| walk_at "btm") => `(tactic| ((refine' Bt.mono ?m1 ?m2); (case m1 => walk_at "bt"); (case m2 => (decide +kernel))))
local macro_rules | `(tactic| walk_at "ne") => `(tactic| first
  | assumption
  | (refine' Ne.symm ?q1; (case q1 => assumption))
  | (refine' ne_of_none (by assumption) ?q1; (case q1 => assumption))
  | (refine' Ne.symm (ne_of_none (by assumption) ?q1); (case q1 => assumption)))
local macro_rules | `(tactic| walk_at "hp") => `(tactic| first
  | assumption
  | exact upd_same
  | ((refine' lst_same ?q1 (by assumption : Same _ _)); (case q1 => walk_at "hp"))
  | ((refine' (by assumption : Fr _ _ _) _ _ ?n ?h); (case n => walk_at "ne"); (case h => walk_at "hp"))
  | ((refine (upd_ne (by assumption)).trans ?_); walk_at "hp")
  | ((refine (upd_ne (Ne.symm (by assumption))).trans ?_); walk_at "hp"))
local macro_rules | `(tactic| walk_at "sr") => `(tactic| first
  | assumption
  | ((refine' Src.same ?q1 (by assumption : Same _ _)); (case q1 => walk_at "sr")))
local macro_rules | `(tactic| walk_at "rt") => `(tactic| first
  | assumption
  | ((refine' Rat.same ?q1 (by assumption : Same _ _)); (case q1 => walk_at "rt"))
  | ((refine' Rat.fr ?q1 ?q2 (by assumption : Fr _ _ _)); (case q2 => walk_at "sr"); (case q1 => walk_at "rt")))
local macro_rules | `(tactic| walk_at "tp") => `(tactic| first
  | assumption
  | ((refine' tup_same ?q1 (by assumption : Same _ _)); (case q1 => walk_at "tp"))
  | ((refine' tup_fr ?q1 ?q2 (by assumption : Fr _ _ _)); (case q2 => walk_at "sr"); (case q1 => walk_at "tp")))
local macro_rules | `(tactic| walk_at "ls") => `(tactic| first
  | assumption
  | ((refine' lst_same ?q1 (by assumption : Same _ _)); (case q1 => walk_at "ls"))
  | ((refine' lst_fr ?q1 ?q2 (by assumption : Fr _ _ _)); (case q2 => assumption); (case q1 => walk_at "ls")))
local macro_rules | `(tactic| walk_at "sm") => `(tactic| first
  | exact Same.refl _
  | assumption
  | ((refine Same.trans ?_ (by assumption : Same _ _)); walk_at "sm"))
local macro_rules | `(tactic| walk_at "fr") => `(tactic| first
  | exact Fr.refl _ _
  | assumption
  | ((refine Fr.trans ?_ (Fr.same (by assumption : Same _ _))); walk_at "fr")
  | ((refine Fr.trans ?_ (by assumption : Fr _ _ _)); walk_at "fr"))
local macro_rules | `(tactic| walk_at "wp1") => `(tactic| first
  | (with_reducible refine w_seq ?_) | (with_reducible refine w_next ?_) | (with_reducible refine w_ret ?_) | (with_reducible refine w_asg ?_) | (with_reducible refine w_gn ?_) | (with_reducible refine w_if ?_)
  | (with_reducible refine w_cons ?_) | (with_reducible refine w_nil ?_) | (with_reducible refine w_c ?_) | (with_reducible refine w_op ?_) | (with_reducible refine w_cb ?_)
  | ((with_reducible refine' w_var ?h ?_); (case h => exact rfl))
  | (with_reducible refine w_I0 ?_) | (with_reducible refine w_eqI ?_) | (with_reducible refine w_neI ?_) | (with_reducible refine w_test ?_) | (with_reducible refine w_tB ?_) | (with_reducible refine w_bl ?_) | (with_reducible refine w_par ?_) | (with_reducible refine w_par2 ?_) | (with_reducible refine w_par3 ?_) | (with_reducible refine w_three ?_)
  | (with_reducible refine w_not ?_) | (with_reducible refine w_and ?_) | (with_reducible refine w_or ?_) | (with_reducible refine w_andV ?_) | (with_reducible refine w_orV ?_) | (with_reducible refine w_notV ?_) | (with_reducible refine w_tif ?_)
  | (with_reducible refine w_tup ?_) | (with_reducible refine w_lst ?_) | (with_reducible refine w_un ?_) | (with_reducible refine w_U ?_) | (with_reducible refine w_drop ?_) | (with_reducible refine w_brk ?_) | (with_reducible refine w_cont ?_) | (with_reducible refine w_retN ?_)
  | (with_reducible refine w_call ?_) | (with_reducible refine w_fld ?_) | (with_reducible refine w_sfld ?_) | (with_reducible refine w_prop ?_) | (with_reducible refine w_make ?_) | (with_reducible refine w_meth ?_) | (with_reducible refine w_methN ?_) | (with_reducible refine w_revL ?_) | (with_reducible refine w_gsub ?_)
  | ((with_reducible refine' w_powN ?c1 ?c2 ?_); (case c2 => (decide +kernel)); (case c1 => exact rfl))
  | ((with_reducible refine' w_powV ?c1 ?c2 ?c3 ?c4 ?_); (case c2 => walk_at "bt"); (case c3 => (decide +kernel)); (case c4 => (decide +kernel)); (case c1 => exact rfl))
  | ((with_reducible refine' w_I (C := CMulW) ?c1 ?_); (case c1 => (refine' mulOk ?k1 ?k2 ?k3; (case k1 => walk_at "bt"); (case k2 => walk_at "bt"); (case k3 => decide +kernel))))
  | ((with_reducible refine' w_I (C := CDivW) ?c1 ?_); (case c1 => (refine' divOk ?k1 ?k2 ?k3; (case k1 => walk_at "pos"); (case k2 => walk_at "bt"); (case k3 => decide +kernel))))
  | ((with_reducible refine' w_I (C := fun _ j => 0 < j) ?c1 ?_); (case c1 => walk_at "pos"))
  | (with_reducible refine w_isB ?_) | (with_reducible refine w_notB ?_) | (with_reducible refine w_neS ?_) | (with_reducible refine w_eqS ?_)
  | (with_reducible refine w_iRng1 ?_) | (with_reducible refine w_for ?_) | (with_reducible refine w_iEnum ?_) | (with_reducible refine w_iList ?_) | (with_reducible refine w_iTup ?_) | (with_reducible refine w_noPart ?_) | (with_reducible refine w_part ?_) | (with_reducible refine w_int ?_)
  | (with_reducible refine w_sl ?_)
  | (with_reducible refine w_two ?_) | (with_reducible refine w_one ?_)
  | ((with_reducible refine' w_ixL ?hs ?he ?_); (case hs => first | (refine' SqL.of ?q0; (case q0 => walk_at "hp")) | assumption); (case he => exact rfl))
  | ((with_reducible refine' w_ixT ?hs ?he ?_); (case hs => first | (refine' SqT.of ?q0; (case q0 => walk_at "tp")) | assumption); (case he => exact rfl))
  | ((with_reducible refine' w_setL ?hs ?he ?_); (case hs => walk_at "hp"); (case he => exact rfl))
  | (with_reducible refine w_iteT rfl ?_) | (with_reducible refine w_iteF rfl ?_) | ((with_reducible refine w_alloc ?h ?_); (case h => exact rfl))
  | (with_reducible refine w_augS ?_) | (with_reducible refine w_ipI ?_) | (with_reducible refine w_exo1 ?_) | (with_reducible refine w_exoI ?_) | (with_reducible refine w_exoK ?_) | (with_reducible refine w_fldE ?_) | (with_reducible refine w_ost ?_) | (with_reducible refine w_makeS ?_) | (with_reducible refine w_methS ?_) | (with_reducible refine w_callS ?_) | (with_reducible refine w_bm ?_) | (with_reducible refine w_bm0 ?_) | (with_reducible refine w_din ?_) | (with_reducible refine w_dget ?_) | (with_reducible refine w_dput ?_) | (with_reducible refine w_listVals ?_) | (with_reducible refine w_dget2 ?_) | (with_reducible refine w_dpop2 ?_) | (with_reducible refine w_makeK ?_) | (with_reducible refine w_callN ?_))
local macro_rules | `(tactic| walk_at "wp") => `(tactic| repeat (walk_at "wp1"))

section
variable {P : Program} {w : World} {K : PySem.W.Frag} {mg : Str → Option Value} {base : Heap} {A : Ad}
theorem kb_over (T : Txt K mg A) : KBn K A.d_Ratio_over ["self", "other"] 1 ["other"] (fun us ws => us ++ ws) (fun vs zs => vs ++ zs) := by
  obtain ⟨oc, od, kV, doc, pm, an, cdv, ct, osl, e, _⟩ := T.fun_Ratio_over.ex
  rw [e]
  exact kbn_self fun us ws h1 h2 => match us, ws, h1, h2 with | [_], [_], _, _ => rfl
theorem ok_Ratio_over (T : Txt K mg A) : FnOk P w K mg base CX0 4 A.a_Ratio_over A.d_Ratio_over ["self", "other"] (spOver A.c_Ratio) := by
  refine T.fun_Ratio_over.ok sc_Ratio_over (fun vs H Q E h => ?_) (fun cdv B outer s H vs Q E hr h => ?_)
  · obtain ⟨p, q, x, y, n, rfl, _⟩ := h
    rfl
  · obtain ⟨p, q, x, y, n, rfl, ⟨dx, hp⟩, ⟨dy, hq⟩, hx, hy, hn, hne, k⟩ := h
    refine ⟨_, (pss_cons (ps_if (pt_not (pt_val (pe_call (ok_is_ratio T) (hr.mono (by decide)) rfl T.mg_is_ratio T.fun_is_ratio.kp T.bd_is_ratio .nil pass0 (pa_cons (pv 1) pa_nil)))) (pss_one ps_never) pss_nil)
 (pss_cons (ps_if (pt_cmpR op_eq (pe_fld (pv 1) rfl) pe_int (nomark _)) (pss_one ps_never) pss_nil)
 (pss_cons (ps_set (i := 2) (sc_Ratio_over).nd rfl (Or.inl rfl) (pe_op op_mulW (pe_fld (pv 0) rfl) (pe_fld (pv 1) rfl)))
 (pss_cons (ps_set (i := 3) (sc_Ratio_over).nd rfl (Or.inl rfl) (pe_op op_mulW (pe_fld (pv 0) rfl) (pe_fld (pv 1) rfl)))
 (pss_cons (ps_if (pt_cmpR op_lt (pv 3) pe_int (nomark _)) (pss_one (ps_ret (pe_make T.mk_Ratio (ok_Ratio_init T) (hr.mono (by decide)) rfl T.mgc_Ratio (b2_Ratio T).choose_spec.2 (b2_Ratio T).choose_spec.1 pass0 (pa_cons (pe_un un_neg (pv 2)) (pa_cons (pe_un un_neg (pv 3)) pa_nil))))) pss_nil)
 (pss_one (ps_ret (pe_make T.mk_Ratio (ok_Ratio_init T) (hr.mono (by decide)) rfl T.mgc_Ratio (b2_Ratio T).choose_spec.2 (b2_Ratio T).choose_spec.1 pass0 (pa_cons (pv 2) (pa_cons (pv 3) pa_nil)))))))))), ?_⟩
    have IT := ins_ty T
    have hm := mul_ne hx hne
    obtain ⟨x1, x2, x3, x4⟩ := hx
    obtain ⟨y1, y2, y3, y4⟩ := hy
    have a1 := x3.mono (show n ≤ 3500 by omega)
    have a2 := x4.mono (show n ≤ 3500 by omega)
    have b1 := y3.mono (show n ≤ 3500 by omega)
    have b2 := y4.mono (show n ≤ 3500 by omega)
    clear x3 x4 y3 y4
    walk_at "wp"
    refine w_isR IT T.ki_Ratio_Ratio ⟨dy, hq⟩ ?_
    walk_at "wp"
    refine w_fld1 hq T.cl_Ratio T.na_Ratio_top (rf_top _ _) ?_
    walk_at "wp"
    refine w_iteF (decide_eq_false hne) ?_
    walk_at "wp"
    refine w_fld1 hp T.cl_Ratio T.na_Ratio_top (rf_top _ _) ?_
    walk_at "wp"
    refine w_fld1 hq T.cl_Ratio T.na_Ratio_bottom (rf_bottom _ _) ?_
    walk_at "wp"
    refine w_fld1 hp T.cl_Ratio T.na_Ratio_bottom (rf_bottom _ _) ?_
    walk_at "wp"
    refine w_fld1 hq T.cl_Ratio T.na_Ratio_top (rf_top _ _) ?_
    walk_at "wp"
    refine w_ite (fun c => ?_) fun c => ?_
    · have c : x.2 * y.1 < 0 := of_decide_eq_true c
      walk_at "wp"
      refine ratio_of (by omega) (Bt.mono (Bt.mul a2 b1).neg (by decide)) fun r H1 hr1 e1 R => ?_
      refine k r H1 hr1 e1 ?_
      have e : qt x y = low (-(x.1 * y.2)) (-(x.2 * y.1)) := by unfold qt; rw [if_neg (by omega)]
      rw [e]
      exact R
    · have c : ¬ x.2 * y.1 < 0 := of_decide_eq_false c
      walk_at "wp"
      refine ratio_of (by omega) (Bt.mono (Bt.mul a2 b1) (by decide)) fun r H1 hr1 e1 R => ?_
      refine k r H1 hr1 e1 ?_
      have e : qt x y = low (x.1 * y.2) (x.2 * y.1) := by unfold qt; rw [if_pos (by omega)]
      rw [e]
      exact R
theorem ok_Ratio_subW (T : Txt K mg A) : FnOk P w K mg base CX0 4 A.a_Ratio_sub A.d_Ratio_sub ["self", "other"] (spBinW A.c_Ratio 1) := by
  refine T.fun_Ratio_sub.ok sc_Ratio_sub (fun vs H Q E h => ?_) (fun cdv B outer s H vs Q E hr h => ?_)
  · obtain ⟨p, q, x, y, rfl, _⟩ := h
    rfl
  · obtain ⟨p, q, x, y, rfl, ⟨dx, hp⟩, ⟨dy, hq⟩, hx, hy, k⟩ := h
    refine ⟨_, (pss_cons (ps_if (pt_not (pt_val (pe_callB call_isi (by rfl) T.z_isinstance (by decide +kernel) (pa_cons (pv 1) (pa_cons (pe_glob (v := .ref A.c_Ratio) rfl T.mgc_Ratio rfl) pa_nil))))) (pss_one ps_never) pss_nil)
 (pss_cons (ps_set (i := 2) (sc_Ratio_sub).nd rfl (Or.inl rfl) (pe_op op_sub (pe_op op_mulW (pe_fld (pv 0) rfl) (pe_fld (pv 1) rfl)) (pe_op op_mulW (pe_fld (pv 1) rfl) (pe_fld (pv 0) rfl))))
 (pss_one (ps_ret (pe_make T.mk_Ratio (ok_Ratio_init T) (hr.mono (by decide)) rfl T.mgc_Ratio (b2_Ratio T).choose_spec.2 (b2_Ratio T).choose_spec.1 pass0 (pa_cons (pv 2) (pa_cons (pe_op op_mulW (pe_fld (pv 0) rfl) (pe_fld (pv 1) rfl)) pa_nil))))))), ?_⟩
    obtain ⟨x1, x2, x3, x4⟩ := hx
    obtain ⟨y1, y2, y3, y4⟩ := hy
    walk_at "wp"
    refine ⟨_, _, _, _, true, rfl, .own _, .base (.ins hq T.cl_Ratio T.cc_Ratio T.sg_ T.st_ T.mo_Ratio), T.ki_Ratio_Ratio, ?_⟩
    walk_at "wp"
    have a1 := x3
    have a2 := x4
    have b1 := y3
    have b2 := y4
    clear x3 x4 y3 y4
    refine w_fld1 hp T.cl_Ratio T.na_Ratio_top (rf_top _ _) ?_
    walk_at "wp"
    refine w_fld1 hq T.cl_Ratio T.na_Ratio_bottom (rf_bottom _ _) ?_
    walk_at "wp"
    refine w_fld1 hq T.cl_Ratio T.na_Ratio_top (rf_top _ _) ?_
    walk_at "wp"
    refine w_fld1 hp T.cl_Ratio T.na_Ratio_bottom (rf_bottom _ _) ?_
    walk_at "wp"
    refine w_fld1 hp T.cl_Ratio T.na_Ratio_bottom (rf_bottom _ _) ?_
    walk_at "wp"
    refine w_fld1 hq T.cl_Ratio T.na_Ratio_bottom (rf_bottom _ _) ?_
    walk_at "wp"
    refine ratio_of (Int.mul_pos x1 y1) (Bt.mono (Bt.mul a2 b2) (by decide)) fun r H1 hr1 e1 R => ?_
    exact k r H1 hr1 e1 (by rw [jn_sub]; exact R)
theorem ok_is_row (T : Txt K mg A) : FnOk P w K mg base CX0 3 A.a_is_row A.d_is_row ["value"] (spRow A.c_Ratio) := by
  refine T.fun_is_row.ok sc_is_row (fun vs H Q E h => ?_) (fun cdv B outer s H vs Q E hr h => ?_)
  · obtain ⟨v, xs, rfl, _⟩ := h
    rfl
  · obtain ⟨v, xs, rfl, ⟨l, rs, rfl, hl, pR⟩, x1, x8, q⟩ := h
    refine ⟨_, (pss_one (ps_ret (pe_and (pe_call (ok_is_list_within T) (hr.mono (by decide)) rfl T.mg_is_list_within T.fun_is_list_within.kp T.bd_is_list_within .nil pass0 (pa_cons (pv 0) (pa_cons pe_int (pa_cons (pe_glob (v := .int 8) rfl T.gi_MOST_IN_ROW.choose_spec ⟨_, rfl⟩) pa_nil)))) (pe_one (pe_callB (cr_all rfl) (by rfl) T.z_all (by decide +kernel) (pa_cons (pe_lc (own := [("ratio", 1)]) (g := gName 1) rfl (sc_is_row).nd (pi_list (pv 0)) (blkOk_by (own := [("ratio", 1)]) (N := N_is_row) (sc := defScope s_is_row) (by decide +kernel)) (fun _ _ _ _ _ => (pg_name (i := 1) (sc_is_row).nd rfl (Or.inl rfl))) (fun _ _ _ _ _ => pts_nil) (fun _ _ _ _ _ => (pe_call (ok_is_ratio T) (hr.mono (by decide)) rfl T.mg_is_ratio T.fun_is_ratio.kp T.bd_is_ratio .nil pass0 (pa_cons (pv 1) pa_nil)))) pa_nil)))))), ?_⟩
    have IT := ins_ty T
    have lr := PL.len pR
    walk_at "wp"
    refine ⟨l, _, 1, 8, rfl, hl, by omega, ?_⟩
    rw [decide_eq_true (show (1 : Int) ≤ rs.length ∧ (rs.length : Int) ≤ 8 by omega)]
    walk_at "wp"
    refine w_lc ?_
    walk_at "wp"
    refine ⟨l, rfl, ⟨_, SqL.of hl⟩, w_lcG (O := fun _ v b => v = V.bl b) kept_val (fun _ => true) (fun _ => true) (SqL.of hl) (by omega) ?_ ?_⟩
    · intro i x H1 Re Rn hx e1 _ re
      obtain ⟨y, hy, p, rfl, R⟩ := pR.get hx
      refine w_gn ⟨rfl, ?_⟩
      refine w_yes (w_iteT rfl ?_)
      walk_at "wp"
      refine w_isR IT T.ki_Ratio_Ratio (R.same e1) ?_
      exact re rfl _ _ (Same.refl _) rfl
    · intro L acc H1 nL e1 hL ps
      rw [pl_bl ps] at hL
      walk_at "wp"
      refine ⟨L, _, rfl, SqL.of hL, ?_⟩
      rw [show (((List.range rs.length).filter (fun _ => true)).map fun _ => true).all id = true from by rw [List.all_map]; exact List.all_eq_true.mpr fun _ _ => rfl]
      exact q _ e1
theorem ok_is_rows (T : Txt K mg A) : FnOk P w K mg base CX0 5 A.a_is_rows A.d_is_rows ["value"] (spIsRws A.c_Ratio) := by
  refine T.fun_is_rows.ok sc_is_rows (fun vs H Q E h => ?_) (fun cdv B outer s H vs Q E hr h => ?_)
  · obtain ⟨a, rows, n, wd, rfl, _⟩ := h
    rfl
  · obtain ⟨a, rows, n, wd, rfl, tb, W, q⟩ := h
    refine ⟨_, (pss_cons (ps_if (PW.pt (pw_or (pt_not (pt_val (pe_call (ok_is_list_within T) (hr.mono (by decide)) rfl T.mg_is_list_within T.fun_is_list_within.kp T.bd_is_list_within .nil pass0 (pa_cons (pv 0) (pa_cons pe_int (pa_cons (pe_glob (v := .int 8) rfl T.gi_MOST_ROWS.choose_spec ⟨_, rfl⟩) pa_nil)))))) (pw_or1 (pt_not (pt_val (pe_callB (cr_all rfl) (by rfl) T.z_all (by decide +kernel) (pa_cons (pe_lc (own := [("row", 1)]) (g := gName 1) rfl (sc_is_rows).nd (pi_list (pv 0)) (blkOk_by (own := [("row", 1)]) (N := N_is_rows) (sc := defScope s_is_rows) (by decide +kernel)) (fun _ _ _ _ _ => (pg_name (i := 1) (sc_is_rows).nd rfl (Or.inl rfl))) (fun _ _ _ _ _ => pts_nil) (fun _ _ _ _ _ => (pe_call (ok_is_row T) (hr.mono (by decide)) rfl T.mg_is_row T.fun_is_row.kp T.bd_is_row .nil pass0 (pa_cons (pv 1) pa_nil)))) pa_nil))))))) (pss_one (ps_ret pe_bl)) pss_nil)
 (pss_one (ps_ret (pe_callB (cr_all rfl) (by rfl) T.z_all (by decide +kernel) (pa_cons (pe_lc (own := [("row", 1)]) (g := gName 1) rfl (sc_is_rows).nd (pi_list (pv 0)) (blkOk_by (own := [("row", 1)]) (N := N_is_rows) (sc := defScope s_is_rows) (by decide +kernel)) (fun _ _ _ _ _ => (pg_name (i := 1) (sc_is_rows).nd rfl (Or.inl rfl))) (fun _ _ _ _ _ => pts_nil) (fun _ _ _ _ _ => (pe_cmpR op_eq (pe_callB (G.call_lenK (K := K) rfl) (by rfl) T.z_len (by decide +kernel) (pa_cons (pv 1) pa_nil)) (pe_callB (G.call_lenK (K := K) rfl) (by rfl) T.z_len (by decide +kernel) (pa_cons (pe_ix (G.ix_listK (K := K) rfl) (pv 0) pe_int (fun _ _ => rfl)) pa_nil)) (nomark _)))) pa_nil))))), ?_⟩
    obtain ⟨us, ha, pr⟩ := tb
    have lu := PL.len pr
    rw [W.len] at lu
    have n1 := W.n1
    have n8 := W.n8
    have w1 := W.w1
    have w8 := W.w8
    have rowat : ∀ (i : Nat) x, us[i]? = some x → ∃ l rs xs, x = .ref l ∧ H l = some (.lst rs) ∧ rs.length = wd ∧ xs.length = wd ∧ RowR A.c_Ratio H x xs := fun i x hx => by
      obtain ⟨r, hr', l, rs, rfl, _, hl, R⟩ := pr.get hx
      have lr := PL.len R
      have lw := W.each r (List.mem_of_getElem? hr')
      exact ⟨l, rs, r, rfl, hl, by omega, lw, l, rs, rfl, hl, R⟩
    walk_at "wp"
    refine ⟨a, _, 1, 8, rfl, ha, by omega, ?_⟩
    rw [decide_eq_true (show (1 : Int) ≤ us.length ∧ (us.length : Int) ≤ 8 by omega)]
    walk_at "wp"
    refine w_lc ?_
    walk_at "wp"
    refine ⟨a, rfl, ⟨_, SqL.of ha⟩, w_lcG (O := fun _ v b => v = V.bl b) kept_val (fun _ => true) (fun _ => true) (SqL.of ha) (by omega) ?_ ?_⟩
    · intro i x H1 Re Rn hx e1 _ re
      obtain ⟨l, rs, xs, rfl, _, _, lxs, R⟩ := rowat i x hx
      refine w_gn ⟨rfl, ?_⟩
      refine w_yes (w_iteT rfl ?_)
      walk_at "wp"
      exact ⟨_, xs, rfl, R.same e1, by omega, by omega, fun H2 e2 => re rfl _ _ e2 rfl⟩
    · intro L acc H1 nL e1 hL ps
      rw [pl_bl ps] at hL
      walk_at "wp"
      refine ⟨L, _, rfl, SqL.of hL, ?_⟩
      rw [show (((List.range us.length).filter (fun _ => true)).map fun _ => true).all id = true from by rw [List.all_map]; exact List.all_eq_true.mpr fun _ _ => rfl]
      walk_at "wp"
      refine w_lc ?_
      walk_at "wp"
      have ha1 := e1 _ _ ha
      refine ⟨a, rfl, ⟨_, SqL.of ha1⟩, w_lcG (O := fun _ v b => v = V.bl b) kept_val (fun _ => true) (fun _ => true) (SqL.of ha1) (by omega) ?_ ?_⟩
      · intro i x H2 Re Rn hx e2 _ re
        obtain ⟨l, rs, _, rfl, hl, lr, _, _⟩ := rowat i x hx
        obtain ⟨x0, hx0⟩ : ∃ x0, us[0]? = some x0 := ⟨_, List.getElem?_eq_getElem (by omega)⟩
        obtain ⟨l0, rs0, _, rfl, hl0, lr0, _, _⟩ := rowat 0 x0 hx0
        have e12 := e1.trans e2
        refine w_gn ⟨rfl, ?_⟩
        refine w_yes (w_iteT rfl ?_)
        walk_at "wp"
        refine w_lenL (SqL.of (e12 _ _ hl)) ?_
        walk_at "wp"
        refine w_ixL (SqL.of (e12 _ _ ha)) (v := .ref l0) (by show atI us ((0:Nat):Int) = _; exact ix_nat hx0) ?_
        walk_at "wp"
        refine w_lenL (SqL.of (e12 _ _ hl0)) ?_
        walk_at "wp"
        rw [lr, lr0, decide_eq_true rfl]
        exact re rfl _ _ (Same.refl _) rfl
      · intro L2' acc2 H2 nL2 e2 hL2 ps2
        rw [pl_bl ps2] at hL2
        walk_at "wp"
        refine ⟨L2', _, rfl, SqL.of hL2, ?_⟩
        rw [show (((List.range us.length).filter (fun _ => true)).map fun _ => true).all id = true from by rw [List.all_map]; exact List.all_eq_true.mpr fun _ _ => rfl]
        exact q _ (e1.trans e2)
theorem ok_check_rows (T : Txt K mg A) : FnOk P w K mg base CX0 6 A.a_check_rows A.d_check_rows ["rows"] (spChkRws A.c_Ratio) := by
  refine T.fun_check_rows.ok sc_check_rows (fun vs H Q E h => ?_) (fun cdv B outer s H vs Q E hr h => ?_)
  · obtain ⟨a, rows, n, wd, rfl, _⟩ := h
    rfl
  · obtain ⟨a, rows, n, wd, rfl, tb, W, q⟩ := h
    refine ⟨_, (pss_one (ps_if (pt_not (pt_val (pe_call (ok_is_rows T) (hr.mono (by decide)) rfl T.mg_is_rows T.fun_is_rows.kp T.bd_is_rows .nil pass0 (pa_cons (pv 0) pa_nil)))) (pss_one ps_never) pss_nil)), ?_⟩
    walk_at "wp"
    refine ⟨a, rows, n, wd, rfl, tb, W, fun H1 e1 => ?_⟩
    walk_at "wp"
    exact q H1 e1
theorem eq0_iff {m : Nat} {x : Pr} (h : Lp m x) : decide (x = (0, 1)) = decide (x.1 = 0) := decide_eq_decide.mpr ⟨fun e => by rw [e], fun e => by
  have h2 := h.2.1
  have h1 := h.1
  rw [e, Int.gcd_zero_left] at h2
  exact Prod.ext e (by show x.2 = 1; omega)⟩
theorem ok_pivot_in (T : Txt K mg A) : FnOk P w K mg base CX0 6 A.a_pivot_in A.d_pivot_in ["rows", "column"] (spPivot A.c_Ratio) := by
  refine T.fun_pivot_in.ok sc_pivot_in (fun vs H Q E h => ?_) (fun cdv B outer s H vs Q E hr h => ?_)
  · obtain ⟨a, rows, c, n, m, rfl, _⟩ := h
    rfl
  · obtain ⟨a, rows, c, n, m, rfl, tb, W, hc, n8, r8, q1, q2⟩ := h
    refine ⟨_, (pss_cons (ps_for PassesOwn.never rfl (pi_enum rfl T.z_enumerate (pa_cons (pv 0) pa_nil)) (pg_tup rfl (pgs_cons (pg_name (i := 2) (sc_pivot_in).nd rfl (Or.inl rfl)) (pgs_cons (pg_name (i := 3) (sc_pivot_in).nd rfl (Or.inl rfl)) pgs_nil))) (pss_one (ps_if (pt_cmpR (G.op_neO (ok_Ratio_eq T) (hr.mono (by decide)) T.bd_Ratio_eq pass0 T.om_Ratio_eq T.ne_Ratio) (pe_ix ix_list (pv 3) (pv 1) (fun _ _ => rfl)) (pe_make T.mk_Ratio (ok_Ratio_init T) (hr.mono (by decide)) rfl T.mgc_Ratio (b1_Ratio T).choose_spec.2 (b1_Ratio T).choose_spec.1 pass0 (pa_cons pe_int pa_nil)) (nomark _)) (pss_one (ps_ret (pv 2))) pss_nil)))
 (pss_one (ps_ret pe_non))), ?_⟩
    have IT := ins_ty T
    obtain ⟨us, ha, pr⟩ := tb
    have lu := PL.len pr
    walk_at "wp"
    refine w_walkE (SqL.of ha) rfl (fun i σ' H' => ∃ v2 v3, σ' = [some (.ref a), some (.int (c : Int)), v2, v3] ∧ Same H H' ∧ ∀ k, k < i → ((rows.getD k []).getD c (0, 1)).1 = 0) ⟨_, _, rfl, Same.refl _, nofun⟩ ?_ ?_ ?_
    · rintro i σ' H' _ ⟨_, _, _, e, _⟩
      exact SqL.of (e _ _ ha)
    · rintro i x σ' H' H2 hx ⟨v2, v3, rfl, e, z⟩ e2
      obtain ⟨xs, hxs, l, rs, rfl, _, hl, R⟩ := pr.get hx
      have s2 := e.trans e2
      have il := (List.getElem?_eq_some_iff.mp hxs).1
      have ex : rows.getD i [] = xs := by rw [List.getD_eq_getElem?_getD, hxs]; rfl
      obtain ⟨lxs, bx⟩ := W xs (List.mem_of_getElem? hxs)
      obtain ⟨vy, hvy, ry, rfl, Ry⟩ := R.gety (k := c) (y := xs.getD c (0, 1)) (getP (by omega))
      have lx := bx _ (List.mem_of_getElem? (getP (xs := xs) (k := c) (by omega)))
      walk_at "wp"
      refine w_ixL (SqL.of (s2 _ _ hl)) (ix_nat hvy) ?_
      walk_at "wp"
      refine ratio_lp (x := (0, 1)) lp_zero rfl fun r3 H3 n3 e3 R3 => ?_
      walk_at "wp"
      refine w_neR IT (Ry.same (s2.trans e3)) R3 ?_
      rw [eq0_iff lx]
      refine ⟨_, rfl, ?_⟩
      refine w_ite (fun t => ?_) fun t => ?_
      · walk_at "wp"
        exact q1 i H3 (s2.trans e3) il (by rw [ex]; simpa using t)
      · walk_at "wp"
        refine ⟨_, _, rfl, s2.trans e3, fun k hk => ?_⟩
        by_cases kk : k = i
        · rw [kk, ex]
          simpa using t
        · exact z k (by omega)
    · rintro σ' H' ⟨v2, v3, rfl, e, z⟩
      walk_at "wp"
      exact q2 H' e fun i hi => z i (by omega)
theorem ok_cleared (T : Txt K mg A) : FnOk P w K mg base CX0 5 A.a_cleared A.d_cleared ["row", "pivot", "column"] (spCleared A.c_Ratio) := by
  refine T.fun_cleared.ok sc_cleared (fun vs H Q E h => ?_) (fun cdv B outer s H vs Q E hr h => ?_)
  · obtain ⟨v, u, xs, ps, c, rfl, _⟩ := h
    rfl
  · obtain ⟨v, u, xs, ps, c, rfl, ⟨lv, rv, rfl, hv, pv1⟩, ⟨lu, ru, rfl, hu, pu1⟩, lxp, l8, hc, bx, bp, nz, bq, q⟩ := h
    refine ⟨_, (pss_cons (ps_set (i := 3) (sc_cleared).nd rfl (Or.inr rfl) (pe_meth (pe_ix ix_list (pv 0) (pv 2) (fun _ _ => rfl)) T.cl_Ratio T.me_Ratio_over (ok_Ratio_over T) (hr.mono (by decide)) T.bd_Ratio_over .nil pass0 (pa_cons (pe_ix ix_list (pv 1) (pv 2) (fun _ _ => rfl)) pa_nil)))
 (pss_one (ps_ret (pe_lc (own := [("ratio", 4), ("other", 5)]) (g := gTup K 2 (gCons (gName 4) (gCons (gName 5) gNil))) rfl (sc_cleared).nd (pi_zip rfl T.z_zip (pa_cons (pv 0) (pa_cons (pv 1) pa_nil))) (blkOk_by (own := [("ratio", 4), ("other", 5)]) (N := N_cleared) (sc := defScope s_cleared) (by decide +kernel)) (fun _ _ _ _ _ => (pg_tup rfl (pgs_cons (pg_name (i := 4) (sc_cleared).nd rfl (Or.inl rfl)) (pgs_cons (pg_name (i := 5) (sc_cleared).nd rfl (Or.inl rfl)) pgs_nil)))) (fun _ _ _ _ _ => pts_nil) (fun _ _ _ _ _ => (pe_op (G.op_own (ok_Ratio_subW T) (hr.mono (by decide)) T.bd_Ratio_sub pass0 T.om_Ratio_sub T.sf_Ratio) (pv 4) (pe_op (G.op_own (ok_Ratio_mul T) (hr.mono (by decide)) T.bd_Ratio_mul pass0 T.om_Ratio_mul T.sf_Ratio) (pv 5) (pv 3)))))))), ?_⟩
    have lrv := PL.len pv1
    have lru := PL.len pu1
    obtain ⟨vx, hvx, rx, rfl, Rx⟩ := pv1.gety (k := c) (y := xs.getD c (0, 1)) (getP hc)
    obtain ⟨vp, hvp, rp, rfl, Rp⟩ := pu1.gety (k := c) (y := ps.getD c (0, 1)) (getP (by omega))
    have lx := bx _ (List.mem_of_getElem? (getP hc))
    have lp := bp _ (List.mem_of_getElem? (getP (xs := ps) (k := c) (by omega)))
    walk_at "wp"
    refine w_ixL (SqL.of hv) (ix_nat hvx) ?_
    refine w_ofR Rx rfl rfl ?_
    walk_at "wp"
    refine w_ixL (SqL.of hu) (ix_nat hvp) ?_
    walk_at "wp"
    refine ⟨rx, rp, _, _, 2660, rfl, Rx, Rp, lx, lp, by decide, nz, fun m1 H1 n1 e1 Rm => ?_⟩
    walk_at "wp"
    refine w_lc ?_
    refine w_iZip ?_
    walk_at "wp"
    have hv1 := e1 _ _ hv
    have hu1 := e1 _ _ hu
    have pv2 := rats_same pv1 e1
    have pu2 := rats_same pu1 e1
    refine ⟨lv, lu, _, _, rfl, SqL.of hv1, SqL.of hu1, w_lcZip (O := RatV A.c_Ratio) kept_rat (fun _ => true) (fun i => jn 1 (xs.getD i (0, 1)) (jn 2 (ps.getD i (0, 1)) (qt (xs.getD c (0, 1)) (ps.getD c (0, 1))))) (SqL.of hv1) (SqL.of hu1) (by omega) (by omega) ?_ ?_⟩
    · intro i T' y1 y2 H3 Re Rn hy1 hy2 hT3 e3 _ re
      obtain ⟨x, hx, r1, rfl, R1⟩ := pv2.get hy1
      obtain ⟨z, hz, r2, rfl, R2⟩ := pu2.get hy2
      refine w_g2 (SqT.of hT3) rfl ⟨rfl, ?_⟩
      refine w_yes (w_iteT rfl ?_)
      walk_at "wp"
      have lx1 := bx x (List.mem_of_getElem? hx)
      have lz1 := bp z (List.mem_of_getElem? hz)
      refine w_binR (n := 2660) (R2.same e3) (Rm.same e3) lz1 bq rfl fun r3 H4 n4 e4 R4 => ?_
      walk_at "wp"
      refine w_binRW (R1.same (e3.trans e4)) R4 lx1 (jn_lp (.inr (.inr rfl)) lz1 bq) fun r5 H5 n5 e5 R5 => ?_
      refine re rfl _ _ (e4.trans e5) ⟨r5, rfl, ?_⟩
      have ex : xs.getD i (0, 1) = x := by rw [List.getD_eq_getElem?_getD, hx]; rfl
      have ez : ps.getD i (0, 1) = z := by rw [List.getD_eq_getElem?_getD, hz]; rfl
      rw [ex, ez]
      exact R5
    · intro L acc H3 nL e3 hL ps3
      rw [filter_yes, lrv] at ps3
      exact q L acc H3 (e1.free nL) (e1.trans e3) hL ps3
theorem ok_without_pivot (T : Txt K mg A) : FnOk P w K mg base CX0 6 A.a_without_pivot A.d_without_pivot ["rows", "at", "column"] (spWop A.c_Ratio) := by
  refine T.fun_without_pivot.ok sc_without_pivot (fun vs H Q E h => ?_) (fun cdv B outer s H vs Q E hr h => ?_)
  · obtain ⟨a, rows, p, c, n, rfl, _⟩ := h
    rfl
  · obtain ⟨a, rows, p, c, n, rfl, tb, W, r8, hp, hc, n8, nz, bq, q⟩ := h
    refine ⟨_, (pss_one (ps_ret (pe_lc (own := [("row", 3)]) (g := gName 3) rfl (sc_without_pivot).nd (pi_list (pe_op G.op_catL (pe_slice sl_list (pv 0) po_none (po_some (pv 1))) (pe_slice sl_list (pv 0) (po_some (pe_op op_add (pv 1) pe_int)) po_none))) (blkOk_by (own := [("row", 3)]) (N := N_without_pivot) (sc := defScope s_without_pivot) (by decide +kernel)) (fun _ _ _ _ _ => (pg_name (i := 3) (sc_without_pivot).nd rfl (Or.inl rfl))) (fun _ _ _ _ _ => pts_nil) (fun _ _ _ _ _ => (pe_call (ok_cleared T) (hr.mono (by decide)) rfl T.mg_cleared T.fun_cleared.kp T.bd_cleared .nil pass0 (pa_cons (pv 3) (pa_cons (pe_ix (G.ix_listK (K := K) rfl) (pv 0) (pv 1) (fun _ _ => rfl)) (pa_cons (pv 2) pa_nil)))))))), ?_⟩
    obtain ⟨us, ha, pr⟩ := tb
    have lu := PL.len pr
    obtain ⟨vp, hvp, rvp⟩ := pr.gety (k := p) (y := rows.getD p []) (row_some hp)
    walk_at "wp"
    refine w_lc ?_
    walk_at "wp"
    refine w_slL (SqL.of ha) fun s1 H1 n1 e1 h1 => ?_
    walk_at "wp"
    refine w_slL (SqL.of (e1 _ _ ha)) fun s2 H2 n2 e2 h2 => ?_
    rw [cut_nat (by omega)] at h1
    have ed : cutV us (some ((p : Int) + 1)) none = us.drop (p + 1) := by
      rw [cut_drop (by omega) (by omega)]
      rfl
    rw [ed] at h2
    have l1 : (us.take p).length ≤ 8 := by rw [List.length_take]; omega
    have l2 : (us.drop (p + 1)).length ≤ 8 := by rw [List.length_drop]; omega
    refine w_catL (SqL.of (e2 _ _ h1)) (SqL.of h2) (by omega) fun s3 H3 n3 e3 h3 => ?_
    have s03 := (e1.trans e2).trans e3
    have prx : PL (RowX A.c_Ratio a H) (us.take p ++ us.drop (p + 1)) (rows.take p ++ rows.drop (p + 1)) := (pr.take p).app (pr.drop (p + 1))
    have lz := PL.len prx
    have lr8 : (rows.take p ++ rows.drop (p + 1)).length ≤ 8 := by rw [List.length_append, List.length_take, List.length_drop]; omega
    refine ⟨s3, rfl, ⟨_, SqL.of h3⟩, w_lcGD (O := fun D => RowX A.c_Ratio D) (kept_RowX A.c_Ratio) (fun _ => true) (fun i => clrP ((rows.take p ++ rows.drop (p + 1)).getD i []) (rows.getD p []) c) (SqL.of h3) (by omega) ?_ ?_⟩
    · intro i x H4 Re Rn hx e4 _ ⟨D, zs, nD, hD, re⟩
      obtain ⟨xs, hxs, ox⟩ := prx.get hx
      have s04 := s03.trans e4
      refine w_gn ⟨rfl, ?_⟩
      refine w_yes (w_iteT rfl ?_)
      walk_at "wp"
      refine w_ixL (SqL.of (s04 _ _ ha)) (ix_nat hvp) ?_
      walk_at "wp"
      have mx : xs ∈ rows := by
        rcases List.mem_append.mp (List.mem_of_getElem? hxs) with z | z
        · exact List.mem_of_mem_take z
        · exact List.mem_of_mem_drop z
      have mp : rows.getD p [] ∈ rows := List.mem_of_getElem? (row_some hp)
      obtain ⟨k, hk⟩ := List.mem_iff_getElem?.mp mx
      have kl : k < rows.length := (List.getElem?_eq_some_iff.mp hk).1
      have ek : rows.getD k [] = xs := by rw [List.getD_eq_getElem?_getD, hk]; rfl
      have ln := (W xs mx).1
      have lm := (W _ mp).1
      have bk := bq k kl
      rw [ek] at bk
      refine ⟨x, vp, xs, rows.getD p [], c, rfl, (ox.same s04).row, (rvp.same s04).row, by omega, by omega, by omega, (W xs mx).2, (W _ mp).2, nz, bk, fun l rs H5 n5 e5 h5 p5 => ?_⟩
      refine re rfl _ _ e5 ⟨l, rs, rfl, Ne.symm (ne_of_none hD n5), h5, ?_⟩
      rw [List.getD_eq_getElem?_getD, hxs]
      exact p5
    · intro L acc H4 nL e4 hL ps
      rw [filter_yes, lz, show (List.range (rows.take p ++ rows.drop (p + 1)).length).map (fun i => clrP ((rows.take p ++ rows.drop (p + 1)).getD i []) (rows.getD p []) c) = ((List.range (rows.take p ++ rows.drop (p + 1)).length).map fun i => (rows.take p ++ rows.drop (p + 1)).getD i []).map (fun r => clrP r (rows.getD p []) c) from by rw [List.map_map]; rfl, rowsG] at ps
      exact q L H4 (s03.free nL) (s03.trans e4) ⟨acc, hL, ps⟩
theorem ok_determinant (T : Txt K mg A) : FnOk P w K mg base CX0 7 A.a_determinant A.d_determinant ["rows"] (spDetM A.c_Ratio) := by
  refine T.fun_determinant.ok sc_determinant (fun vs H Q E h => ?_) (fun cdv B outer s H vs Q E hr h => ?_)
  · obtain ⟨a, rows, n, l, m, rfl, _⟩ := h
    rfl
  · obtain ⟨a, rows, n, l, m, rfl, tb, ln, n1, n8, W, hM, lpos, nb, q⟩ := h
    refine ⟨_, (pss_cons (ps_expr (pe_call (ok_check_rows T) (hr.mono (by decide)) rfl T.mg_check_rows T.fun_check_rows.kp T.bd_check_rows .nil pass0 (pa_cons (pv 0) pa_nil)))
 (pss_cons (ps_if (pt_cmpR op_ne (pe_callB call_len (by rfl) T.z_len (by decide +kernel) (pa_cons (pv 0) pa_nil)) (pe_callB call_len (by rfl) T.z_len (by decide +kernel) (pa_cons (pe_ix ix_list (pv 0) pe_int (fun _ _ => rfl)) pa_nil)) (nomark _)) (pss_one ps_never) pss_nil)
 (pss_cons (ps_set (i := 1) (sc_determinant).nd rfl (Or.inl rfl) (pe_make T.mk_Ratio (ok_Ratio_init T) (hr.mono (by decide)) rfl T.mgc_Ratio (b1_Ratio T).choose_spec.2 (b1_Ratio T).choose_spec.1 pass0 (pa_cons pe_int pa_nil)))
 (pss_cons (ps_set (i := 2) (sc_determinant).nd rfl (Or.inl rfl) (pv 0))
 (pss_cons (ps_for PassesOwn.never rfl (pi_range1 rfl T.z_range (pa_cons (pe_callB call_len (by rfl) T.z_len (by decide +kernel) (pa_cons (pv 0) pa_nil)) pa_nil)) (pg_name (i := 3) (sc_determinant).nd rfl (Or.inl rfl)) (pss_cons (ps_set (i := 4) (sc_determinant).nd rfl (Or.inl rfl) (pe_call (ok_pivot_in T) (hr.mono (by decide)) rfl T.mg_pivot_in T.fun_pivot_in.kp T.bd_pivot_in .nil pass0 (pa_cons (pv 2) (pa_cons (pv 3) pa_nil))))
 (pss_cons (ps_if (pt_cmpR op_isN (pv 4) pe_non (nomark _)) (pss_one (ps_ret (pe_make T.mk_Ratio (ok_Ratio_init T) (hr.mono (by decide)) rfl T.mgc_Ratio (b1_Ratio T).choose_spec.2 (b1_Ratio T).choose_spec.1 pass0 (pa_cons pe_int pa_nil)))) pss_nil)
 (pss_cons (ps_set (i := 1) (sc_determinant).nd rfl (Or.inl rfl) (pe_op (G.op_own (ok_Ratio_mul T) (hr.mono (by decide)) T.bd_Ratio_mul pass0 T.om_Ratio_mul T.sf_Ratio) (pv 1) (pe_ix ix_list (pe_ix ix_list (pv 2) (pv 4) (fun _ _ => rfl)) (pv 3) (fun _ _ => rfl))))
 (C8.pss_cut (ps_if (pt_cmpR op_eq (pe_op op_modW (pv 4) pe_int) pe_int (nomark _)) (pss_one (ps_set (i := 1) (sc_determinant).nd rfl (Or.inl rfl) (pe_un (G.un_own (ok_Ratio_neg T) (hr.mono (by decide)) T.bd_Ratio_neg pass0 T.om_Ratio_neg) (pv 1)))) pss_nil)
 (pss_one (ps_set (i := 2) (sc_determinant).nd rfl (Or.inl rfl) (pe_call (ok_without_pivot T) (hr.mono (by decide)) rfl T.mg_without_pivot T.fun_without_pivot.kp T.bd_without_pivot .nil pass0 (pa_cons (pv 2) (pa_cons (pv 4) (pa_cons (pv 3) pa_nil)))))))))))
 (pss_one (ps_ret (pv 1)))))))), ?_⟩
    have IT := ins_ty T
    have E0 := Elm.start hM W lpos
    rw [ln] at E0
    obtain ⟨us, ha, pr⟩ := id tb
    have lu := PL.len pr
    obtain ⟨v0, hv0, l0, rs0, rfl, _, hl0, R0⟩ := pr.gety (k := 0) (y := rows.getD 0 []) (row_some (by omega))
    have ll0 := PL.len R0
    have ln0 := (W _ (List.mem_of_getElem? (row_some (rows := rows) (g := 0) (by omega)))).1
    walk_at "wp"
    refine ⟨a, rows, n, n, rfl, tb, ⟨ln, n1, n8, n1, n8, fun r hr => (W r hr).1⟩, fun H1 e1 => ?_⟩
    walk_at "wp"
    refine w_lenL (SqL.of (e1 _ _ ha)) ?_
    walk_at "wp"
    refine w_ixL (SqL.of (e1 _ _ ha)) (v := .ref l0) (by show atI us ((0:Nat):Int) = _; exact ix_nat hv0) ?_
    walk_at "wp"
    refine w_lenL (SqL.of (e1 _ _ hl0)) ?_
    walk_at "wp"
    rw [lu, ln, ll0, ln0]
    refine w_iteF (by simp) ?_
    walk_at "wp"
    refine ratio_lp (x := (1, 1)) lp_one rfl fun r2 H2 n2 e2 R2 => ?_
    walk_at "wp"
    have s2 := e1.trans e2
    refine w_lenL (SqL.of (s2 _ _ ha)) ?_
    walk_at "wp"
    refine w_walkR ⟨by omega, by omega⟩ (fun c σ' H' => ∃ (v3 v4 : Option V) (r : Addr) (rest : List (List Pr)) (P : _root_.Rat) (f κ f' : Nat → Nat) (s : Addr) (x : Pr), σ' = [some (.ref a), some (.ref r), some (.ref s), v3, v4] ∧ Same H H' ∧ TabR A.c_Ratio H' s rest ∧ Elm (matE rows) n n l c P f κ f' rest ∧ Rat A.c_Ratio H' r x.1 x.2 ∧ H r = none ∧ Lp (l) x ∧ (val x = P ∨ val x = -P) ∧ val x * DT.det (n - c) (rdE c rest) = DT.det n (matE rows)) ?_ ?_ ?_
    · refine ⟨_, _, r2, rows, 1, fun i => i, fun i => i, fun i => i, a, (1, 1), rfl, s2, tb.same s2, E0, R2, e1.free n2, Elm.lpP hM E0 n8 lpos lp_one (.inl val_11), .inl val_11, ?_⟩
      rw [val_11, Nat.sub_zero]
      have e : rdE 0 rows = matE rows := rfl
      rw [e]
      exact Rat.one_mul _
    · rintro c σ' H' hc ⟨v3, v4, r, rest, P, f, κ, f', s, x, rfl, e, tr, Ec, Rx, nr, lx, ex, ev⟩
      have lr := Ec.len
      have W2 : Rws rest n 2660 := fun r hr => ⟨(Ec.rws r hr).1, fun y hy => ((Ec.rws r hr).2 y hy).mono nb⟩
      obtain ⟨k, hk⟩ : ∃ k, n - c = k + 1 := ⟨n - c - 1, by omega⟩
      walk_at "wp"
      refine ⟨s, rest, c, n, 2660, rfl, tr, W2, by omega, n8, by omega, fun p H3 e3 hp nz => ?_, fun H3 e3 z => ?_⟩
      · walk_at "wp"
        refine ⟨rfl, ?_⟩
        refine ⟨_, rfl, w_iteF (decide_eq_false (fun z => by cases z)) ?_⟩
        have tr3 := tr.same e3
        obtain ⟨us3, hs3, pr3⟩ := id tr3
        have lu3 := PL.len pr3
        obtain ⟨vp, hvp, lp, rp, rfl, _, hlp, Rp⟩ := pr3.gety (k := p) (y := rest.getD p []) (row_some hp)
        have mp : rest.getD p [] ∈ rest := List.mem_of_getElem? (row_some hp)
        have lnp := (W2 _ mp).1
        obtain ⟨vy, hvy, ry, rfl, Ry⟩ := Rp.gety (k := c) (y := (rest.getD p []).getD c (0, 1)) (getP (by omega))
        have ly := (W2 _ mp).2 _ (List.mem_of_getElem? (getP (xs := rest.getD p []) (k := c) (by omega)))
        have pv : matE rest p c ≠ 0 := val_ne ly nz
        walk_at "wp"
        refine w_ixL (SqL.of hs3) (ix_nat hvp) ?_
        walk_at "wp"
        refine w_ixL (SqL.of hlp) (ix_nat hvy) ?_
        walk_at "wp"
        refine w_binR (n := 2660) (Rx.same e3) Ry (lx.mono nb) ly rfl fun r4 H4 n4 e4 R4 => ?_
        have lj := jn_lp (w := 2) (.inr (.inr rfl)) lx ly
        have vj := val_jn2 lx ly
        have e34 := e3.trans e4
        have l4 : Lp (l) (jn 2 x ((rest.getD p []).getD c (0, 1))) := Elm.lpP hM (Ec.step hM n8 lpos hp nz) n8 lpos lj (by
          rcases ex with ex | ex
          · exact .inl (by rw [vj, ex]; rfl)
          · exact .inr (by rw [vj, ex]; show -P * matE rest p c = -(P * matE rest p c); grind))
        walk_at "wp"
        refine w_cut (fun σ' H' => ∃ r5 x5, σ' = [some (.ref a), some (.ref r5), some (.ref s), some (.int (c : Int)), some (.int (p : Int))] ∧ Same H4 H' ∧ Rat A.c_Ratio H' r5 x5.1 x5.2 ∧ H r5 = none ∧ Lp (l) x5 ∧ val x5 = DT.sg p * (val x * matE rest p c)) ?_ ?_
        · walk_at "wp"
          refine w_ite (fun t => ?_) fun t => ?_
          · have t : (p : Int) % 2 = 1 := of_decide_eq_true t
            walk_at "wp"
            refine w_negR R4 (l4.mono nb) rfl fun r5 H5 n5 e5 R5 => ?_
            refine ⟨r5, (-(jn 2 x ((rest.getD p []).getD c (0, 1))).1, (jn 2 x ((rest.getD p []).getD c (0, 1))).2), rfl, e5, R5, (e.trans e34).free n5, l4.neg, ?_⟩
            rw [val_neg l4, vj]
            unfold DT.sg
            rw [if_neg (by omega)]
            show -(val x * matE rest p c) = -1 * (val x * matE rest p c)
            grind
          · have t : ¬ (p : Int) % 2 = 1 := of_decide_eq_false t
            walk_at "wp"
            refine ⟨r4, _, rfl, Same.refl _, R4, (e.trans e3).free n4, l4, ?_⟩
            rw [vj]
            unfold DT.sg
            rw [if_pos (by omega)]
            exact (Rat.one_mul _).symm
        · rintro σ5 H5 ⟨r5, x5, rfl, e5, R5, n5, l5, v5⟩
          have s35 := e34.trans e5
          walk_at "wp"
          refine ⟨s, rest, p, c, n, rfl, tr.same s35, W2, by omega, hp, by omega, n8, nz, fun i hi => ?_, fun l H6 n6 e6 t6 => ?_⟩
          · have mi : rest.getD i [] ∈ rest := List.mem_of_getElem? (row_some hi)
            have lni := (W2 _ mi).1
            have lyi := (W2 _ mi).2 _ (List.mem_of_getElem? (getP (xs := rest.getD i []) (k := c) (by omega)))
            exact (Elm.quot hM Ec (by omega) lpos (i := i) (p := p) (qt_lp lyi ly nz) pv (val_qt lyi ly nz)).mono nb
          · walk_at "wp"
            have s6 := (e.trans s35).trans e6
            refine ⟨_, _, r5, wop rest p c, _, _, _, _, l, x5, rfl, s6, t6, Ec.step hM n8 lpos hp nz, R5.same e6, n5, l5, ?_, ?_⟩
            · rw [v5]
              have q5 : DT.sg p = 1 ∨ DT.sg p = -1 := by
                unfold DT.sg
                split
                · exact .inl rfl
                · exact .inr rfl
              rcases ex with ex | ex <;> rcases q5 with q5 | q5 <;> rw [ex, q5]
              · left; grind
              · right; grind
              · right; grind
              · left; grind
            · rw [← ev, hk, det_wop (k := k) Ec.rws lpos (by omega) (by omega) nz, v5, show n - (c + 1) = k from by omega]
              grind
      · walk_at "wp"
        refine ⟨rfl, ?_⟩
        refine ⟨_, rfl, w_iteT (decide_eq_true rfl) ?_⟩
        walk_at "wp"
        refine ratio_lp (x := (0, 1)) lp_zero rfl fun r4 H4 n4 e4 R4 => ?_
        refine q r4 (0, 1) H4 ((e.trans e3).free n4) ((e.trans e3).trans e4) R4 (lp_zero.mono (by decide)) ?_
        rw [val_zero, ← ev, hk, det_none (k := k) fun i hi => z i (by omega)]
        grind
    · rintro σ' H' ⟨v3, v4, r, rest, P, f, κ, f', s, x, rfl, e, tr, Ec, Rx, nr, lx, ex, ev⟩
      walk_at "wp"
      rw [Int.toNat_natCast, lu, ln, Nat.sub_self] at ev
      refine q r x H' nr e Rx (lx.mono nb) ?_
      rw [← ev]
      exact (Rat.mul_one _).symm
theorem ok_volumes_after (T : Txt K mg A) : FnOk P w K mg base CX0 8 A.a_volumes_after A.d_volumes_after ["volumes", "transfers"] spAfterV := by
  refine T.fun_volumes_after.ok sc_volumes_after (fun vs H Q E h => ?_) (fun cdv B outer s H vs Q E hr h => ?_)
  · obtain ⟨a, l, ns, xs, ts, rfl, _⟩ := h
    rfl
  · obtain ⟨a, l, ns, xs, ts, rfl, C, q⟩ := h
    refine ⟨_, (pss_one (ps_ret (pe_ix ix_list (pe_call (ok_volumes_by_step T) (hr.mono (by decide)) rfl T.mg_volumes_by_step T.fun_volumes_by_step.kp T.bd_volumes_by_step .nil pass0 (pa_cons (pv 0) (pa_cons (pv 1) pa_nil))) (pe_un un_neg pe_int) (fun _ _ => rfl)))), ?_⟩
    walk_at "wp"
    refine ⟨a, l, ns, xs, ts, rfl, C, fun b ws H0 n0 e0 h0 pw => ?_⟩
    walk_at "wp"
    have lw := PL.len pw
    have ltr : (tr ns ts).length = ts.length + 1 := by
      unfold tr
      rw [List.length_map, List.length_range]
    have ha : (tr ns ts)[ts.length]? = some (ts.foldl vol1 ns) := by
      unfold tr
      rw [List.getElem?_map, List.getElem?_range (by omega)]
      show some ((ts.take ts.length).foldl vol1 ns) = _
      rw [List.take_length]
    obtain ⟨v, hv, z, rfl, _, hz⟩ := pw.gety ha
    have ev : atI ws (-1) = some (.ref z) := by
      have hlast : ws = ws.dropLast ++ [.ref z] := by
        have ne : ws ≠ [] := fun e => by rw [e] at hv; cases hv
        have el : ws.getLast ne = .ref z := by
          have l1 : ws.length - 1 = ts.length := by omega
          rw [List.getLast_eq_getElem]
          have := (List.getElem?_eq_some_iff.mp hv).2
          simp only [l1]
          exact this
        rw [← el]
        exact (List.dropLast_concat_getLast ne).symm
      rw [hlast]
      exact at_last
    refine w_ixL (SqL.of h0) ev ?_
    exact q z H0 e0 hz
theorem ok_law_now (T : Txt K mg A) : FnOk P w K mg base CX0 1 A.a_law_now A.d_law_now ["sizes", "moves"] spNowV := by
  refine T.fun_law_now.ok sc_law_now (fun vs H Q E h => ?_) (fun cdv B outer s H vs Q E hr h => ?_)
  · obtain ⟨a, l, ns, xs, ts, rfl, _⟩ := h
    rfl
  · obtain ⟨a, l, ns, xs, ts, rfl, ha, hl, tt, ps0, q⟩ := h
    refine ⟨_, (pss_cons (ps_set (i := 2) (sc_law_now).nd rfl (Or.inl rfl) (pe_callTy G.call_listO (by rfl) T.z_list (by decide +kernel) (pa_cons (pv 0) pa_nil)))
 (pss_cons (ps_for PassesOwn.never rfl (pi_list (pv 1)) (pg_tup rfl (pgs_cons (pg_name (i := 3) (sc_law_now).nd rfl (Or.inl rfl)) (pgs_cons (pg_name (i := 4) (sc_law_now).nd rfl (Or.inl rfl)) (pgs_cons (pg_name (i := 5) (sc_law_now).nd rfl (Or.inl rfl)) pgs_nil)))) (pss_cons (ps_asg (pe_op op_sub (pe_ix ix_list (pv 2) (pv 3) (fun _ _ => rfl)) (pv 5)) (pg_sub (pv 2) (pv 3) set_list))
 (pss_one (ps_asg (pe_op op_add (pe_ix ix_list (pv 2) (pv 4) (fun _ _ => rfl)) (pv 5)) (pg_sub (pv 2) (pv 4) set_list)))))
 (pss_one (ps_ret (pv 2))))), ?_⟩
    walk_at "wp"
    refine w_listOf (SqL.of ha) fun wn H1 n1 e1 h1 => ?_
    walk_at "wp"
    have hl1 := e1 _ _ hl
    have tt1 := Ts.same tt e1
    have lw : l ≠ wn := ne_of_none hl n1
    refine w_walkG (xs := xs) (SqL.of hl1) (fun k σ' H' => ∃ (v3 v4 v5 : Option V), σ' = [some (.ref a), some (.ref l), some (.ref wn), v3, v4, v5] ∧ H' wn = some (.lst (((ts.take k).foldl vol1 ns).map V.int)) ∧ Fr wn H1 H') ⟨_, _, _, rfl, h1, Fr.refl _ _⟩ ?_ ?_ ?_
    · rintro k σ' H' _ ⟨v3, v4, v5, rfl, hw, F⟩
      exact SqL.of (F _ _ lw hl1)
    · rintro k x σ' H' hx ⟨v3, v4, v5, rfl, hw, F⟩
      obtain ⟨y, hy, oy⟩ := PL.get tt1 hx
      obtain ⟨r, rfl, hr'⟩ : T3 H' x y := oy.fr h1 F
      obtain ⟨g, t, eg, et, gl, tl, ne, d0, d1⟩ := psb1_of (psb_snoc ps0 hy)
      generalize ec : (ts.take k).foldl vol1 ns = cur at *
      have lm : (cur.map V.int).length = cur.length := List.length_map _
      refine w_g3 (SqT.of hr') rfl ?_
      rw [eg, et]
      walk_at "wp"
      refine w_ixL (v := .int (cur.getD g 0)) (SqL.of hw) (ix_nat (getD_int gl)) ?_
      walk_at "wp"
      refine w_setL hw (j := g) (ixN_nat (by rw [lm]; omega)) ?_
      walk_at "wp"
      refine w_ixL (v := .int (cur.getD t 0)) (SqL.of upd_same) (ix_nat (by rw [List.getElem?_set_ne ne]; exact getD_int tl)) ?_
      walk_at "wp"
      refine w_setL upd_same (j := t) (ixN_nat (by rw [List.length_set, lm]; omega)) ?_
      walk_at "wp"
      rw [upd_twice]
      refine ⟨_, _, _, rfl, ?_, F.trans Fr.at_⟩
      have ev : vol1 cur y = (cur.set g (cur.getD g 0 - y.2.2)).set t (cur.getD t 0 + y.2.2) := by
        unfold vol1
        rw [eg, et, Int.toNat_natCast, Int.toNat_natCast]
      rw [take_snoc hy, List.foldl_append, ec]
      show (upd H' wn _) wn = some (HO.lst ((vol1 cur y).map V.int))
      rw [ev, List.map_set, List.map_set]
      exact upd_same
    · rintro σ' H' ⟨v3, v4, v5, rfl, hw, F⟩
      rw [PL.len tt, List.take_length] at hw
      walk_at "wp"
      exact q wn H' n1 (Fr.unseen n1 e1 F) hw
end
end K38

namespace K38
open PySem L2 G
local macro_rules | `(tactic| walk_at "pos") => `(tactic| first | assumption | (decide +kernel) | omega)
local macro_rules | `(tactic| walk_at "bt") => `(tactic| first
  | assumption
  | (decide +kernel)
  | exact Bt.mono (by assumption) (by decide)
  | (refine' Bt.add ?b1 ?b2; (case b1 => walk_at "bt"); (case b2 => walk_at "bt"))
  | (refine' Bt.sub ?b1 ?b2; (case b1 => walk_at "bt"); (case b2 => walk_at "bt"))
  | (refine' Bt.mul ?b1 ?b2; (case b1 => walk_at "bt"); (case b2 => walk_at "bt"))
  | (refine' Bt.mod ?b1 ?b2; (case b2 => walk_at "bt"); (case b1 => walk_at "pos"))
  | (refine' Bt.div ?b1 ?b2; (case b2 => walk_at "bt"); (case b1 => walk_at "pos"))
  | (refine' Bt.pow3 ?b1; (case b1 => walk_at "bt"))
  | (refine' Bt.neg ?b1; (case b1 => walk_at "bt"))
  | exact Bt.any)
local macro_rules | `(tactic| walk_at "btm") => `(tactic| ((refine' Bt.mono ?m1 ?m2); (case m1 => walk_at "bt"); (case m2 => (decide +kernel))))
local macro_rules | `(tactic| walk_at "ne") => `(tactic| first
  | assumption
  | (refine' Ne.symm ?q1; (case q1 => assumption))
  | (refine' ne_of_none (by assumption) ?q1; (case q1 => assumption))
  | (refine' Ne.symm (ne_of_none (by assumption) ?q1); (case q1 => assumption)))
local macro_rules | `(tactic| walk_at "hp") => `(tactic| first
  | assumption
  | exact upd_same
  | ((refine' lst_same ?q1 (by assumption : Same _ _)); (case q1 => walk_at "hp"))
  | ((refine' (by assumption : Fr _ _ _) _ _ ?n ?h); (case n => walk_at "ne"); (case h => walk_at "hp"))
  | ((refine (upd_ne (by assumption)).trans ?_); walk_at "hp")
  | ((refine (upd_ne (Ne.symm (by assumption))).trans ?_); walk_at "hp"))
local macro_rules | `(tactic| walk_at "sr") => `(tactic| first
  | assumption
  | ((refine' Src.same ?q1 (by assumption : Same _ _)); (case q1 => walk_at "sr")))
local macro_rules | `(tactic| walk_at "rt") => `(tactic| first
  | assumption
  | ((refine' Rat.same ?q1 (by assumption : Same _ _)); (case q1 => walk_at "rt"))
  | ((refine' Rat.fr ?q1 ?q2 (by assumption : Fr _ _ _)); (case q2 => walk_at "sr"); (case q1 => walk_at "rt")))
local macro_rules | `(tactic| walk_at "tp") => `(tactic| first
  | assumption
  | ((refine' tup_same ?q1 (by assumption : Same _ _)); (case q1 => walk_at "tp"))
  | ((refine' tup_fr ?q1 ?q2 (by assumption : Fr _ _ _)); (case q2 => walk_at "sr"); (case q1 => walk_at "tp")))
local macro_rules | `(tactic| walk_at "ls") => `(tactic| first
  | assumption
  | ((refine' lst_same ?q1 (by assumption : Same _ _)); (case q1 => walk_at "ls"))
  | ((refine' lst_fr ?q1 ?q2 (by assumption : Fr _ _ _)); (case q2 => assumption); (case q1 => walk_at "ls")))
local macro_rules | `(tactic| walk_at "sm") => `(tactic| first
  | exact Same.refl _
  | assumption
  | ((refine Same.trans ?_ (by assumption : Same _ _)); walk_at "sm"))
local macro_rules | `(tactic| walk_at "fr") => `(tactic| first
  | exact Fr.refl _ _
  | assumption
  | ((refine Fr.trans ?_ (Fr.same (by assumption : Same _ _))); walk_at "fr")
  | ((refine Fr.trans ?_ (by assumption : Fr _ _ _)); walk_at "fr"))
local macro_rules | `(tactic| walk_at "wp1") => `(tactic| first
  | (with_reducible refine w_seq ?_) | (with_reducible refine w_next ?_) | (with_reducible refine w_ret ?_) | (with_reducible refine w_asg ?_) | (with_reducible refine w_gn ?_) | (with_reducible refine w_if ?_)
  | (with_reducible refine w_cons ?_) | (with_reducible refine w_nil ?_) | (with_reducible refine w_c ?_) | (with_reducible refine w_op ?_) | (with_reducible refine w_cb ?_)
  | ((with_reducible refine' w_var ?h ?_); (case h => exact rfl))
  | (with_reducible refine w_I0 ?_) | (with_reducible refine w_eqI ?_) | (with_reducible refine w_neI ?_) | (with_reducible refine w_test ?_) | (with_reducible refine w_tB ?_) | (with_reducible refine w_bl ?_) | (with_reducible refine w_par ?_) | (with_reducible refine w_par2 ?_) | (with_reducible refine w_par3 ?_) | (with_reducible refine w_three ?_)
  | (with_reducible refine w_not ?_) | (with_reducible refine w_and ?_) | (with_reducible refine w_or ?_) | (with_reducible refine w_andV ?_) | (with_reducible refine w_orV ?_) | (with_reducible refine w_notV ?_) | (with_reducible refine w_tif ?_)
  | (with_reducible refine w_tup ?_) | (with_reducible refine w_lst ?_) | (with_reducible refine w_un ?_) | (with_reducible refine w_U ?_) | (with_reducible refine w_drop ?_) | (with_reducible refine w_brk ?_) | (with_reducible refine w_cont ?_) | (with_reducible refine w_retN ?_)
  | (with_reducible refine w_call ?_) | (with_reducible refine w_fld ?_) | (with_reducible refine w_sfld ?_) | (with_reducible refine w_prop ?_) | (with_reducible refine w_make ?_) | (with_reducible refine w_meth ?_) | (with_reducible refine w_methN ?_) | (with_reducible refine w_revL ?_) | (with_reducible refine w_gsub ?_)
  | ((with_reducible refine' w_powN ?c1 ?c2 ?_); (case c2 => (decide +kernel)); (case c1 => exact rfl))
  | ((with_reducible refine' w_powV ?c1 ?c2 ?c3 ?c4 ?_); (case c2 => walk_at "bt"); (case c3 => (decide +kernel)); (case c4 => (decide +kernel)); (case c1 => exact rfl))
  | ((with_reducible refine' w_I (C := CMulW) ?c1 ?_); (case c1 => (refine' mulOk ?k1 ?k2 ?k3; (case k1 => walk_at "bt"); (case k2 => walk_at "bt"); (case k3 => decide +kernel))))
  | ((with_reducible refine' w_I (C := CDivW) ?c1 ?_); (case c1 => (refine' divOk ?k1 ?k2 ?k3; (case k1 => walk_at "pos"); (case k2 => walk_at "bt"); (case k3 => decide +kernel))))
  | ((with_reducible refine' w_I (C := fun _ j => 0 < j) ?c1 ?_); (case c1 => walk_at "pos"))
  | (with_reducible refine w_isB ?_) | (with_reducible refine w_notB ?_) | (with_reducible refine w_neS ?_) | (with_reducible refine w_eqS ?_)
  | (with_reducible refine w_iRng1 ?_) | (with_reducible refine w_for ?_) | (with_reducible refine w_iEnum ?_) | (with_reducible refine w_iList ?_) | (with_reducible refine w_iTup ?_) | (with_reducible refine w_noPart ?_) | (with_reducible refine w_part ?_) | (with_reducible refine w_int ?_)
  | (with_reducible refine w_sl ?_)
  | (with_reducible refine w_two ?_) | (with_reducible refine w_one ?_)
  | ((with_reducible refine' w_ixL ?hs ?he ?_); (case hs => first | (refine' SqL.of ?q0; (case q0 => walk_at "hp")) | assumption); (case he => exact rfl))
  | ((with_reducible refine' w_ixT ?hs ?he ?_); (case hs => first | (refine' SqT.of ?q0; (case q0 => walk_at "tp")) | assumption); (case he => exact rfl))
  | ((with_reducible refine' w_setL ?hs ?he ?_); (case hs => walk_at "hp"); (case he => exact rfl))
  | (with_reducible refine w_iteT rfl ?_) | (with_reducible refine w_iteF rfl ?_) | ((with_reducible refine w_alloc ?h ?_); (case h => exact rfl))
  | (with_reducible refine w_augS ?_) | (with_reducible refine w_ipI ?_) | (with_reducible refine w_exo1 ?_) | (with_reducible refine w_exoI ?_) | (with_reducible refine w_exoK ?_) | (with_reducible refine w_fldE ?_) | (with_reducible refine w_ost ?_) | (with_reducible refine w_makeS ?_) | (with_reducible refine w_methS ?_) | (with_reducible refine w_callS ?_) | (with_reducible refine w_bm ?_) | (with_reducible refine w_bm0 ?_) | (with_reducible refine w_din ?_) | (with_reducible refine w_dget ?_) | (with_reducible refine w_dput ?_) | (with_reducible refine w_listVals ?_) | (with_reducible refine w_dget2 ?_) | (with_reducible refine w_dpop2 ?_) | (with_reducible refine w_makeK ?_) | (with_reducible refine w_callN ?_))
local macro_rules | `(tactic| walk_at "wp") => `(tactic| repeat (walk_at "wp1"))

section
variable {P : Program} {w : World} {K : PySem.W.Frag} {mg : Str → Option Value} {base : Heap} {A : Ad}
theorem ok_shares_after (T : Txt K mg A) : FnOk P w K mg base CX0 10 A.a_shares_after A.d_shares_after ["volumes", "transfers"] (spSharesV A.c_Ratio) := by
  refine T.fun_shares_after.ok sc_shares_after (fun vs H Q E h => ?_) (fun cdv B outer s H vs Q E hr h => ?_)
  · obtain ⟨a, l, ns, xs, ts, rfl, _⟩ := h
    rfl
  · obtain ⟨a, l, ns, xs, ts, rfl, C, q⟩ := h
    refine ⟨_, (pss_cons (ps_set (i := 2) (sc_shares_after).nd rfl (Or.inl rfl) (pe_call (ok_contents_after T) (hr.mono (by decide)) rfl T.mg_contents_after T.fun_contents_after.kp T.bd_contents_after .nil pass0 (pa_cons (pv 0) (pa_cons (pv 1) pa_nil))))
 (pss_cons (ps_set (i := 3) (sc_shares_after).nd rfl (Or.inl rfl) (pe_call (ok_volumes_after T) (hr.mono (by decide)) rfl T.mg_volumes_after T.fun_volumes_after.kp T.bd_volumes_after .nil pass0 (pa_cons (pv 0) (pa_cons (pv 1) pa_nil))))
 (pss_one (ps_ret (pe_lc (own := [("row", 4), ("volume", 5)]) (g := gTup K 2 (gCons (gName 4) (gCons (gName 5) gNil))) rfl (sc_shares_after).nd (pi_zip rfl T.z_zip (pa_cons (pv 2) (pa_cons (pv 3) pa_nil))) (blkOk_by (own := [("row", 4), ("volume", 5)]) (N := N_shares_after) (sc := defScope s_shares_after) (by decide +kernel)) (fun _ _ _ _ _ => (pg_tup rfl (pgs_cons (pg_name (i := 4) (sc_shares_after).nd rfl (Or.inl rfl)) (pgs_cons (pg_name (i := 5) (sc_shares_after).nd rfl (Or.inr rfl)) pgs_nil)))) (fun _ _ _ _ _ => pts_nil) (fun _ _ _ _ _ => (pe_lc (own := [("amount", 6)]) (g := gName 6) rfl (sc_shares_after).nd (G.pi_listK (K := K) rfl (pv 4)) (blkOk_by (own := [("amount", 6)]) (N := N_shares_after) (sc := _) (by with_unfolding_all rfl)) (fun _ _ _ _ _ => (pg_name (i := 6) (sc_shares_after).nd rfl (Or.inl rfl))) (fun _ _ _ _ _ => pts_nil) (fun _ _ _ _ _ => (pe_op (G.op_own (ok_Ratio_mul T) (hr.mono (by decide)) T.bd_Ratio_mul pass0 T.om_Ratio_mul T.sf_Ratio) (pv 6) (pe_make T.mk_Ratio (ok_Ratio_init T) (hr.mono (by decide)) rfl T.mgc_Ratio (b2_Ratio T).choose_spec.2 (b2_Ratio T).choose_spec.1 pass0 (pa_cons pe_int (pa_cons (pv 5) pa_nil)))))))))))), ?_⟩
    have few := C.v.few
    have S := sinv_at C.v.bd C.psb (fun x hx => (C.gd x hx).c.2) C.few ts.length (Nat.le_refl _)
    rw [List.take_length] at S
    have ev := stt_vol ns ts
    have vl := S.len
    have pos := S.pos
    have vb := S.vol
    have cf := C.few
    walk_at "wp"
    refine ⟨a, l, ns, xs, ts, rfl, C, fun c H1 n1 e1 tc => ?_⟩
    walk_at "wp"
    refine ⟨a, l, ns, xs, ts, rfl, C.same e1, fun wn H2 e2 hw => ?_⟩
    rw [← ev] at hw
    obtain ⟨us, hc, pr⟩ := tc.tab.same e2
    have lu := PL.len pr
    rw [nr_len] at lu
    walk_at "wp"
    refine w_lc ?_
    refine w_iZip ?_
    walk_at "wp"
    refine ⟨c, wn, _, _, rfl, SqL.of hc, SqL.of hw, w_lcZipD (O := fun D => RowX A.c_Ratio D) (kept_RowX A.c_Ratio) (fun _ => true) (fun i => (List.range ns.length).map fun j => low ((stt ns ts).1 i j) ((stt ns ts).2.1 * (stt ns ts).2.2.getD i 0)) (SqL.of hc) (SqL.of hw) (by rw [List.length_map]; omega) (by omega) ?_ ?_⟩
    · intro i T' y1 y2 H3 Re Rn hy1 hy2 hT3 e3 _ ⟨D, zs, nD, hD, re⟩
      obtain ⟨r, hr', lx, rx, rfl, _, hlx, Rx⟩ := pr.get hy1
      have il := (List.getElem?_eq_some_iff.mp hy1).1
      rw [nr_get (by omega)] at hr'
      have hr' := Option.some.inj hr'
      subst hr'
      have lrx := PL.len Rx
      rw [List.length_map, List.length_range] at lrx
      rw [getD_int (by omega)] at hy2
      have hy2 := Option.some.inj hy2
      subst hy2
      have v1 := vb _ (getD_mem' (ns := (stt ns ts).2.2) (k := i) (by omega))
      have bv : Bt 25 ((stt ns ts).2.2.getD i 0) := by
        unfold Bt
        have : (2 : Nat) ^ 25 = 33554432 := rfl
        omega
      have Rx3 := rats_same Rx e3
      have hlx3 := e3 _ _ hlx
      refine w_g2 (SqT.of hT3) rfl ⟨rfl, ?_⟩
      refine w_yes (w_iteT rfl ?_)
      walk_at "wp"
      refine w_lc ?_
      walk_at "wp"
      refine ⟨lx, rfl, ⟨_, SqL.of hlx3⟩, w_lcG (O := RatV A.c_Ratio) kept_rat (fun _ => true) (fun j => low ((stt ns ts).1 i j) ((stt ns ts).2.1 * (stt ns ts).2.2.getD i 0)) (SqL.of hlx3) (by omega) ?_ ?_⟩
      · intro j y H4 Re2 Rn2 hy e4 _ re2
        obtain ⟨z, hz, p, rfl, Rp⟩ := Rx3.get hy
        have jl := (List.getElem?_eq_some_iff.mp hy).1
        rw [List.getElem?_map, List.getElem?_range (by omega)] at hz
        have hz := Option.some.inj hz
        subst hz
        refine w_gn ⟨rfl, ?_⟩
        refine w_yes (w_iteT rfl ?_)
        walk_at "wp"
        refine ratio_of (by omega) (bv.mono (by decide)) fun r5 H5 n5 e5 R5 => ?_
        have b1 : Lp 1000 (low ((stt ns ts).1 i j) (stt ns ts).2.1) := Lp.low pos ((S.mbt i j).mono (by omega)) (S.dbt.mono (by omega))
        have b2 : Lp 1000 (low 1 ((stt ns ts).2.2.getD i 0)) := Lp.low (by omega) (Bt.mono (a := 2) (by decide) (by decide)) (bv.mono (by decide))
        refine w_binR (y := low 1 ((stt ns ts).2.2.getD i 0)) ((Rp.same e4).same e5) R5 b1 b2 rfl fun r6 H6 n6 e6 R6 => ?_
        rw [mul_lows pos (by omega), Int.mul_one] at R6
        exact re2 rfl _ _ (e5.trans e6) ⟨r6, rfl, R6⟩
      · intro L acc H4 nL e4 hL ps
        rw [filter_yes, lrx] at ps
        exact re rfl _ _ e4 ⟨L, acc, rfl, Ne.symm (ne_of_none hD nL), hL, ps⟩
    · intro L acc H3 nL e3 hL ps
      rw [filter_yes, lu] at ps
      exact q L H3 ((e1.trans e2).free nL) ((e1.trans e2).trans e3) ⟨acc, hL, ps⟩
theorem ok_factor_of (T : Txt K mg A) : FnOk P w K mg base CX0 8 A.a_factor_of A.d_factor_of ["volumes", "transfers"] (spFact A.c_Ratio) := by
  refine T.fun_factor_of.ok sc_factor_of (fun vs H Q E h => ?_) (fun cdv B outer s H vs Q E hr h => ?_)
  · obtain ⟨a, l, ns, xs, ts, rfl, _⟩ := h
    rfl
  · obtain ⟨a, l, ns, xs, ts, rfl, C, q⟩ := h
    refine ⟨_, (pss_cons (ps_set (i := 2) (sc_factor_of).nd rfl (Or.inl rfl) (pe_make T.mk_Ratio (ok_Ratio_init T) (hr.mono (by decide)) rfl T.mgc_Ratio (b1_Ratio T).choose_spec.2 (b1_Ratio T).choose_spec.1 pass0 (pa_cons pe_int pa_nil)))
 (pss_cons (ps_for PassesOwn.never rfl (pi_zip rfl T.z_zip (pa_cons (pe_call (ok_volumes_by_step T) (hr.mono (by decide)) rfl T.mg_volumes_by_step T.fun_volumes_by_step.kp T.bd_volumes_by_step .nil pass0 (pa_cons (pv 0) (pa_cons (pv 1) pa_nil))) (pa_cons (pv 1) pa_nil))) (pg_tup rfl (pgs_cons (pg_name (i := 3) (sc_factor_of).nd rfl (Or.inl rfl)) (pgs_cons (pg_tup rfl (pgs_cons (pg_name (i := 4) (sc_factor_of).nd rfl (Or.inl rfl)) (pgs_cons (pg_name (i := 5) (sc_factor_of).nd rfl (Or.inl rfl)) (pgs_cons (pg_name (i := 6) (sc_factor_of).nd rfl (Or.inl rfl)) pgs_nil)))) pgs_nil))) (pss_one (ps_set (i := 2) (sc_factor_of).nd rfl (Or.inl rfl) (pe_op (G.op_own (ok_Ratio_mul T) (hr.mono (by decide)) T.bd_Ratio_mul pass0 T.om_Ratio_mul T.sf_Ratio) (pv 2) (pe_make T.mk_Ratio (ok_Ratio_init T) (hr.mono (by decide)) rfl T.mgc_Ratio (b2_Ratio T).choose_spec.2 (b2_Ratio T).choose_spec.1 pass0 (pa_cons (pe_ix ix_list (pv 3) (pv 5) (fun _ _ => rfl)) (pa_cons (pe_op op_add (pe_ix ix_list (pv 3) (pv 5) (fun _ _ => rfl)) (pv 6)) pa_nil)))))))
 (pss_one (ps_ret (pv 2))))), ?_⟩
    have few := C.v.few
    have cf := C.few
    walk_at "wp"
    refine ratio_lp (x := (1, 1)) lp_one rfl fun r1 H1 n1 e1 R1 => ?_
    walk_at "wp"
    refine w_iZip ?_
    walk_at "wp"
    refine ⟨a, l, ns, xs, ts, rfl, C.same e1, fun b ws H2 n2 e2 hb pw => ?_⟩
    walk_at "wp"
    have C2 := (C.same e1).same e2
    have lx := PL.len C.t
    have lw := PL.len pw
    rw [tr_len] at lw
    refine ⟨b, l, ws, xs, rfl, SqL.of hb, SqL.of C2.at_, w_walkZS (n := ts.length) (show ts.length ≤ ws.length by omega) (show xs.length = ts.length by omega) (fun k σ' H' => ∃ (v3 v4 v5 v6 : Option V) (r : Addr) (x : Pr), σ' = [some (.ref a), some (.ref l), some (.ref r), v3, v4, v5, v6] ∧ Same H2 H' ∧ Rat A.c_Ratio H' r x.1 x.2 ∧ H r = none ∧ Lp (2 + 27 * k) x ∧ val x = fac ns (ts.take k)) ⟨_, _, _, _, r1, (1, 1), rfl, Same.refl _, R1.same e2, n1, lp_one, val_11⟩ ?_ ?_ ?_⟩
    · rintro k σ' H' _ ⟨_, _, _, _, _, _, _, e, _⟩
      exact ⟨SqL.of (e _ _ hb), SqL.of (e _ _ C2.at_)⟩
    · rintro k T' y1 y2 σ' H' H3 hy1 hy2 ⟨v3, v4, v5, v6, r, x, rfl, e, Rx, nr, bx, ex⟩ e3 hT3
      have kl := (List.getElem?_eq_some_iff.mp hy2).1
      obtain ⟨cur, hcur, z, rfl, _, hz⟩ := pw.get hy1
      rw [tr_get (by omega)] at hcur
      have hcur := Option.some.inj hcur
      obtain ⟨m, hm, p, rfl, hp⟩ := C2.t.get hy2
      have e23 := e.trans e3
      obtain ⟨g, t, eg, et, gl, tl, ne, d0, d1⟩ := psb1_of (psb_snoc C.psb hm)
      have S := sinv_at C.v.bd C.psb (fun x hx => (C.gd x hx).c.2) C.few k (by omega)
      have vb := S.vol
      rw [stt_vol, hcur] at vb
      rw [hcur] at gl tl d1
      have tv := vb _ (getD_mem' (ns := cur) (k := t) tl)
      have md := (C.gd m (List.mem_of_getElem? hm)).c.2
      have p25 : (2 : Nat) ^ 25 = 33554432 := rfl
      have bb : Bt 25 (cur.getD t 0) := by unfold Bt; omega
      have bs : Bt 25 (cur.getD t 0 + m.2.2) := by unfold Bt; omega
      refine w_g13 (SqT.of hT3) (SqT.of (e23 _ _ hp)) rfl rfl ?_
      rw [et]
      walk_at "wp"
      have hz3 := e23 _ _ hz
      refine w_ixL (v := .int (cur.getD t 0)) (SqL.of hz3) (ix_nat (getD_int tl)) ?_
      walk_at "wp"
      refine w_ixL (v := .int (cur.getD t 0)) (SqL.of hz3) (ix_nat (getD_int tl)) ?_
      walk_at "wp"
      refine ratio_of (by omega) (bs.mono (by decide)) fun r5 H5 n5 e5 R5 => ?_
      have ly : Lp 25 (low (cur.getD t 0) (cur.getD t 0 + m.2.2)) := Lp.low (by omega) bb bs
      refine w_binR (n := 700) (y := low (cur.getD t 0) (cur.getD t 0 + m.2.2)) ((Rx.same e3).same e5) R5 (bx.mono (by omega)) (ly.mono (by decide)) rfl fun r6 H6 n6 e6 R6 => ?_
      walk_at "wp"
      have e26 := (e23.trans e5).trans e6
      refine ⟨_, _, _, _, r6, _, rfl, e26, R6, ((e1.trans e2).trans (e23.trans e5)).free n6, (jn_lp (.inr (.inr rfl)) bx ly).mono (by omega), ?_⟩
      rw [val_jn2 bx ly, val_low (by omega), ex, fac_take hm, hcur, et, Int.toNat_natCast]
    · rintro σ' H' ⟨v3, v4, v5, v6, r, x, rfl, e, Rx, nr, bx, ex⟩
      walk_at "wp"
      rw [List.take_length] at ex
      exact q r x H' nr ((e1.trans e2).trans e) Rx (bx.mono (by omega)) ex
theorem ok_law_factor (T : Txt K mg A) : FnOk P w K mg base CX0 4 A.a_law_factor A.d_law_factor ["sizes", "moves"] (spFact A.c_Ratio) := by
  refine T.fun_law_factor.ok sc_law_factor (fun vs H Q E h => ?_) (fun cdv B outer s H vs Q E hr h => ?_)
  · obtain ⟨a, l, ns, xs, ts, rfl, _⟩ := h
    rfl
  · obtain ⟨a, l, ns, xs, ts, rfl, C, q⟩ := h
    refine ⟨_, (pss_cons (ps_par3 (i := 2) (j := 3) (l := 4) (by rfl) (sc_law_factor).nd rfl rfl rfl (by decide) (by decide) (by decide) rfl rfl rfl (pa_cons pe_int (pa_cons pe_int (pa_cons (pe_callTy G.call_listO (by rfl) T.z_list (by decide +kernel) (pa_cons (pv 0) pa_nil)) pa_nil))) (by rfl))
 (pss_cons (ps_for PassesOwn.never rfl (pi_list (pv 1)) (pg_tup rfl (pgs_cons (pg_name (i := 5) (sc_law_factor).nd rfl (Or.inl rfl)) (pgs_cons (pg_name (i := 6) (sc_law_factor).nd rfl (Or.inl rfl)) (pgs_cons (pg_name (i := 7) (sc_law_factor).nd rfl (Or.inl rfl)) pgs_nil)))) (pss_cons (ps_set (i := 2) (sc_law_factor).nd rfl (Or.inl rfl) (pe_op op_mulW (pv 2) (pe_ix ix_list (pv 4) (pv 6) (fun _ _ => rfl))))
 (pss_cons (ps_set (i := 4) (sc_law_factor).nd rfl (Or.inl rfl) (pe_call (ok_law_now T) (hr.mono (by decide)) rfl T.mg_law_now T.fun_law_now.kp T.bd_law_now .nil pass0 (pa_cons (pv 4) (pa_cons (pe_lst (pa_cons (pe_tup (pa_cons (pv 5) (pa_cons (pv 6) (pa_cons (pv 7) pa_nil)))) pa_nil)) pa_nil))))
 (pss_one (ps_set (i := 3) (sc_law_factor).nd rfl (Or.inl rfl) (pe_op op_mulW (pv 3) (pe_ix ix_list (pv 4) (pv 6) (fun _ _ => rfl))))))))
 (pss_one (ps_ret (pe_make T.mk_Ratio (ok_Ratio_init T) (hr.mono (by decide)) rfl T.mgc_Ratio (b2_Ratio T).choose_spec.2 (b2_Ratio T).choose_spec.1 pass0 (pa_cons (pv 2) (pa_cons (pv 3) pa_nil))))))), ?_⟩
    have few := C.v.few
    have cf := C.few
    have lx := PL.len C.t
    walk_at "wp"
    refine w_listOf (SqL.of C.v.at_) fun wn H1 n1 e1 h1 => ?_
    walk_at "wp"
    have C1 := C.same e1
    refine w_walkG (xs := xs) (SqL.of C1.at_) (fun k σ' H' => ∃ (v5 v6 v7 : Option V) (nw : Addr) (tp bo : Int), σ' = [some (.ref a), some (.ref l), some (.int tp), some (.int bo), some (.ref nw), v5, v6, v7] ∧ Same H1 H' ∧ H' nw = some (.lst (((ts.take k).foldl vol1 ns).map V.int)) ∧ 0 < bo ∧ Bt (25 * k + 2) tp ∧ Bt (25 * k + 2) bo ∧ (tp : QQ) / (bo : QQ) = fac ns (ts.take k)) ⟨_, _, _, wn, 1, 1, rfl, Same.refl _, h1, by decide, by decide, by decide, ?_⟩ ?_ ?_ ?_
    · show ((1 : Int) : QQ) / ((1 : Int) : QQ) = (1 : QQ)
      decide +kernel
    · rintro k σ' H' _ ⟨_, _, _, _, _, _, _, e, _⟩
      exact SqL.of (e _ _ C1.at_)
    · rintro k x σ' H' hx ⟨v5, v6, v7, nw, tp, bo, rfl, e, hw, b0, btp, bbo, ef⟩
      have kl := (List.getElem?_eq_some_iff.mp hx).1
      obtain ⟨m, hm, p, rfl, hp⟩ := C1.t.get hx
      have pb := psb_snoc C.psb hm
      obtain ⟨g, t, eg, et, gl, tl, ne, d0, d1⟩ := psb1_of pb
      have S := sinv_at C.v.bd C.psb (fun x hx => (C.gd x hx).c.2) C.few k (by omega)
      have vb := S.vol
      rw [stt_vol] at vb
      have ft := fac_take (ns := ns) hm
      have tk : ((ts.take (k + 1)).foldl vol1 ns) = vol1 ((ts.take k).foldl vol1 ns) m := by rw [take_snoc hm, List.foldl_append]; rfl
      generalize ec : (ts.take k).foldl vol1 ns = cur at *
      have tv := vb _ (getD_mem' (ns := cur) (k := t) tl)
      have md := (C.gd m (List.mem_of_getElem? hm)).c.2
      have p25 : (2 : Nat) ^ 25 = 33554432 := rfl
      have bb : Bt 25 (cur.getD t 0) := by unfold Bt; omega
      have bs : Bt 25 (cur.getD t 0 + m.2.2) := by unfold Bt; omega
      have btp' : Bt 700 tp := btp.mono (by omega)
      have bbo' : Bt 700 bo := bbo.mono (by omega)
      refine w_g3 (SqT.of (e _ _ hp)) rfl ?_
      rw [eg, et]
      walk_at "wp"
      refine w_ixL (v := .int (cur.getD t 0)) (SqL.of hw) (ix_nat (getD_int tl)) ?_
      walk_at "wp"
      intro p2 H2 n2 e2 h2
      walk_at "wp"
      intro p3 H3 n3 e3 h3
      walk_at "wp"
      have e23 := e2.trans e3
      refine ⟨nw, p3, cur, [.ref p2], [m], rfl, e23 _ _ hw, h3, .cons ⟨p2, rfl, by rw [eg, et]; exact e3 _ _ h2⟩ .nil, psb_one pb, fun w4 H4 n4 e4 h4 => ?_⟩
      walk_at "wp"
      have lv : (vol1 cur m).length = cur.length := vol1_len
      refine w_ixL (v := .int (cur.getD t 0 + m.2.2)) (SqL.of h4) (ix_nat (by rw [show [m].foldl vol1 cur = vol1 cur m from rfl, getD_int (by omega), vol1_t eg et tl])) ?_
      walk_at "wp"
      refine ⟨_, _, _, w4, tp * cur.getD t 0, bo * (cur.getD t 0 + m.2.2), rfl, (e.trans e23).trans e4, by rw [tk]; exact h4, Int.mul_pos b0 (by omega), (Bt.mul btp bb).mono (by omega), (Bt.mul bbo bs).mono (by omega), ?_⟩
      rw [ft, ← ef, et, Int.toNat_natCast, Rat.intCast_mul, Rat.intCast_mul]
      have z1 := cast_ne (show bo ≠ 0 by omega)
      have z2 := cast_ne (show cur.getD t 0 + m.2.2 ≠ 0 by omega)
      generalize ((cur.getD t 0 + m.2.2 : Int) : QQ) = c at *
      grind
    · rintro σ' H' ⟨v5, v6, v7, nw, tp, bo, rfl, e, hw, b0, btp, bbo, ef⟩
      rw [List.take_of_length_le (by omega)] at ef
      walk_at "wp"
      refine ratio_of b0 (bbo.mono (by omega)) fun r H2 n2 e2 R => ?_
      exact q r (low tp bo) H2 ((e1.trans e).free n2) ((e1.trans e).trans e2) R (Lp.low b0 (btp.mono (by omega)) (bbo.mono (by omega))) (by rw [val_low b0]; exact ef)
end
end K38

namespace K38
open PySem L2 G
local macro_rules | `(tactic| walk_at "pos") => `(tactic| first | assumption | (decide +kernel) | omega)
local macro_rules | `(tactic| walk_at "bt") => `(tactic| first
  | assumption
  | (decide +kernel)
  | exact Bt.mono (by assumption) (by decide)
  | (refine' Bt.add ?b1 ?b2; (case b1 => walk_at "bt"); (case b2 => walk_at "bt"))
  | (refine' Bt.sub ?b1 ?b2; (case b1 => walk_at "bt"); (case b2 => walk_at "bt"))
  | (refine' Bt.mul ?b1 ?b2; (case b1 => walk_at "bt"); (case b2 => walk_at "bt"))
  | (refine' Bt.mod ?b1 ?b2; (case b2 => walk_at "bt"); (case b1 => walk_at "pos"))
  | (refine' Bt.div ?b1 ?b2; (case b2 => walk_at "bt"); (case b1 => walk_at "pos"))
  | (refine' Bt.pow3 ?b1; (case b1 => walk_at "bt"))
  | (refine' Bt.neg ?b1; (case b1 => walk_at "bt"))
  | exact Bt.any)
local macro_rules | `(tactic| walk_at "btm") => `(tactic| ((refine' Bt.mono ?m1 ?m2); (case m1 => walk_at "bt"); (case m2 => (decide +kernel))))
local macro_rules | `(tactic| walk_at "ne") => `(tactic| first
  | assumption
  | (refine' Ne.symm ?q1; (case q1 => assumption))
  | (refine' ne_of_none (by assumption) ?q1; (case q1 => assumption))
  | (refine' Ne.symm (ne_of_none (by assumption) ?q1); (case q1 => assumption)))
local macro_rules | `(tactic| walk_at "hp") => `(tactic| first
  | assumption
  | exact upd_same
  | ((refine' lst_same ?q1 (by assumption : Same _ _)); (case q1 => walk_at "hp"))
  | ((refine' (by assumption : Fr _ _ _) _ _ ?n ?h); (case n => walk_at "ne"); (case h => walk_at "hp"))
  | ((refine (upd_ne (by assumption)).trans ?_); walk_at "hp")
  | ((refine (upd_ne (Ne.symm (by assumption))).trans ?_); walk_at "hp"))
local macro_rules | `(tactic| walk_at "sr") => `(tactic| first
  | assumption
  | ((refine' Src.same ?q1 (by assumption : Same _ _)); (case q1 => walk_at "sr")))
local macro_rules | `(tactic| walk_at "rt") => `(tactic| first
  | assumption
  | ((refine' Rat.same ?q1 (by assumption : Same _ _)); (case q1 => walk_at "rt"))
  | ((refine' Rat.fr ?q1 ?q2 (by assumption : Fr _ _ _)); (case q2 => walk_at "sr"); (case q1 => walk_at "rt")))
local macro_rules | `(tactic| walk_at "tp") => `(tactic| first
  | assumption
  | ((refine' tup_same ?q1 (by assumption : Same _ _)); (case q1 => walk_at "tp"))
  | ((refine' tup_fr ?q1 ?q2 (by assumption : Fr _ _ _)); (case q2 => walk_at "sr"); (case q1 => walk_at "tp")))
local macro_rules | `(tactic| walk_at "ls") => `(tactic| first
  | assumption
  | ((refine' lst_same ?q1 (by assumption : Same _ _)); (case q1 => walk_at "ls"))
  | ((refine' lst_fr ?q1 ?q2 (by assumption : Fr _ _ _)); (case q2 => assumption); (case q1 => walk_at "ls")))
local macro_rules | `(tactic| walk_at "sm") => `(tactic| first
  | exact Same.refl _
  | assumption
  | ((refine Same.trans ?_ (by assumption : Same _ _)); walk_at "sm"))
local macro_rules | `(tactic| walk_at "fr") => `(tactic| first
  | exact Fr.refl _ _
  | assumption
  | ((refine Fr.trans ?_ (Fr.same (by assumption : Same _ _))); walk_at "fr")
  | ((refine Fr.trans ?_ (by assumption : Fr _ _ _)); walk_at "fr"))
local macro_rules | `(tactic| walk_at "wp1") => `(tactic| first
  | (with_reducible refine w_seq ?_) | (with_reducible refine w_next ?_) | (with_reducible refine w_ret ?_) | (with_reducible refine w_asg ?_) | (with_reducible refine w_gn ?_) | (with_reducible refine w_if ?_)
  | (with_reducible refine w_cons ?_) | (with_reducible refine w_nil ?_) | (with_reducible refine w_c ?_) | (with_reducible refine w_op ?_) | (with_reducible refine w_cb ?_)
  | ((with_reducible refine' w_var ?h ?_); (case h => exact rfl))
  | (with_reducible refine w_I0 ?_) | (with_reducible refine w_eqI ?_) | (with_reducible refine w_neI ?_) | (with_reducible refine w_test ?_) | (with_reducible refine w_tB ?_) | (with_reducible refine w_bl ?_) | (with_reducible refine w_par ?_) | (with_reducible refine w_par2 ?_) | (with_reducible refine w_par3 ?_) | (with_reducible refine w_three ?_)
  | (with_reducible refine w_not ?_) | (with_reducible refine w_and ?_) | (with_reducible refine w_or ?_) | (with_reducible refine w_andV ?_) | (with_reducible refine w_orV ?_) | (with_reducible refine w_notV ?_) | (with_reducible refine w_tif ?_)
  | (with_reducible refine w_tup ?_) | (with_reducible refine w_lst ?_) | (with_reducible refine w_un ?_) | (with_reducible refine w_U ?_) | (with_reducible refine w_drop ?_) | (with_reducible refine w_brk ?_) | (with_reducible refine w_cont ?_) | (with_reducible refine w_retN ?_)
  | (with_reducible refine w_call ?_) | (with_reducible refine w_fld ?_) | (with_reducible refine w_sfld ?_) | (with_reducible refine w_prop ?_) | (with_reducible refine w_make ?_) | (with_reducible refine w_meth ?_) | (with_reducible refine w_methN ?_) | (with_reducible refine w_revL ?_) | (with_reducible refine w_gsub ?_)
  | ((with_reducible refine' w_powN ?c1 ?c2 ?_); (case c2 => (decide +kernel)); (case c1 => exact rfl))
  | ((with_reducible refine' w_powV ?c1 ?c2 ?c3 ?c4 ?_); (case c2 => walk_at "bt"); (case c3 => (decide +kernel)); (case c4 => (decide +kernel)); (case c1 => exact rfl))
  | ((with_reducible refine' w_I (C := CMulW) ?c1 ?_); (case c1 => (refine' mulOk ?k1 ?k2 ?k3; (case k1 => walk_at "bt"); (case k2 => walk_at "bt"); (case k3 => decide +kernel))))
  | ((with_reducible refine' w_I (C := CDivW) ?c1 ?_); (case c1 => (refine' divOk ?k1 ?k2 ?k3; (case k1 => walk_at "pos"); (case k2 => walk_at "bt"); (case k3 => decide +kernel))))
  | ((with_reducible refine' w_I (C := fun _ j => 0 < j) ?c1 ?_); (case c1 => walk_at "pos"))
  | (with_reducible refine w_isB ?_) | (with_reducible refine w_notB ?_) | (with_reducible refine w_neS ?_) | (with_reducible refine w_eqS ?_)
  | (with_reducible refine w_iRng1 ?_) | (with_reducible refine w_for ?_) | (with_reducible refine w_iEnum ?_) | (with_reducible refine w_iList ?_) | (with_reducible refine w_iTup ?_) | (with_reducible refine w_noPart ?_) | (with_reducible refine w_part ?_) | (with_reducible refine w_int ?_)
  | (with_reducible refine w_sl ?_)
  | (with_reducible refine w_two ?_) | (with_reducible refine w_one ?_)
  | ((with_reducible refine' w_ixL ?hs ?he ?_); (case hs => first | (refine' SqL.of ?q0; (case q0 => walk_at "hp")) | assumption); (case he => exact rfl))
  | ((with_reducible refine' w_ixT ?hs ?he ?_); (case hs => first | (refine' SqT.of ?q0; (case q0 => walk_at "tp")) | assumption); (case he => exact rfl))
  | ((with_reducible refine' w_setL ?hs ?he ?_); (case hs => walk_at "hp"); (case he => exact rfl))
  | (with_reducible refine w_iteT rfl ?_) | (with_reducible refine w_iteF rfl ?_) | ((with_reducible refine w_alloc ?h ?_); (case h => exact rfl))
  | (with_reducible refine w_augS ?_) | (with_reducible refine w_ipI ?_) | (with_reducible refine w_exo1 ?_) | (with_reducible refine w_exoI ?_) | (with_reducible refine w_exoK ?_) | (with_reducible refine w_fldE ?_) | (with_reducible refine w_ost ?_) | (with_reducible refine w_makeS ?_) | (with_reducible refine w_methS ?_) | (with_reducible refine w_callS ?_) | (with_reducible refine w_bm ?_) | (with_reducible refine w_bm0 ?_) | (with_reducible refine w_din ?_) | (with_reducible refine w_dget ?_) | (with_reducible refine w_dput ?_) | (with_reducible refine w_listVals ?_) | (with_reducible refine w_dget2 ?_) | (with_reducible refine w_dpop2 ?_) | (with_reducible refine w_makeK ?_) | (with_reducible refine w_callN ?_))
local macro_rules | `(tactic| walk_at "wp") => `(tactic| repeat (walk_at "wp1"))

section
variable {P : Program} {w : World} {K : PySem.W.Frag} {mg : Str → Option Value} {base : Heap} {A : Ad}
def spLaw (K : PySem.W.Frag) : Sp := fun vs H Q _ => ∃ (a : Addr) (ns : List Int), vs = [.ref a] ∧ SqL K H a (ns.map V.int) ∧ ns.length ≤ 63 ∧ ∀ H', Q (.bl true) H'
theorem ok_law (T : Txt K mg A) : FnG P w K mg base 11 A.a_law A.d_law ["script"] (spLaw K) := by
  refine G.fun_ok T.fun_law sc_law (fun vs H Q E h => ?_) (fun cdv B outer s H vs Q E hgd hr h => ?_)
  · obtain ⟨a, ns, rfl, _⟩ := h
    rfl
  · obtain ⟨a, ns, rfl, hS, hl, q⟩ := h
    refine ⟨_, (pss_cons (ps_for PassesOwn.never rfl (pi_range1 rfl T.z_range (pa_cons (pe_callB (call_max2 rfl) (by rfl) T.z_max (by decide +kernel) (pa_cons pe_int (pa_cons (pe_callB (call_min2 rfl) (by rfl) T.z_min (by decide +kernel) (pa_cons pe_int (pa_cons (pe_callB call_len (by rfl) T.z_len (by decide +kernel) (pa_cons (pv 0) pa_nil)) pa_nil))) pa_nil))) pa_nil)) (pg_name (i := 1) (sc_law).nd rfl (Or.inl rfl)) (pss_cons (ps_set (i := 2) (sc_law).nd rfl (Or.inl rfl) (pe_call (ok_law_open_source T) (hr.mono (by decide)) rfl T.mg_law_open_source T.fun_law_open_source.kp T.bd_law_open_source .nil pass0 (pa_cons (pv 0) (pa_cons (pv 1) pa_nil))))
 (pss_one (ps_for PassesOwn.never rfl (pi_range1 rfl T.z_range (pa_cons pe_int pa_nil)) (pg_name (i := 3) (sc_law).nd rfl (Or.inl rfl)) (pss_cons (ps_asg (pe_call (ok_law_case T) (hr.mono (by decide)) rfl T.mg_law_case T.fun_law_case.kp T.bd_law_case .nil pass0 (pa_cons (pv 2) (pa_cons (pv 0) (pa_cons pe_int (pa_cons (pe_ifExp (pt_cmpR op_eq (pe_op op_add (pv 1) (pv 3)) pe_int (nomark _)) pe_int pe_int) pa_nil))))) (pg_tup rfl (pgs_cons (pg_name (i := 4) (sc_law).nd rfl (Or.inl rfl)) (pgs_cons (pg_name (i := 5) (sc_law).nd rfl (Or.inl rfl)) pgs_nil))))
 (pss_cons (ps_par (i := 6) (j := 7) (by rfl) (sc_law).nd rfl rfl (by decide) rfl rfl (pa_cons (pe_callB (G.call_repr hgd hr.units) (by rfl) T.z_repr (by decide +kernel) (pa_cons (pe_lst (pa_cons (pv 4) (pa_cons (pv 5) pa_nil))) pa_nil)) (pa_cons (pe_make T.mk_Ratio (ok_Ratio_init T) (hr.mono (by decide)) rfl T.mgc_Ratio (b1_Ratio T).choose_spec.2 (b1_Ratio T).choose_spec.1 pass0 (pa_cons pe_int pa_nil)) pa_nil)) (by rfl))
 (pss_cons (ps_for PassesOwn.never rfl (pi_range1 rfl T.z_range (pa_cons (pe_op op_add (pe_callB call_len (by rfl) T.z_len (by decide +kernel) (pa_cons (pv 5) pa_nil)) pe_int) pa_nil)) (pg_name (i := 8) (sc_law).nd rfl (Or.inl rfl)) (pss_cons (ps_set (i := 9) (sc_law).nd rfl (Or.inl rfl) (pe_call (ok_factor_of T) (hr.mono (by decide)) rfl T.mg_factor_of T.fun_factor_of.kp T.bd_factor_of .nil pass0 (pa_cons (pv 4) (pa_cons (pe_slice sl_list (pv 5) po_none (po_some (pv 8))) pa_nil))))
 (pss_cons (ps_if (PW.pt (pw_or (pt_cmpR (G.op_neO (ok_Ratio_eq T) (hr.mono (by decide)) T.bd_Ratio_eq pass0 T.om_Ratio_eq T.ne_Ratio) (pv 9) (pe_call (ok_law_factor T) (hr.mono (by decide)) rfl T.mg_law_factor T.fun_law_factor.kp T.bd_law_factor .nil pass0 (pa_cons (pv 4) (pa_cons (pe_slice sl_list (pv 5) po_none (po_some (pv 8))) pa_nil))) (nomark _)) (pw_or1 (pt_not (pt_val (pe_meth (pe_make T.mk_Ratio (ok_Ratio_init T) (hr.mono (by decide)) rfl T.mgc_Ratio (b1_Ratio T).choose_spec.2 (b1_Ratio T).choose_spec.1 pass0 (pa_cons pe_int pa_nil)) T.cl_Ratio T.me_Ratio_is_less (ok_Ratio_is_less T) (hr.mono (by decide)) T.bd_Ratio_is_less .nil pass0 (pa_cons (pv 9) pa_nil))))))) (pss_one (ps_ret pe_bl)) pss_nil)
 (pss_cons (ps_if (PW.pt (pw_and (pt_cmpR op_gt (pv 8) pe_int (nomark _)) (pw_and1 (pt_not (pt_val (pe_meth (pv 9) T.cl_Ratio T.me_Ratio_is_less (ok_Ratio_is_less T) (hr.mono (by decide)) T.bd_Ratio_is_less .nil pass0 (pa_cons (pv 7) pa_nil))))))) (pss_one (ps_ret pe_bl)) pss_nil)
 (pss_one (ps_set (i := 7) (sc_law).nd rfl (Or.inl rfl) (pv 9)))))))
 (pss_cons (ps_if (pt_cmpR (G.op_neO (ok_Ratio_eq T) (hr.mono (by decide)) T.bd_Ratio_eq pass0 T.om_Ratio_eq T.ne_Ratio) (pe_call (ok_factor_of T) (hr.mono (by decide)) rfl T.mg_factor_of T.fun_factor_of.kp T.bd_factor_of .nil pass0 (pa_cons (pv 4) (pa_cons (pv 5) pa_nil))) (pe_call (ok_determinant T) (hr.mono (by decide)) rfl T.mg_determinant T.fun_determinant.kp T.bd_determinant .nil pass0 (pa_cons (pe_call (ok_shares_after T) (hr.mono (by decide)) rfl T.mg_shares_after T.fun_shares_after.kp T.bd_shares_after .nil pass0 (pa_cons (pv 4) (pa_cons (pv 5) pa_nil))) pa_nil)) (nomark _)) (pss_one (ps_ret pe_bl)) pss_nil)
 (pss_cons (ps_if (pt_cmpR op_ne (pe_callB (G.call_repr hgd hr.units) (by rfl) T.z_repr (by decide +kernel) (pa_cons (pe_lst (pa_cons (pv 4) (pa_cons (pv 5) pa_nil))) pa_nil)) (pv 6) (nomark _)) (pss_one (ps_ret pe_bl)) pss_nil)
 (pss_cons (ps_set (i := 8) (sc_law).nd rfl (Or.inl rfl) (pe_call (ok_law_draw T) (hr.mono (by decide)) rfl T.mg_law_draw T.fun_law_draw.kp T.bd_law_draw .nil pass0 (pa_cons (pv 2) (pa_cons (pe_op op_add (pe_callB call_len (by rfl) T.z_len (by decide +kernel) (pa_cons (pv 5) pa_nil)) pe_int) pa_nil))))
 (pss_cons (ps_set (i := 10) (sc_law).nd rfl (Or.inl rfl) (pe_call (ok_law_now T) (hr.mono (by decide)) rfl T.mg_law_now T.fun_law_now.kp T.bd_law_now .nil pass0 (pa_cons (pv 4) (pa_cons (pe_slice sl_list (pv 5) po_none (po_some (pv 8))) pa_nil))))
 (pss_one (ps_if (pt_cmpR op_le (pe_callB (cr_max rfl) (by rfl) T.z_max (by decide +kernel) (pa_cons (pv 10) pa_nil)) (G.pe_powc (c := 1000000) (by decide +kernel) (by decide +kernel)) (nomark _)) (pss_cons (ps_set (i := 11) (sc_law).nd rfl (Or.inl rfl) (pe_op (G.op_own (ok_Ratio_mul T) (hr.mono (by decide)) T.bd_Ratio_mul pass0 T.om_Ratio_mul T.sf_Ratio) (pe_call (ok_factor_of T) (hr.mono (by decide)) rfl T.mg_factor_of T.fun_factor_of.kp T.bd_factor_of .nil pass0 (pa_cons (pv 4) (pa_cons (pe_slice sl_list (pv 5) po_none (po_some (pv 8))) pa_nil))) (pe_call (ok_factor_of T) (hr.mono (by decide)) rfl T.mg_factor_of T.fun_factor_of.kp T.bd_factor_of .nil pass0 (pa_cons (pv 10) (pa_cons (pe_slice sl_list (pv 5) (po_some (pv 8)) po_none) pa_nil)))))
 (pss_one (ps_if (pt_cmpR (G.op_neO (ok_Ratio_eq T) (hr.mono (by decide)) T.bd_Ratio_eq pass0 T.om_Ratio_eq T.ne_Ratio) (pv 11) (pv 7) (nomark _)) (pss_one (ps_ret pe_bl)) pss_nil))) pss_nil)))))))))))))
 (pss_one (ps_ret (pe_and (pe_cmpR (G.op_eqO (ok_Ratio_eq T) (hr.mono (by decide)) T.bd_Ratio_eq pass0 T.om_Ratio_eq) (pe_call (ok_factor_of T) (hr.mono (by decide)) rfl T.mg_factor_of T.fun_factor_of.kp T.bd_factor_of .nil pass0 (pa_cons (pe_lst (pa_cons pe_int (pa_cons pe_int pa_nil))) (pa_cons (pe_lst (pa_cons (pe_tup (pa_cons pe_int (pa_cons pe_int (pa_cons pe_int pa_nil)))) (pa_cons (pe_tup (pa_cons pe_int (pa_cons pe_int (pa_cons pe_int pa_nil)))) pa_nil))) pa_nil))) (pe_make T.mk_Ratio (ok_Ratio_init T) (hr.mono (by decide)) rfl T.mgc_Ratio (b2_Ratio T).choose_spec.2 (b2_Ratio T).choose_spec.1 pass0 (pa_cons pe_int (pa_cons pe_int pa_nil))) (nomark _)) (pe_one (pe_cmpR (G.op_eqO (ok_Ratio_eq T) (hr.mono (by decide)) T.bd_Ratio_eq pass0 T.om_Ratio_eq) (pe_call (ok_factor_of T) (hr.mono (by decide)) rfl T.mg_factor_of T.fun_factor_of.kp T.bd_factor_of .nil pass0 (pa_cons (pe_lst (pa_cons pe_int pa_nil)) (pa_cons (pe_lst pa_nil) pa_nil))) (pe_make T.mk_Ratio (ok_Ratio_init T) (hr.mono (by decide)) rfl T.mgc_Ratio (b1_Ratio T).choose_spec.2 (b1_Ratio T).choose_spec.1 pass0 (pa_cons pe_int pa_nil)) (nomark _))))))), ?_⟩
    have IT := ins_ty T
    walk_at "wp"
    refine w_lenL hS ?_
    walk_at "wp"
    rw [List.length_map]
    refine w_walkR ⟨by omega, by omega⟩ (fun _ σ' H' => ∃ v1 v2 v3 v4 v5 v6 v7 v8 v9 v10 v11, σ' = [some (.ref a), v1, v2, v3, v4, v5, v6, v7, v8, v9, v10, v11] ∧ Same H H') ⟨_, _, _, _, _, _, _, _, _, _, _, rfl, Same.refl _⟩ ?_ ?_
    · rintro i σ' H' hi ⟨v1, v2, v3, v4, v5, v6, v7, v8, v9, v10, v11, rfl, e0⟩
      walk_at "wp"
      refine ⟨a, ns, (i : Int), rfl, e0.seq hS, hl, by omega, Bt.mono (a := 5) (by unfold Bt; omega) (by decide), fun p H1 n1 e1 S1 => ?_⟩
      walk_at "wp"
      refine w_walkR ⟨by decide, by decide⟩ (fun tn σ' H' => ∃ v3 v4 v5 v6 v7 v8 v9 v10 v11, σ' = [some (.ref a), some (.int (i : Int)), some (.ref p), v3, v4, v5, v6, v7, v8, v9, v10, v11] ∧ Src (400 * tn) H' p ∧ Fr p H1 H') ⟨_, _, _, _, _, _, _, _, _, rfl, S1, Fr.refl _ _⟩ ?_ ?_
      · rintro tn σ' H2 htn ⟨v3, v4, v5, v6, v7, v8, v9, v10, v11, rfl, S2, F2⟩
        walk_at "wp"
        refine w_iteC (fun m H' => 3 ≤ m ∧ m ≤ 24 ∧ Same H2 H') ⟨by decide, by decide, Same.refl _⟩ ⟨by decide, by decide, Same.refl _⟩ ?_
        rintro m H3 ⟨m0, m9, e3⟩
        walk_at "wp"
        have F3 : Fr p H1 H3 := F2.trans (.same e3)
        refine ⟨p, a, 8, m, _, ns, rfl, S2.same e3, by omega, fun H4 f4 => SqL.keep (e0.seq hS) n1 e1 _ (F3.trans f4), by decide, by decide, m0, m9, fun p5 v l vn xs ts H4 nv nl h5 C vl S4 F4 => ?_⟩
        have vp : v ≠ p := (S2.same e3).ne nv
        have lp : l ≠ p := (S2.same e3).ne nl
        refine w_g2 (SqT.of h5) rfl ?_
        have F4 := F3.trans F4
        have few := C.few
        have nfew := C.v.few
        have npos := C.v.pos
        have gd := fun x hx => (C.gd x hx).c.2
        have bd := C.v.bd
        have hp := C.psb
        have lx := PL.len C.t
        clear h5 e3 F3 S2 F2 m0 m9
        walk_at "wp"
        intro q6 H6 n6 e6 h6
        walk_at "wp"
        refine w_reprC h6 (C.same e6) ?_
        walk_at "wp"
        refine ratio_lp (x := (1, 1)) lp_one rfl fun r7 H7 n7 e7 R7 => ?_
        walk_at "wp"
        have e47 := e6.trans e7
        have C7 := C.same e47
        have S7 := S4.same e47
        have F7 := F4.trans (.same e47)
        clear C S4 F4 h6 n6 e6 e7 e47
        refine w_lenL (SqL.of C7.at_) ?_
        walk_at "wp"
        refine w_walkR ⟨by omega, by omega⟩ (fun k σ' H' => ∃ (v8 v9 : Option V) (r : Addr) (x : Pr), σ' = [some (.ref a), some (.int (i : Int)), some (.ref p), some (.int (tn : Int)), some (.ref v), some (.ref l), some (.str (csD vn ts).shown), some (.ref r), v8, v9, v10, v11] ∧ Same H7 H' ∧ Rat A.c_Ratio H' r x.1 x.2 ∧ Lp 700 x ∧ val x = fac vn (ts.take (k - 1))) ⟨_, _, r7, (1, 1), rfl, Same.refl _, R7, lp_one.mono (by decide), val_11⟩ ?_ ?_
        · rintro k σ' H8 hk ⟨v8, v9, r, x, rfl, e8, Rx, bx, ex⟩
          have kl : k ≤ xs.length := by omega
          have C8 := C7.same e8
          walk_at "wp"
          refine w_slL (SqL.of C8.at_) fun s9 H9 n9 e9 h9 => ?_
          rw [cut_nat kl] at h9
          walk_at "wp"
          have C9 := (C8.same e9).take k h9
          refine ⟨v, s9, vn, _, _, rfl, C9, fun r10 x10 H10 n10 e10 R10 b10 v10' => ?_⟩
          walk_at "wp"
          have C10 := (C8.same e9).same e10
          refine w_slL (SqL.of C10.at_) fun s11 H11 n11 e11 h11 => ?_
          rw [cut_nat kl] at h11
          walk_at "wp"
          refine ⟨v, s11, vn, _, _, rfl, (C10.same e11).take k h11, fun r12 x12 H12 n12 e12 R12 b12 v12' => ?_⟩
          walk_at "wp"
          have e1012 := e11.trans e12
          refine w_neR IT (R10.same e1012) R12 ?_
          rw [decide_eq_true (val_inj b10 b12 (v10'.trans v12'.symm))]
          refine ⟨_, rfl, ?_⟩
          refine w_iteF rfl ?_
          walk_at "wp"
          refine ratio_lp (x := (0, 1)) lp_zero rfl fun r13 H13 n13 e13 R13 => ?_
          refine w_ofR R13 rfl rfl ?_
          walk_at "wp"
          have e1013 := e1012.trans e13
          refine ⟨r13, r10, (0, 1), x10, 700, rfl, R13, R10.same e1013, lp_zero.mono (by decide), b10, by decide, ?_⟩
          have pf := fac_pos bd hp gd few (k := k) (by omega)
          rw [decide_eq_true ((val_lt lp_zero b10).mp (by rw [val_zero, v10']; exact pf))]
          walk_at "wp"
          refine w_ite (fun c => ?_) fun c => ?_
          · have c : (0 : Int) < (k : Int) := of_decide_eq_true c
            obtain ⟨k', rfl⟩ : ∃ k', k = k' + 1 := ⟨k - 1, by omega⟩
            walk_at "wp"
            refine w_ofR (R10.same e1013) rfl rfl ?_
            walk_at "wp"
            have e813 := (e9.trans e10).trans e1013
            refine ⟨r10, r, x10, x, 700, rfl, R10.same e1013, Rx.same e813, b10, bx, by decide, ?_⟩
            rw [decide_eq_true ((val_lt b10 bx).mp (by rw [v10', ex]; exact fac_lt bd hp gd few (by omega)))]
            walk_at "wp"
            exact ⟨_, _, r10, x10, rfl, e8.trans e813, R10.same e1013, b10, v10'⟩
          · have c : ¬ (0 : Int) < (k : Int) := of_decide_eq_false c
            have k0 : k = 0 := by omega
            subst k0
            walk_at "wp"
            have e813 := (e9.trans e10).trans e1013
            exact ⟨_, _, r10, x10, rfl, e8.trans e813, R10.same e1013, b10, v10'⟩
        · rintro σ' H8 ⟨v8, v9, r, x, rfl, e8, Rx, bx, ex⟩
          rw [show ((xs.length : Int) + 1).toNat - 1 = ts.length by omega, List.take_length] at ex
          have C8 := C7.same e8
          have S8 := S7.same e8
          have F8 := F7.trans (.same e8)
          clear C7 S7 F7 R7 n7
          walk_at "wp"
          refine ⟨v, l, vn, _, _, rfl, C8, fun r10 x10 H10 n10 e10 R10 b10 v10' => ?_⟩
          walk_at "wp"
          refine ⟨v, l, vn, _, _, rfl, C8.same e10, fun b11 H11 n11 e11 t11 => ?_⟩
          walk_at "wp"
          refine ⟨b11, _, vn.length, 620, 700, rfl, t11, shr_len, npos, nfew, shr_rws bd hp gd few, mb_shr bd hp gd few, by decide, by decide, fun r12 x12 H12 n12 e12 R12 b12 v12' => ?_⟩
          walk_at "wp"
          have e1012 := e11.trans e12
          refine w_neR IT (R10.same e1012) R12 ?_
          have dv : DT.det vn.length (matE (shr vn ts)) = fac vn ts := by
            have := (shM_ok bd hp gd few ts.length (Nat.le_refl _)).2.2.1
            rw [List.take_length] at this
            rw [matE_shr bd hp gd few, this]
          rw [decide_eq_true (val_inj b10 b12 (v10'.trans (dv.symm.trans v12'.symm)))]
          refine ⟨_, rfl, ?_⟩
          refine w_iteF rfl ?_
          walk_at "wp"
          intro q13 H13 n13 e13 h13
          walk_at "wp"
          have e813 := (e10.trans e1012).trans e13
          have C13 := C8.same e813
          refine w_reprC h13 C13 ?_
          walk_at "wp"
          have S13 := S8.same e813
          have F13 := F8.trans (.same e813)
          have Rx13 := Rx.same e813
          clear C8 S8 F8 R10 R12 t11 n10 n11 n12 e10 e11 e12 e1012 e813 e13 h13 n13 b10 b12 v10' v12' Rx
          refine w_lenL (SqL.of C13.at_) ?_
          walk_at "wp"
          refine ⟨p, _, _, rfl, S13, by omega, by omega, Bt.mono (a := 10) (by unfold Bt; omega) (by decide), fun ct H14 g0 g9 S14 f14 => ?_⟩
          walk_at "wp"
          have C14 := C13.so S13 vp lp f14
          have F14 := F13.trans f14
          have Rx14 := Rx13.fr S13 f14
          clear C13 S13 F13 f14 Rx13
          obtain ⟨k, rfl, kl⟩ : ∃ k : Nat, ct = (k : Int) ∧ k ≤ xs.length := ⟨ct.toNat, by omega, by omega⟩
          refine w_slL (SqL.of C14.at_) fun s15 H15 n15 e15 h15 => ?_
          rw [cut_nat kl] at h15
          walk_at "wp"
          have C15 := (C14.same e15).take k h15
          refine ⟨v, s15, vn, _, _, rfl, C15.v.at_, C15.at_, C15.t, C15.psb, fun nw H16 n16 e16 h16 => ?_⟩
          walk_at "wp"
          have lv2 : ((ts.take k).foldl vol1 vn).length = vn.length := vol_len _ _
          refine w_max (SqL.of h16) (by rw [lv2]; omega) fun mx hmx hle => ?_
          walk_at "wp"
          have C16 := (C14.same e15).same e16
          refine w_ite (fun cm => ?_) fun _ => ?_
          · have cm := of_decide_eq_true cm
            walk_at "wp"
            refine w_slL (SqL.of C16.at_) fun s17 H17 n17 e17 h17 => ?_
            rw [cut_nat kl] at h17
            walk_at "wp"
            have C17 := C16.same e17
            refine ⟨v, s17, vn, _, _, rfl, C17.take k h17, fun r18 x18 H18 n18 e18 R18 b18 v18 => ?_⟩
            walk_at "wp"
            have C18 := C17.same e18
            refine w_slL (SqL.of C18.at_) fun s19 H19 n19 e19 h19 => ?_
            rw [cut_drop (by omega) (by omega), Int.toNat_natCast] at h19
            walk_at "wp"
            have si := sinv_at bd hp gd few k (by omega)
            have vb : ∀ x ∈ (ts.take k).foldl vol1 vn, 1 ≤ x ∧ x ≤ 1000000 := fun x hx => by
              have := si.vol x (by rw [stt_vol]; exact hx)
              have := hle x hx
              omega
            have C19 := C18.same e19
            refine ⟨nw, s19, _, _, _, rfl, C19.rest k h19 ((e17.trans (e18.trans e19)) _ _ h16) vb, fun r20 x20 H20 n20 e20 R20 b20 v20 => ?_⟩
            walk_at "wp"
            refine w_binR ((R18.same e19).same e20) R20 b18 b20 rfl fun r21 H21 n21 e21 R21 => ?_
            walk_at "wp"
            have e1521 := e15.trans (e16.trans (e17.trans (e18.trans (e19.trans (e20.trans e21)))))
            refine w_neR IT R21 (Rx14.same e1521) ?_
            have ve : val (jn 2 x18 x20) = val x := by
              rw [val_jn2 b18 b20, v18, v20, ex, ← fac_app, List.take_append_drop]
            rw [decide_eq_true (val_inj (jn_lp (.inr (.inr rfl)) b18 b20) bx ve)]
            refine ⟨_, rfl, ?_⟩
            refine w_iteF rfl ?_
            walk_at "wp"
            exact ⟨_, _, _, _, _, _, _, _, _, rfl, (S14.same e1521).mono (by omega), F14.trans (.same e1521)⟩
          · walk_at "wp"
            exact ⟨_, _, _, _, _, _, _, _, _, rfl, ((S14.same e15).same e16).mono (by omega), (F14.trans (.same e15)).trans (.same e16)⟩
      · rintro σ' H' ⟨v3, v4, v5, v6, v7, v8, v9, v10, v11, rfl, S2, F2⟩
        walk_at "wp"
        exact ⟨_, _, _, _, _, _, _, _, _, _, _, rfl, e0.trans (Fr.unseen n1 e1 F2)⟩
    · rintro σ' H' ⟨v1, v2, v3, v4, v5, v6, v7, v8, v9, v10, v11, rfl, e0⟩
      walk_at "wp"
      intro a1 H1 n1 e1 h1
      walk_at "wp"
      intro t2 H2 n2 e2 h2
      walk_at "wp"
      intro t3 H3 n3 e3 h3
      walk_at "wp"
      intro l4 H4 n4 e4 h4
      walk_at "wp"
      refine ⟨a1, l4, [3, 2], _, exT, rfl, ⟨⟨((e2.trans e3).trans e4) _ _ h1, by decide, by decide, by decide⟩, h4, .cons ⟨t2, rfl, (e3.trans e4) _ _ h2⟩ (.cons ⟨t3, rfl, e4 _ _ h3⟩ .nil), ?_, by decide, ex_psb⟩, fun r5 x5 H5 n5 e5 R5 b5 v5' => ?_⟩
      · intro x hx
        have : x = (0, (1, 1)) ∨ x = (1, (0, 1)) := by simpa [exT] using hx
        rcases this with rfl | rfl
        · exact ⟨⟨by decide, by decide⟩, ⟨by decide, by decide⟩, ⟨by decide, by decide⟩, by decide⟩
        · exact ⟨⟨by decide, by decide⟩, ⟨by decide, by decide⟩, ⟨by decide, by decide⟩, by decide⟩
      · walk_at "wp"
        have l49 : Lp 4 (4, 9) := ⟨by decide, by decide, by decide, by decide⟩
        refine ratio_lp (x := (4, 9)) l49 rfl fun r6 H6 n6 e6 R6 => ?_
        refine w_eqR IT (R5.same e6) R6 ?_
        rw [decide_eq_true (val_inj b5 l49 (v5'.trans fac_ex))]
        refine ⟨_, rfl, ?_⟩
        refine w_iteT rfl ?_
        walk_at "wp"
        intro a7 H7 n7 e7 h7
        walk_at "wp"
        intro l8 H8 n8 e8 h8
        walk_at "wp"
        refine ⟨a7, l8, [1], [], [], rfl, ⟨⟨e8 _ _ h7, by decide, by decide, by decide⟩, h8, .nil, nofun, by decide, rfl⟩, fun r9 x9 H9 n9 e9 R9 b9 v9' => ?_⟩
        walk_at "wp"
        refine ratio_lp (x := (1, 1)) lp_one rfl fun r10 H10 n10 e10 R10 => ?_
        refine w_eqR IT (R9.same e10) R10 ?_
        rw [decide_eq_true (val_inj b9 lp_one (v9'.trans val_11.symm))]
        exact q _
end
end K38
namespace K38
open PySem L2 G
theorem fin {P : Program} {w : World} {K : PySem.W.Frag} {mg : Str → Option Value} {A : Ad} {fa : Addr} (hfa : mg "law" = some (.ref fa)) (T : Txt K mg A) :
    ∃ fd : FuncData, (∀ (s : Shared) (u : Value), BindsTo s fd ⟨[u], []⟩ [("script", u)]) ∧ ∀ base : Heap, K.In base → base.Ns mainGlobals mg → FnG P w K mg base 11 fa fd ["script"] (spLaw K) := by
  have e := hfa.symm.trans T.mg_law
  cases e
  refine ⟨A.d_law, ?_, fun base _ _ => ok_law T⟩
  obtain ⟨oc, od, kV, doc, pm, an, cdv, ct, osl, e, _⟩ := T.fun_law.ex
  rw [e]
  exact fun s u => .of_eq rfl
theorem walk {l : PySem.W.OpenLaw} {q : Program} {loose : List Str} {XP : (Str → Option Value) → Heap → Prop} {YP : World → Heap → Prop} {d : DefRec} {K : Params → PySem.W.Frag}
    (hn : l.most = some 63) (hdf : d.params.defaults = []) (hY : ∀ (w : World) (h : Heap), YP w h → (K w.params).In h)
    (F : ∀ (w : World) (mg : Str → Option Value) (fa : Addr) (h : Heap), (K w.params).In h → h.Ns mainGlobals mg → mg d.name = some (.ref fa) → ∃ fd : FuncData,
      (∀ (s : Shared) (u : Value), BindsTo s fd ⟨[u], []⟩ [("script", u)]) ∧ ∀ base : Heap, (K w.params).In base → base.Ns mainGlobals mg → FnG l.prog w (K w.params) mg base 11 fa fd ["script"] (spLaw (K w.params))) :
    PySem.W.WalkO q loose XP YP l.row.toRowW d [] (fun f vs => PySem.call f vs) :=
  G.walk_ofG (n := 63) (k := 11) (x := "script") (sp := fun w => spLaw (K w.params)) hn (by decide) hdf ⟨rfl, by decide, by decide⟩ hY F fun _ _ a ns hl _ hS => ⟨a, ns, rfl, hS, hl, fun _ => rfl⟩
end K38
open PySem PySem.W PyProof.Rows
set_option maxRecDepth 100000 in
set_option maxHeartbeats 0 in
theorem PySem.Challenge.cw_stirred_k38_factors_from_volumes_holds : PySem.Challenge.rw_stirred_k38_factors_from_volumes.Holds := by
  w_on; o_law; k_head; (case hw => w_witness2)
  k_fill
  refine K38.walk (l := PySem.Challenge.rw_stirred_k38_factors_from_volumes) rfl rfl (fun w h Y => PySem.W.kIn_of Y) ?F
  case F =>
    intro w mg fa h KX G hmg
    refine' K38.fin hmg ?T
    case T =>
      refine' K38.txt_mk KX G ?m_Ratio ?kc_Ratio ?pg_Ratio ?hd_Ratio ?po_Ratio ?sa_Ratio ?cc_Ratio ?mo_Ratio ?sf_Ratio ?ne_Ratio ?fai_Ratio ?fab_Ratio ?fas_Ratio ?fan_Ratio ?fal_Ratio ?fat_Ratio ?fad_Ratio ?na_Ratio_top ?na_Ratio_bottom ?m_is_whole ?l_is_whole ?k_is_whole ?e_is_whole ?m_is_whole_within ?l_is_whole_within ?k_is_whole_within ?e_is_whole_within ?m_is_list_within ?l_is_list_within ?k_is_list_within ?e_is_list_within ?i_Ratio_init ?f_Ratio_init ?l_Ratio_init ?k_Ratio_init ?e_Ratio_init ?t_Ratio_init_ ?mk_Ratio ?i_Ratio_eq ?f_Ratio_eq ?l_Ratio_eq ?k_Ratio_eq ?e_Ratio_eq ?i_Ratio_add ?f_Ratio_add ?l_Ratio_add ?k_Ratio_add ?e_Ratio_add ?i_Ratio_sub ?f_Ratio_sub ?l_Ratio_sub ?k_Ratio_sub ?e_Ratio_sub ?i_Ratio_mul ?f_Ratio_mul ?l_Ratio_mul ?k_Ratio_mul ?e_Ratio_mul ?i_Ratio_neg ?f_Ratio_neg ?l_Ratio_neg ?k_Ratio_neg ?e_Ratio_neg ?i_Ratio_is_less ?f_Ratio_is_less ?l_Ratio_is_less ?k_Ratio_is_less ?e_Ratio_is_less ?i_Ratio_over ?f_Ratio_over ?l_Ratio_over ?k_Ratio_over ?e_Ratio_over ?m_is_ratio ?l_is_ratio ?k_is_ratio ?e_is_ratio ?m_is_rows ?l_is_rows ?k_is_rows ?e_is_rows ?m_copy_of ?l_copy_of ?k_copy_of ?e_copy_of ?m_moved ?l_moved ?k_moved ?e_moved ?m_moved_by_all ?l_moved_by_all ?k_moved_by_all ?e_moved_by_all ?m_is_row ?l_is_row ?k_is_row ?e_is_row ?m_is_volumes ?l_is_volumes ?k_is_volumes ?e_is_volumes ?m_is_transfer ?l_is_transfer ?k_is_transfer ?e_is_transfer ?m_is_transfer_between ?l_is_transfer_between ?k_is_transfer_between ?e_is_transfer_between ?m_is_transfers ?l_is_transfers ?k_is_transfers ?e_is_transfers ?m_volumes_after ?l_volumes_after ?k_volumes_after ?e_volumes_after ?m_contents_after ?l_contents_after ?k_contents_after ?e_contents_after ?m_shares_after ?l_shares_after ?k_shares_after ?e_shares_after ?m_volumes_by_step ?l_volumes_by_step ?k_volumes_by_step ?e_volumes_by_step ?m_volumes_behind ?l_volumes_behind ?k_volumes_behind ?e_volumes_behind ?m_moves_of ?l_moves_of ?k_moves_of ?e_moves_of ?m_check_volumes ?l_check_volumes ?k_check_volumes ?e_check_volumes ?m_check_transfers ?l_check_transfers ?k_check_transfers ?e_check_transfers ?m_contents_at_first ?l_contents_at_first ?k_contents_at_first ?e_contents_at_first ?m_check_transfers_between ?l_check_transfers_between ?k_check_transfers_between ?e_check_transfers_between ?m_factor_of ?l_factor_of ?k_factor_of ?e_factor_of ?m_determinant ?l_determinant ?k_determinant ?e_determinant ?m_pivot_in ?l_pivot_in ?k_pivot_in ?e_pivot_in ?m_without_pivot ?l_without_pivot ?k_without_pivot ?e_without_pivot ?m_cleared ?l_cleared ?k_cleared ?e_cleared ?m_check_rows ?l_check_rows ?k_check_rows ?e_check_rows ?m_law_open_source ?l_law_open_source ?k_law_open_source ?e_law_open_source ?m_law_draw ?l_law_draw ?k_law_draw ?e_law_draw ?m_law_case ?l_law_case ?k_law_case ?e_law_case ?m_law_now ?l_law_now ?k_law_now ?e_law_now ?m_law_factor ?l_law_factor ?k_law_factor ?e_law_factor ?m_law ?l_law ?k_law ?e_law ?sg_ ?st_ ?ki_Ratio_Ratio ?gi_MOST_VESSELS ?gi_MOST_TRANSFERS ?gi_MOST_DROPS ?gi_MOST_ROWS ?gi_MOST_IN_ROW ?z_isinstance ?z_int ?z_bool ?z_len ?z_range ?z_zip ?z_enumerate ?z_list ?z_tuple ?z_type ?z_all ?z_max ?z_min ?z_repr ?mi_gcd
      (case m_Ratio => k_is)
      (case kc_Ratio => k_is)
      (case pg_Ratio => k_is)
      (case hd_Ratio => k_is)
      (case po_Ratio => k_is)
      (case sa_Ratio => k_is)
      (case cc_Ratio => k_is)
      (case mo_Ratio => k_is)
      (case sf_Ratio => k_is)
      (case ne_Ratio => k_is)
      (case fai_Ratio => k_is)
      (case fab_Ratio => k_is)
      (case fas_Ratio => k_is)
      (case fan_Ratio => k_is)
      (case fal_Ratio => k_is)
      (case fat_Ratio => k_is)
      (case fad_Ratio => k_is)
      (case na_Ratio_top => k_is)
      (case na_Ratio_bottom => k_is)
      (case m_is_whole => k_is)
      (case l_is_whole => k_is)
      (case k_is_whole => k_is)
      (case e_is_whole => k_is)
      (case m_is_whole_within => k_is)
      (case l_is_whole_within => k_is)
      (case k_is_whole_within => k_is)
      (case e_is_whole_within => k_is)
      (case m_is_list_within => k_is)
      (case l_is_list_within => k_is)
      (case k_is_list_within => k_is)
      (case e_is_list_within => k_is)
      (case i_Ratio_init => k_is)
      (case f_Ratio_init => k_is)
      (case l_Ratio_init => k_is)
      (case k_Ratio_init => k_is)
      (case e_Ratio_init => k_is)
      (case t_Ratio_init_ => k_is)
      (case mk_Ratio => k_is)
      (case i_Ratio_eq => k_is)
      (case f_Ratio_eq => k_is)
      (case l_Ratio_eq => k_is)
      (case k_Ratio_eq => k_is)
      (case e_Ratio_eq => k_is)
      (case i_Ratio_add => k_is)
      (case f_Ratio_add => k_is)
      (case l_Ratio_add => k_is)
      (case k_Ratio_add => k_is)
      (case e_Ratio_add => k_is)
      (case i_Ratio_sub => k_is)
      (case f_Ratio_sub => k_is)
      (case l_Ratio_sub => k_is)
      (case k_Ratio_sub => k_is)
      (case e_Ratio_sub => k_is)
      (case i_Ratio_mul => k_is)
      (case f_Ratio_mul => k_is)
      (case l_Ratio_mul => k_is)
      (case k_Ratio_mul => k_is)
      (case e_Ratio_mul => k_is)
      (case i_Ratio_neg => k_is)
      (case f_Ratio_neg => k_is)
      (case l_Ratio_neg => k_is)
      (case k_Ratio_neg => k_is)
      (case e_Ratio_neg => k_is)
      (case i_Ratio_is_less => k_is)
      (case f_Ratio_is_less => k_is)
      (case l_Ratio_is_less => k_is)
      (case k_Ratio_is_less => k_is)
      (case e_Ratio_is_less => k_is)
      (case i_Ratio_over => k_is)
      (case f_Ratio_over => k_is)
      (case l_Ratio_over => k_is)
      (case k_Ratio_over => k_is)
      (case e_Ratio_over => k_is)
      (case m_is_ratio => k_is)
      (case l_is_ratio => k_is)
      (case k_is_ratio => k_is)
      (case e_is_ratio => k_is)
      (case m_is_rows => k_is)
      (case l_is_rows => k_is)
      (case k_is_rows => k_is)
      (case e_is_rows => k_is)
      (case m_copy_of => k_is)
      (case l_copy_of => k_is)
      (case k_copy_of => k_is)
      (case e_copy_of => k_is)
      (case m_moved => k_is)
      (case l_moved => k_is)
      (case k_moved => k_is)
      (case e_moved => k_is)
      (case m_moved_by_all => k_is)
      (case l_moved_by_all => k_is)
      (case k_moved_by_all => k_is)
      (case e_moved_by_all => k_is)
      (case m_is_row => k_is)
      (case l_is_row => k_is)
      (case k_is_row => k_is)
      (case e_is_row => k_is)
      (case m_is_volumes => k_is)
      (case l_is_volumes => k_is)
      (case k_is_volumes => k_is)
      (case e_is_volumes => k_is)
      (case m_is_transfer => k_is)
      (case l_is_transfer => k_is)
      (case k_is_transfer => k_is)
      (case e_is_transfer => k_is)
      (case m_is_transfer_between => k_is)
      (case l_is_transfer_between => k_is)
      (case k_is_transfer_between => k_is)
      (case e_is_transfer_between => k_is)
      (case m_is_transfers => k_is)
      (case l_is_transfers => k_is)
      (case k_is_transfers => k_is)
      (case e_is_transfers => k_is)
      (case m_volumes_after => k_is)
      (case l_volumes_after => k_is)
      (case k_volumes_after => k_is)
      (case e_volumes_after => k_is)
      (case m_contents_after => k_is)
      (case l_contents_after => k_is)
      (case k_contents_after => k_is)
      (case e_contents_after => k_is)
      (case m_shares_after => k_is)
      (case l_shares_after => k_is)
      (case k_shares_after => k_is)
      (case e_shares_after => k_is)
      (case m_volumes_by_step => k_is)
      (case l_volumes_by_step => k_is)
      (case k_volumes_by_step => k_is)
      (case e_volumes_by_step => k_is)
      (case m_volumes_behind => k_is)
      (case l_volumes_behind => k_is)
      (case k_volumes_behind => k_is)
      (case e_volumes_behind => k_is)
      (case m_moves_of => k_is)
      (case l_moves_of => k_is)
      (case k_moves_of => k_is)
      (case e_moves_of => k_is)
      (case m_check_volumes => k_is)
      (case l_check_volumes => k_is)
      (case k_check_volumes => k_is)
      (case e_check_volumes => k_is)
      (case m_check_transfers => k_is)
      (case l_check_transfers => k_is)
      (case k_check_transfers => k_is)
      (case e_check_transfers => k_is)
      (case m_contents_at_first => k_is)
      (case l_contents_at_first => k_is)
      (case k_contents_at_first => k_is)
      (case e_contents_at_first => k_is)
      (case m_check_transfers_between => k_is)
      (case l_check_transfers_between => k_is)
      (case k_check_transfers_between => k_is)
      (case e_check_transfers_between => k_is)
      (case m_factor_of => k_is)
      (case l_factor_of => k_is)
      (case k_factor_of => k_is)
      (case e_factor_of => k_is)
      (case m_determinant => k_is)
      (case l_determinant => k_is)
      (case k_determinant => k_is)
      (case e_determinant => k_is)
      (case m_pivot_in => k_is)
      (case l_pivot_in => k_is)
      (case k_pivot_in => k_is)
      (case e_pivot_in => k_is)
      (case m_without_pivot => k_is)
      (case l_without_pivot => k_is)
      (case k_without_pivot => k_is)
      (case e_without_pivot => k_is)
      (case m_cleared => k_is)
      (case l_cleared => k_is)
      (case k_cleared => k_is)
      (case e_cleared => k_is)
      (case m_check_rows => k_is)
      (case l_check_rows => k_is)
      (case k_check_rows => k_is)
      (case e_check_rows => k_is)
      (case m_law_open_source => k_is)
      (case l_law_open_source => k_is)
      (case k_law_open_source => k_is)
      (case e_law_open_source => k_is)
      (case m_law_draw => k_is)
      (case l_law_draw => k_is)
      (case k_law_draw => k_is)
      (case e_law_draw => k_is)
      (case m_law_case => k_is)
      (case l_law_case => k_is)
      (case k_law_case => k_is)
      (case e_law_case => k_is)
      (case m_law_now => k_is)
      (case l_law_now => k_is)
      (case k_law_now => k_is)
      (case e_law_now => k_is)
      (case m_law_factor => k_is)
      (case l_law_factor => k_is)
      (case k_law_factor => k_is)
      (case e_law_factor => k_is)
      (case m_law => k_is)
      (case l_law => k_is)
      (case k_law => k_is)
      (case e_law => k_is)
      (case sg_ => k_is)
      (case st_ => k_is)
      (case ki_Ratio_Ratio => kit_is)
      (case gi_MOST_VESSELS => k_is)
      (case gi_MOST_TRANSFERS => k_is)
      (case gi_MOST_DROPS => k_is)
      (case gi_MOST_ROWS => k_is)
      (case gi_MOST_IN_ROW => k_is)
      (case z_isinstance => k_is)
      (case z_int => k_is)
      (case z_bool => k_is)
      (case z_len => k_is)
      (case z_range => k_is)
      (case z_zip => k_is)
      (case z_enumerate => k_is)
      (case z_list => k_is)
      (case z_tuple => k_is)
      (case z_type => k_is)
      (case z_all => k_is)
      (case z_max => k_is)
      (case z_min => k_is)
      (case z_repr => k_is)
      (case mi_gcd => k_is)
