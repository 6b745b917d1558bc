import PyProof.Rows.All
import Wide.All
import OpenK.AllK
import Wide.FinOn
import HandS.ForMost
import HandS.Defaults
import HandS.IsInst
import HandS.TupAny
import HandS.ListItems
import HandS.Flow
import HandS.Zip
import PyProof.AutoSeq1
import HandS.Zip0
import PyProof.Draws
import HandS.Codes
import HandS.More
import HandS.Style
import HandS.Conv
import PyProof.StrLawsRepr
import HandS.ExcInit
import PyProof.Rows.EqDataRows
import HandS.NestedK
import HandS.RevRange
import HandS.Rev
import HandS.Star
import HandS.TupMul
import HandS.Text
import HandS.Iter
import KE.GoesMore
import PyProof.CodeObj
import HandS.Wide
import HandS.Exc
import HandS.ExcField
import HandS.WordsExc
import HandS.ExcOwn
import HandS.FStr
import PyProof.P3In
import HandS.ReplaceDef
import HandS.ReplaceLit
import HandS.ReplaceList
import PyProof.Rows.ReprOcc
import HandS.MakeKw
import HandS.Small
import HandS.CallSlots
import PyProof.Rows.StrIntSpec
import HandS.EndTab
import PySem.Challenge.RW_kernelpapers_k38_terms_shown
set_option Elab.async false
set_option maxRecDepth 100000
set_option maxHeartbeats 1000000
/-! Own ground: calls where nothing is being shown (guards), what data a value stands for, repr of it. -/
namespace KA
open PySem PySem.Spec PyProof.Rows L2

/-! ### a def's promise where no repr is under way -/
structure FnG (P : Program) (w : World) (K : PySem.W.Frag) (mg : Str → Option Value) (base : Heap) (CX : CXT) (k : Nat) (f : Addr) (fd : FuncData) (ps : List Str) (sp : Sp) : Prop where
  len : ∀ vs H Q E, sp vs H Q E → vs.length = ps.length
  run : ∀ (A : Around) (outer : List Env) (s : Shared) (H : Hp) (args : Args) (us : List Value) (vs : List V) (Q : VK) (E : XK), A.guards = some [] → Room k A → Env0 P w K mg base A outer s H →
    BindsTo s fd args (ps.zip us) → Vals vs us → sp vs H Q E → codeAny (model P w) A (.call (.ref f) args) (CR CX outer P w H s Q E) s

section
variable {P : Program} {w : World} {K : PySem.W.Frag} {mg : Str → Option Value} {base : Heap} {CX : CXT} {k : Nat}
/-- the body of a def, entered from one place -/
theorem enter {x qual : Str} {st : Stmt} {f : Addr} {fd : FuncData} {N ps : List Str} (F : Fun K x qual st f fd) (S : FnScope N ps (defScope st))
    {A : Around} {outer : List Env} {s : Shared} {H : Hp} {args : Args} {us : List Value} {vs : List V} {Q : VK} {E : XK} (room : Room (k + 1) A) (e0 : Env0 P w K mg base A outer s H) (bt : BindsTo s fd args (ps.zip us))
    (rv : Vals vs us) (many : vs.length = ps.length)
    (body : ∀ cdv : Value, ∃ t, PSs (cxOf CX P w K mg base N qual (defScope st) f cdv A outer s H E) (defBody st) t ∧ t { nx := fun _ H' => Q .non H', rt := Q } (start N vs) H) :
    codeAny (model P w) A (.call (.ref f) args) (CR CX outer P w H s Q E) s := by
  obtain ⟨oc, od, kV, doc, pm, an, cdv, ct, osl, rfl, lk, code⟩ := F.ex
  have here : ∀ b o, base.get? b = some o → s.heap.get? b = some o := fun b o e => (e0.bs b o e).1
  have kin : K.In s.heap := e0.mod.kin.keeps here
  have lim : s.heap.NoLimit := e0.mod.nolimit.keeps here
  have kinds : ∀ y ∈ ps.zip us, (defScope st).names.lookup y.1 = some .local ∨ ((defScope st).names.lookup y.1 = some .cell ∧ ((cellsFrom (s.heap.objs.size + 1) (defScope st).names []).lookup y.1).isSome = true) := by
    rintro ⟨n, v⟩ hy
    rcases S.par n (List.of_mem_zip hy).1 with q | q
    · exact Or.inl q
    · exact Or.inr ⟨q, PySem.W.cellsFrom_some _ _ _ (Or.inl q)⟩
  refine codeAny_call_function room.depth (kin _ _ lk) rfl S.co S.gen rfl (PySem.W.codeRec_of kin code) (bt _ _ _ _ ?_)
  refine wpAny_newFunctionEnv_cells S.kind kinds fun env he s1 x => ?_
  subst he
  refine ⟨lim.keeps x.toInCall.keep, codeAny_func ?_⟩
  obtain ⟨t, ht, hq⟩ := body cdv
  have I0 := inv_start (CX := CX) (E := E) S room.hd e0 many rv x
  refine wpAny_mono (ht.run [] s1 (start N vs) H _ I0 hq) (fun fl s' hs => ?_) fun e s' hs => hs
  have fin : ∀ {σ' : L2.St} {H' : Hp} {v : V} {u : Value}, Inv (cxOf CX P w K mg base N qual (defScope st) f cdv A outer s H E) [] σ' H' s' → RelV v u → Q v H' → CE outer P w H s Q u s' :=
    fun {_ H' v _} J r q => ⟨v, H', J.os, J.bare, J.base, J.hok, r, q⟩
  cases fl with
  | ret u => obtain ⟨v, σ', H', J, r, q⟩ := hs; exact fin J r q
  | next => obtain ⟨σ', H', J, q⟩ := hs; exact fin (v := V.non) (u := Value.none) J rfl q
  | brk => obtain ⟨_, _, _, q⟩ := hs; exact q.elim
  | cont => obtain ⟨_, _, _, q⟩ := hs; exact q.elim

theorem fnG {x qual : Str} {st : Stmt} {f : Addr} {fd : FuncData} {N ps : List Str} {sp : Sp} (F : Fun K x qual st f fd) (S : FnScope N ps (defScope st)) (len : ∀ vs H Q E, sp vs H Q E → vs.length = ps.length)
    (body : ∀ (cdv : Value) (A : Around) (outer : List Env) (s : Shared) (H : Hp) (vs : List V) (Q : VK) (E : XK), A.guards = some [] → Room k (A.deeper (envOfC qual (defScope st) s.heap.objs.size f cdv)) → sp vs H Q E →
      ∃ t, PSs (cxOf CX P w K mg base N qual (defScope st) f cdv A outer s H E) (defBody st) t ∧ t { nx := fun _ H' => Q .non H', rt := Q } (start N vs) H) : FnG P w K mg base CX (k + 1) f fd ps sp :=
  ⟨len, fun A outer s H args us vs Q E g room e0 bt rv h => enter F S room e0 bt rv (len _ _ _ _ h) fun cdv => body cdv A outer s H vs Q E g (room.deeper _) h⟩
end
end KA

namespace KA
open PySem PySem.Spec PyProof.Rows L2
/-! ### the law's own call, made where nothing is being shown -/
section
variable {P : Program} {w : World} {K : PySem.W.Frag} {mg mb : Str → Option Value} {k : Nat} {fa a : Addr} {fd : FuncData} {x : Str} {sp : Sp} {s : Shared} {vs : List Value} {ns : List Int}
/-- from a heap H that tracks at most the script -/
theorem law_from {H : Hp} (kin : K.In s.heap) (ng : s.heap.Ns mainGlobals mg) (nb : s.heap.Ns builtinsNs mb) (hb : ∀ x : Str, x ≠ "__name__" → mb x = bootBuiltins x) (lim : s.heap.NoLimit) (gens : s.gens = #[])
    (obj : s.heap.get? a = some { cls := .type "list", data := .seq vs.toArray }) (room : Room k callerA) (F : ∀ base : Heap, K.In base → base.Ns mainGlobals mg → FnG P w K mg base CX0 k fa fd [x] sp)
    (bt : ∀ (s : Shared) (u : Value), BindsTo s fd ⟨[u], []⟩ [(x, u)]) (only : Only H) (hok : HOk P w H s.heap) (atA : ∀ b, H b ≠ none → b = a) (offK : H a ≠ none → K.lookup a = none)
    (h : sp [.ref a] H (fun v _ => v = .bl true) fun _ _ _ => False) :
    codeAny (model P w) callerA (.call (.ref fa) ⟨[.ref a], []⟩) (fun r s' => r = .ok (.ret (.bool true)) ∧ OldK s.heap s'.heap ∧ s'.os = s.os ∧ AllBare s'.gens) s := by
  have low : ∀ {b : Addr} {o : Obj}, s.heap.get? b = some o → H b = none → (hidT s.heap H).get? b = some o := fun e n => hidT_get e n
  have free : ∀ {b : Addr} {o : Obj}, s.heap.get? b = some o → (∀ n, o.data ≠ .seq vs.toArray n) → H b = none := by
    intro b o e d
    cases q : H b with
    | none => rfl
    | some u =>
      obtain rfl : b = a := atA b (by rw [q]; simp)
      rw [obj] at e
      cases e
      exact absurd rfl (d _)
  have nsL : ∀ {b : Addr} {m : Str → Option Value}, s.heap.Ns b m → (hidT s.heap H).Ns b m := by
    rintro b m ⟨o, es, ep, e, d, r⟩
    exact ⟨o, es, ep, low e (free e fun n z => by rw [d] at z; cases z), d, r⟩
  have kinL : K.In (hidT s.heap H) := by
    intro b o e
    refine low (kin b o e) ?_
    cases q : H b with
    | none => rfl
    | some u =>
      obtain rfl : b = a := atA b (by rw [q]; simp)
      rw [offK (by rw [q]; simp)] at e
      cases e
  have md : Mod K mg (hidT s.heap H) := ⟨kinL, nsL ng, ⟨mb, nsL nb, hb⟩, by obtain ⟨mc, h1, h2⟩ := lim; exact ⟨mc, nsL h1, h2⟩⟩
  have e0 : Env0 P w K mg (hidT s.heap H) callerA [] s H :=
    ⟨rfl, md, fun b o e => of_hidT e, Nat.le_of_eq (hidT_size _ _), trivial, fun b z => absurd (show b ∈ ([] : List Addr) from z) (by simp), hok, .of_eq gens⟩
  have G := (F _ kinL (nsL ng)).run callerA [] s H ⟨[.ref a], []⟩ [.ref a] [.ref a] _ _ rfl room e0 (bt s (.ref a)) (.cons rfl .nil) h
  refine codeAny_mono G fun r s' z => ?_
  cases r with
  | error e => exact absurd z id
  | ok fl =>
    cases fl with
    | next => exact absurd z id
    | brk => exact absurd z id
    | cont => exact absurd z id
    | ret u =>
      obtain ⟨v, H', os, bare, un, hok', rv, q⟩ := z
      obtain rfl : v = .bl true := q
      obtain rfl : u = Value.bool true := rv
      refine ⟨rfl, OldK.of_keep fun b o e => ?_, os, bare⟩
      cases q : H b with
      | none => exact un.keep b o e q (fun z => absurd (show b ∈ ([] : List Addr) from z) (by simp)) (by simp)
      | some u =>
        obtain z | ⟨ob, xs, z⟩ := only b
        · rw [q] at z; cases z
        · obtain ⟨e1, _⟩ := hok b _ z
          obtain ⟨e2, _⟩ := hok' b _ (un.frzs b ob _ z)
          rw [e] at e1
          cases e1
          exact e2
theorem law_run (kin : K.In s.heap) (ng : s.heap.Ns mainGlobals mg) (nb : s.heap.Ns builtinsNs mb) (hb : ∀ x : Str, x ≠ "__name__" → mb x = bootBuiltins x) (lim : s.heap.NoLimit) (gens : s.gens = #[])
    (obj : s.heap.get? a = some { cls := .type "list", data := .seq vs.toArray }) (its : IntsAre vs ns) (many : ns.length ≤ sizeLine) (room : Room k callerA)
    (F : ∀ base : Heap, K.In base → base.Ns mainGlobals mg → FnG P w K mg base CX0 k fa fd [x] sp) (bt : ∀ (s : Shared) (u : Value), BindsTo s fd ⟨[u], []⟩ [(x, u)])
    (h : ∀ H : Hp, Only H → SqL K H a (ns.map V.int) → sp [.ref a] H (fun v _ => v = .bl true) fun _ _ _ => False) :
    codeAny (model P w) callerA (.call (.ref fa) ⟨[.ref a], []⟩) (fun r s' => r = .ok (.ret (.bool true)) ∧ OldK s.heap s'.heap ∧ s'.os = s.os ∧ AllBare s'.gens) s := by
  have rv := vals_ints its
  have len := its.length
  by_cases hk : K.lookup a = none
  · refine law_from (H := fun b => if b = a then some (.frz { cls := .type "list", data := .seq vs.toArray } (.lst (ns.map V.int))) else none) kin ng nb hb lim gens obj room F bt ?_ ?_ ?_ (fun _ => hk) ?_
    · intro b
      by_cases z : b = a
      · exact Or.inr ⟨_, _, if_pos z⟩
      · exact Or.inl (if_neg z)
    · intro b u z
      by_cases q : b = a
      · subst q
        simp only [if_true] at z
        cases z
        exact ⟨obj, by rw [List.length_map]; exact many, vs, _, rv, obj⟩
      · simp only [if_neg q] at z
        cases z
    · intro b z
      by_cases q : b = a
      · exact q
      · exact absurd (if_neg q) z
    · refine h _ (fun b => ?_) (Or.inl (Or.inr ⟨_, if_pos rfl⟩))
      by_cases z : b = a
      · exact Or.inr ⟨_, _, if_pos z⟩
      · exact Or.inl (if_neg z)
  · obtain ⟨o, hk⟩ := Option.ne_none_iff_exists'.mp hk
    have e := kin a o hk
    rw [obj] at e
    cases e
    have no : ∀ b : Addr, (fun _ : Addr => (none : Option HO)) b = none := fun _ => rfl
    refine law_from (H := fun _ => none) kin ng nb hb lim gens obj room F bt (fun b => Or.inl rfl) (fun b u z => by cases z) (fun b z => absurd rfl z) (fun z => absurd rfl z) ?_
    exact h _ (fun b => Or.inl rfl) (Or.inr ⟨_, vs.toArray, _, hk, rfl, rfl, rfl, by rw [List.size_toArray, len]; exact many, by simpa using rv⟩)
end
/-- the end of a law whose def is promised where nothing is being shown -/
theorem walkG {l : PySem.W.OpenLaw} {n k : Nat} {q : Program} {loose : List Str} {XP : (Str → Option Value) → Heap → Prop} {YP : World → Heap → Prop} {d : DefRec} {K : Params → PySem.W.Frag} {sp : PySem.W.Frag → Sp} {x : Str}
    (hn : l.most = some n) (small : n ≤ sizeLine) (hdf : d.params.defaults = []) (room : Room k callerA) (hY : ∀ (w : World) (h : Heap), YP w h → (K w.params).In h)
    (F : ∀ (w : World) (mg : Str → Option Value) (fa : Addr) (h : Heap), (K w.params).In h → h.Ns mainGlobals mg → mg d.name = some (.ref fa) →
      ∃ fd : FuncData, (∀ (s : Shared) (u : Value), BindsTo s fd ⟨[u], []⟩ [(x, u)]) ∧ ∀ base : Heap, (K w.params).In base → base.Ns mainGlobals mg → FnG l.prog w (K w.params) mg base CX0 k fa fd [x] (sp (K w.params)))
    (h : ∀ (K : PySem.W.Frag) (H : Hp) (a : Addr) (ns : List Int), ns.length ≤ n → Only H → SqL K H a (ns.map V.int) → sp K [.ref a] H (fun v _ => v = .bl true) fun _ _ _ => False) :
    PySem.W.WalkO q loose XP YP l.row.toRowW d [] (fun f vs => PySem.call f vs) := by
  refine Att.attach_call hn hdf fun w s₀ s₁ mg mb fa o pm cd doc a vs ns G Y ho hd hcd hmg obj its len gens => ?_
  have kin := hY w _ Y
  obtain ⟨fd, bt, F1⟩ := F w mg fa _ kin G.T.g hmg
  exact law_run kin G.T.g G.T.b G.T.builtins G.T.nolimit gens obj its (Nat.le_trans len small) room F1 bt fun H only sq => h (K w.params) H a ns len only sq
end KA
set_option Elab.async false
set_option linter.unusedVariables false
set_option maxRecDepth 100000
set_option maxHeartbeats 1000000
/-! What data a value stands for, where all of it is tracked; repr of such. -/
namespace KA
open PySem PySem.Spec PyProof.Rows L2

mutual
inductive Dn (H : Hp) : V → PyData → Prop
  | non : Dn H .non .none
  | bl (b : Bool) : Dn H (.bl b) (.bool b)
  | int (i : Int) : Dn H (.int i) (.int i)
  | str (x : Str) : Dn H (.str x) (.str x)
  | lst {a : Addr} {xs : List V} {ds : List PyData} : H a = some (.lst xs) → DnAll H xs ds → Dn H (.ref a) (.list ds)
  | tup {a : Addr} {xs : List V} {ds : List PyData} : H a = some (.tup xs) → DnAll H xs ds → Dn H (.ref a) (.tuple ds)
  | dic {a : Addr} {kvs : List (Key × V)} {ds : List (PyData × PyData)} : H a = some (.dK kvs) → DnAll H (kvs.map fun p => kV p.1) (ds.map (·.1)) → DnAll H (kvs.map (·.2)) (ds.map (·.2)) → Dn H (.ref a) (.dict ds)
inductive DnAll (H : Hp) : List V → List PyData → Prop
  | nil : DnAll H [] []
  | cons {v : V} {vs : List V} {d : PyData} {ds : List PyData} : Dn H v d → DnAll H vs ds → DnAll H (v :: vs) (d :: ds)
end

section
variable {H H' : Hp}
mutual
theorem Dn.mono (e : Same H H') : ∀ {v : V} {d : PyData}, Dn H v d → Dn H' v d
  | _, _, .non => .non
  | _, _, .bl b => .bl b
  | _, _, .int i => .int i
  | _, _, .str x => .str x
  | _, _, .lst h r => .lst (e _ _ h) (DnAll.mono e r)
  | _, _, .tup h r => .tup (e _ _ h) (DnAll.mono e r)
  | _, _, .dic h r r' => .dic (e _ _ h) (DnAll.mono e r) (DnAll.mono e r')
theorem DnAll.mono (e : Same H H') : ∀ {vs : List V} {ds : List PyData}, DnAll H vs ds → DnAll H' vs ds
  | _, _, .nil => .nil
  | _, _, .cons h r => .cons (Dn.mono e h) (DnAll.mono e r)
end
theorem DnAll.length : ∀ {vs : List V} {ds : List PyData}, DnAll H vs ds → vs.length = ds.length
  | _, _, .nil => rfl
  | _, _, .cons _ r => congrArg (· + 1) (DnAll.length r)
theorem DnAll.get : ∀ {vs : List V} {ds : List PyData} {i : Nat} {d : PyData}, DnAll H vs ds → ds[i]? = some d → ∃ v, vs[i]? = some v ∧ Dn H v d
  | _, _, _, _, .nil, e => by cases e
  | _, _, 0, _, .cons h _, e => by
    cases e
    exact ⟨_, rfl, h⟩
  | _, _, i + 1, d, .cons _ r, e => DnAll.get (i := i) (d := d) r e
theorem DnAll.append : ∀ {vs ws : List V} {ds es : List PyData}, DnAll H vs ds → DnAll H ws es → DnAll H (vs ++ ws) (ds ++ es)
  | _, _, _, _, .nil, s => s
  | _, _, _, _, .cons h r, s => .cons h (DnAll.append r s)
theorem DnAll.take : ∀ {vs : List V} {ds : List PyData} (n : Nat), DnAll H vs ds → DnAll H (vs.take n) (ds.take n)
  | _, _, 0, _ => .nil
  | _, _, _ + 1, .nil => .nil
  | _, _, n + 1, .cons h r => .cons h (DnAll.take n r)
theorem DnAll.drop : ∀ {vs : List V} {ds : List PyData} (n : Nat), DnAll H vs ds → DnAll H (vs.drop n) (ds.drop n)
  | _, _, 0, r => r
  | _, _, _ + 1, .nil => .nil
  | _, _, n + 1, .cons _ r => DnAll.drop n r
theorem DnAll.dropLast : ∀ {vs : List V} {ds : List PyData}, DnAll H vs ds → DnAll H vs.dropLast ds.dropLast := by
  intro vs ds r
  rw [List.dropLast_eq_take, List.dropLast_eq_take, r.length]
  exact r.take _
theorem DnAll.snoc {vs : List V} {ds : List PyData} {v : V} {d : PyData} (r : DnAll H vs ds) (h : Dn H v d) : DnAll H (vs ++ [v]) (ds ++ [d]) := r.append (.cons h .nil)
theorem DnAll.one {v : V} {d : PyData} (h : Dn H v d) : DnAll H [v] [d] := .cons h .nil
/-- a list whose items are data each -/
theorem DnAll.bools : ∀ bs : List Bool, DnAll H (bs.map V.bl) (bs.map PyData.bool)
  | [] => .nil
  | b :: bs => .cons (.bl b) (DnAll.bools bs)
end

section
variable {P : Program} {w : World} {H : Hp} {h : Heap}
theorem keys_read : ∀ {kvs : List (Key × V)} {vs : List (Key × Value)} {es : List DictEntry} {ds : List PyData}, KV kvs vs → PySem.Pairs (mixKind P w) es vs → DnAll H (kvs.map fun p => kV p.1) ds → Vals (kvs.map fun p => kV p.1) (es.map (·.key))
  | _, _, _, _, .nil, .nil, _ => .nil
  | _, _, _, _, .cons r t, .cons k _ t', .cons _ t'' => by
    refine .cons ?_ (keys_read t t' t'')
    have k' := k
    rw [mixKind_is, ← r.1] at k'
    obtain ⟨i, u, e1, e2⟩ | ⟨x, u, e1, e2⟩ := keyIs_shape k'
    · dsimp only
      rw [e1, e2]
      exact ⟨u, rfl⟩
    · dsimp only
      rw [e1, e2]
      exact ⟨u, rfl⟩
theorem vals_read : ∀ {kvs : List (Key × V)} {vs : List (Key × Value)} {es : List DictEntry}, KV kvs vs → PySem.Pairs (mixKind P w) es vs → Vals (kvs.map (·.2)) (es.map (·.val))
  | _, _, _, .nil, .nil => .nil
  | _, _, _, .cons r t, .cons _ e t' => by
    refine .cons ?_ (vals_read t t')
    dsimp only
    rw [e]
    exact r.2

mutual
/-- the heap reads so -/
theorem Dn.reads (ok : HOk P w H h) : ∀ {v : V} {d : PyData} {u : Value}, Dn H v d → RelV v u → ∃ as, Reads h u d as
  | _, _, _, .non, r => by
    cases r
    exact ⟨_, .none⟩
  | _, _, _, .bl b, r => by
    cases r
    exact ⟨_, .bool b⟩
  | _, _, _, .int i, r => by
    obtain ⟨t, rfl⟩ := r
    exact ⟨_, .int i t⟩
  | _, _, _, .str x, r => by
    obtain ⟨t, rfl⟩ := r
    exact ⟨_, .str x t⟩
  | _, _, _, .lst e q, r => by
    cases r
    obtain ⟨_, its, n, rv, ho⟩ := ok _ _ e
    obtain ⟨as, hr⟩ := DnAll.reads ok q rv
    exact ⟨_, .list ho rfl rfl hr⟩
  | _, _, _, .tup e q, r => by
    cases r
    obtain ⟨_, its, rv, o, ho, hc, n, hd⟩ := ok _ _ e
    obtain ⟨as, hr⟩ := DnAll.reads ok q rv
    exact ⟨_, .tuple ho hc hd hr⟩
  | _, _, _, .dic e q q', r => by
    cases r
    obtain ⟨_, _, vs, kv, o, es, ep, ho, hx, hd, _, hp, _⟩ := ok _ _ e
    obtain ⟨as, hr⟩ := DnAll.reads ok q (keys_read kv hp q)
    obtain ⟨bs, hr'⟩ := DnAll.reads ok q' (vals_read kv hp)
    exact ⟨_, .dict ho hx.1 hd hr hr'⟩
theorem DnAll.reads (ok : HOk P w H h) : ∀ {vs : List V} {ds : List PyData} {us : List Value}, DnAll H vs ds → Vals vs us → ∃ as, ReadsAll h us ds as
  | _, _, _, .nil, r => by
    cases r
    exact ⟨_, .nil⟩
  | _, _, _, .cons q t, .cons r r' => by
    obtain ⟨as, h1⟩ := Dn.reads ok q r
    obtain ⟨bs, h2⟩ := DnAll.reads ok t r'
    exact ⟨_, .cons h1 h2⟩
end

mutual
/-- how it is shown, piece by piece -/
theorem Dn.repr (ok : HOk P w H h) : ∀ {v : V} {d : PyData} {u : Value}, Dn H v d → RelV v u → d.showable = true → d.shown.length ≤ sizeLine → ∃ bs, ReadAtMost h d.depth bs ∧ ReprK P w bs h d.depth u d.shown
  | _, _, _, .non, r, _, _ => by
    cases r
    exact ReprK.of_reads (prog := P) (w := w) (Reads.none (h := h)) rfl (fun z => by cases z) (by decide +kernel)
  | _, _, _, .bl b, r, _, z => by
    cases r
    exact ReprK.of_reads (Reads.bool b) rfl (fun z => by cases z) z
  | _, _, _, .int i, r, s, z => by
    obtain ⟨t, rfl⟩ := r
    exact ReprK.of_reads (Reads.int i t) s (fun z => by cases z) z
  | _, _, _, .str x, r, s, z => by
    obtain ⟨t, rfl⟩ := r
    exact ReprK.of_reads (Reads.str x t) s (fun z => by cases z) z
  | _, _, _, .lst (a := a) (ds := ds) e q, r, s, z => by
    obtain ⟨as, hr⟩ := Dn.reads ok (.lst e q) r
    cases r
    obtain ⟨_, its, n, rv, ho⟩ := ok _ _ e
    have z' : (listText (PyData.shownAll ds)).length ≤ sizeLine := by simpa only [PyData.shown] using z
    obtain ⟨bs, hb, hk⟩ := DnAll.repr ok q rv (by simpa [PyData.showable] using s) (fun t m => Nat.le_trans (listText_mem_le m) z')
    have off : a ∉ bs := not_mem_of_deeper hr (by simp only [PyData.depth]; omega) hb
    refine ⟨a :: bs, ReadAtMost.cons hr (by simp only [PyData.depth]; omega) hb, ?_⟩
    simp only [PyData.depth, PyData.shown]
    cases its with
    | nil =>
      cases rv
      cases q
      simp only [PyData.shownAll, listText_nil]
      exact ReprK.listEmpty ho rfl rfl
    | cons x l => exact ReprK.list ho rfl rfl off (by simpa using hk.length_eq) (fun i y e => hk.item i y (by simpa using e))
  | _, _, _, .tup (a := a) (ds := ds) e q, r, s, z => by
    obtain ⟨as, hr⟩ := Dn.reads ok (.tup e q) r
    cases r
    obtain ⟨_, its, rv, o, ho, hc, n, hd⟩ := ok _ _ e
    have z' : (tupleText (PyData.shownAll ds)).length ≤ sizeLine := by simpa only [PyData.shown] using z
    obtain ⟨bs, hb, hk⟩ := DnAll.repr ok q rv (by simpa [PyData.showable] using s) (fun t m => Nat.le_trans (tupleText_mem_le m) z')
    have off : a ∉ bs := not_mem_of_deeper hr (by simp only [PyData.depth]; omega) hb
    refine ⟨a :: bs, ReadAtMost.cons hr (by simp only [PyData.depth]; omega) hb, ?_⟩
    simp only [PyData.depth, PyData.shown]
    exact ReprK.tuple ho hc hd off hk
  | _, _, _, .dic (a := a) (ds := ds) e q q', r, s, z => by
    obtain ⟨as, hr⟩ := Dn.reads ok (.dic e q q') r
    cases r
    obtain ⟨_, sys, vs, kv, o, es, ep, ho, hx, hd, _, hp, _⟩ := ok _ _ e
    have z' : (dictText (PyData.shownKv ds)).length ≤ sizeLine := by simpa only [PyData.shown] using z
    obtain ⟨s1, s2⟩ := PyData.showableKv_split ds (by simpa [PyData.showable] using s)
    obtain ⟨b1, hb1, k1⟩ := DnAll.repr ok q (keys_read kv hp q) s1 (fun t m => let ⟨p, hp, hl⟩ := PyData.shownKv_key_le ds t m; Nat.le_trans hl (Nat.le_trans (dictText_mem_le hp) z'))
    obtain ⟨b2, hb2, k2⟩ := DnAll.repr ok q' (vals_read kv hp) s2 (fun t m => let ⟨p, hp, hl⟩ := PyData.shownKv_val_le ds t m; Nat.le_trans hl (Nat.le_trans (dictText_mem_le hp) z'))
    have hb : ReadAtMost h (PyData.depthKv ds) (b1 ++ b2) := (hb1.mono (PyData.depthAll_keys_le ds)).append (hb2.mono (PyData.depthAll_vals_le ds))
    have off : a ∉ b1 ++ b2 := not_mem_of_deeper hr (by simp only [PyData.depth]; omega) hb
    refine ⟨a :: (b1 ++ b2), ReadAtMost.cons hr (by simp only [PyData.depth]; omega) hb, ?_⟩
    simp only [PyData.depth, PyData.shown, PyData.shownKv_eq]
    exact ReprK.dict ho hx.1 hd sys off (ReprEntriesK.of_two es.toList _ _ (k1.more_le (fun b m => List.mem_append_left _ m) (PyData.depthAll_keys_le ds)) (k2.more_le (fun b m => List.mem_append_right _ m) (PyData.depthAll_vals_le ds)))
theorem DnAll.repr (ok : HOk P w H h) : ∀ {vs : List V} {ds : List PyData} {us : List Value}, DnAll H vs ds → Vals vs us → PyData.showableAll ds = true → (∀ t ∈ PyData.shownAll ds, t.length ≤ sizeLine) →
    ∃ bs, ReadAtMost h (PyData.depthAll ds) bs ∧ ReprAllK P w bs h (PyData.depthAll ds) us (PyData.shownAll ds)
  | _, _, _, .nil, r, _, _ => by
    cases r
    exact ReprAllK.of_readsAll (prog := P) (w := w) (ReadsAll.nil (h := h)) rfl (fun z => by cases z) (fun t m => by simp [PyData.shownAll] at m)
  | _, _, _, .cons (d := d) (ds := ds) q t, .cons r r', s, z => by
    have s' : d.showable = true ∧ PyData.showableAll ds = true := by simpa [PyData.showableAll] using s
    obtain ⟨b1, hb1, k1⟩ := Dn.repr ok q r s'.1 (z _ (by simp only [PyData.shownAll]; exact List.mem_cons_self ..))
    obtain ⟨b2, hb2, k2⟩ := DnAll.repr ok t r' s'.2 (fun t m => z t (by simp only [PyData.shownAll]; exact List.mem_cons_of_mem _ m))
    refine ⟨b1 ++ b2, ?_, ?_⟩
    · simp only [PyData.depthAll]
      exact (hb1.mono (Nat.le_max_left _ _)).append (hb2.mono (Nat.le_max_right _ _))
    · simp only [PyData.depthAll, PyData.shownAll]
      exact .cons ((k1.more fun b m => List.mem_append_left _ m).level_le (Nat.le_max_left _ _)) (k2.more_le (fun b m => List.mem_append_right _ m) (Nat.le_max_right _ _))
end
end
end KA
set_option Elab.async false
set_option linter.unusedVariables false
set_option maxRecDepth 100000
set_option maxHeartbeats 1000000
/-! Rules of one's own: repr of data, a list grown by a tuple, == with what is empty. -/
namespace KA
open PySem PySem.Spec PyProof.Rows L2

section
variable {X : Cx}
/-- repr of data, where nothing is being shown -/
def rRepr : List V → Hp → VK → Prop := fun xs H Q => ∃ v d, xs = [v] ∧ Dn H v d ∧ d.showable = true ∧ d.shown.length ≤ sizeLine ∧ d.depth ≤ 100 ∧ Q (.str d.shown) H
theorem call_repr (hg : X.A.guards = some []) (hu : X.A.units + 200 < cLine) : CallR X (.builtin "repr") rRepr := by
  intro pins s σ H xs us Q I r h
  obtain ⟨v, d, rfl, hd, sh, sz, dp, q⟩ := h
  obtain ⟨u, rfl, ru⟩ := vals1 r
  have fin : ∀ h' tk, (∀ b o, s.heap.get? b = some o → h'.get? b = some o) → ∀ t, EP X pins σ Q (.str d.shown t) { s with heap := h', toks := tk } :=
    fun h' tk k t => ⟨.str d.shown, H, I.kept k, ⟨t, rfl⟩, q⟩
  cases hd with
  | non =>
    cases ru
    exact P.repr_of_none (fin s.heap _ (fun _ _ e => e) _)
  | bl b =>
    cases ru
    refine P.repr_of_bool ?_
    have z := fin s.heap (s.toks + 1) (fun _ _ e => e) s.toks
    rw [PyData.shown_bool] at z
    cases b <;> exact z
  | int i =>
    obtain ⟨t, rfl⟩ := ru
    exact P.repr_of_int (by simpa [PyData.showable] using sh) (fin s.heap _ (fun _ _ e => e) _)
  | str x =>
    obtain ⟨t, rfl⟩ := ru
    exact P.repr_of_str (fin s.heap _ (fun _ _ e => e) _) (by simpa only [PyData.shown] using sz)
  | @lst a xs ds e c =>
    obtain ⟨as, hr⟩ := Dn.reads I.hok (.lst e c) ru
    cases ru
    obtain ⟨_, its, n, rv, ho⟩ := I.hok _ _ e
    have z' : (listText (PyData.shownAll ds)).length ≤ sizeLine := by simpa only [PyData.shown] using sz
    obtain ⟨bs, hb, hk⟩ := DnAll.repr I.hok c rv (by simpa [PyData.showable] using sh) (fun t m => Nat.le_trans (listText_mem_le m) z')
    have off : a ∉ bs := not_mem_of_deeper hr (by simp only [PyData.depth]; omega) hb
    have dep : PyData.depthAll ds + 1 ≤ 100 := by simpa only [PyData.depth] using dp
    refine call_repr_slot (idr := "list.__repr__") (by omega) ⟨_, ho, rfl⟩ F.slot_list_repr.toG ?_
    simp only [PyData.shown] at fin
    cases its with
    | nil =>
      cases rv
      cases c
      simp only [PyData.shownAll, listText_nil] at fin
      exact call_list_repr_empty ⟨_, ho, rfl⟩ ho rfl ⟨_, _, rfl, fin s.heap _ (fun _ _ e => e) _⟩
    | cons y l =>
      exact call_list_reprK ho rfl rfl off (by simpa using hk.length_eq) (fun i y e => hk.item i y (by simpa using e)) (by exact hg) (fun b _ => Clear.nil b) (by show X.A.units + 1 + _ < cLine; omega) (fun _ _ e => e)
        (fun h' u tk k => ⟨_, _, rfl, fin h' tk k u⟩) z'
  | @tup a xs ds e c =>
    obtain ⟨as, hr⟩ := Dn.reads I.hok (.tup e c) ru
    cases ru
    obtain ⟨_, its, rv, o, ho, hc, n, hd⟩ := I.hok _ _ e
    have z' : (tupleText (PyData.shownAll ds)).length ≤ sizeLine := by simpa only [PyData.shown] using sz
    obtain ⟨bs, hb, hk⟩ := DnAll.repr I.hok c rv (by simpa [PyData.showable] using sh) (fun t m => Nat.le_trans (tupleText_mem_le m) z')
    have off : a ∉ bs := not_mem_of_deeper hr (by simp only [PyData.depth]; omega) hb
    have dep : PyData.depthAll ds + 1 ≤ 100 := by simpa only [PyData.depth] using dp
    refine call_repr_slot (idr := "tuple.__repr__") (by omega) ⟨o, ho, hc⟩ F.slot_tuple_repr ?_
    simp only [PyData.shown] at fin
    exact call_tuple_reprK ho hc hd off hk (by exact hg) (fun b _ => Clear.nil b) (by show X.A.units + 1 + _ < cLine; omega) (fun _ _ e => e) (fun h' u tk k => ⟨_, _, rfl, fin h' tk k u⟩) z'
  | @dic a kvs ds e c c' =>
    obtain ⟨as, hr⟩ := Dn.reads I.hok (.dic e c c') ru
    cases ru
    obtain ⟨_, sys, vs, kv, o, es, ep, ho, hx, hd, _, hp, _⟩ := I.hok _ _ e
    have z' : (dictText (PyData.shownKv ds)).length ≤ sizeLine := by simpa only [PyData.shown] using sz
    obtain ⟨s1, s2⟩ := PyData.showableKv_split ds (by simpa [PyData.showable] using sh)
    obtain ⟨b1, hb1, k1⟩ := DnAll.repr I.hok c (keys_read kv hp c) s1 (fun t m => let ⟨p, hp, hl⟩ := PyData.shownKv_key_le ds t m; Nat.le_trans hl (Nat.le_trans (dictText_mem_le hp) z'))
    obtain ⟨b2, hb2, k2⟩ := DnAll.repr I.hok c' (vals_read kv hp) s2 (fun t m => let ⟨p, hp, hl⟩ := PyData.shownKv_val_le ds t m; Nat.le_trans hl (Nat.le_trans (dictText_mem_le hp) z'))
    have hb : ReadAtMost s.heap (PyData.depthKv ds) (b1 ++ b2) := (hb1.mono (PyData.depthAll_keys_le ds)).append (hb2.mono (PyData.depthAll_vals_le ds))
    have off : a ∉ b1 ++ b2 := not_mem_of_deeper hr (by simp only [PyData.depth]; omega) hb
    have dep : PyData.depthKv ds + 1 ≤ 100 := by simpa only [PyData.depth] using dp
    refine call_repr_slot (idr := "dict.__repr__") (by omega) ⟨o, ho, hx.1⟩ F.slot_dict_repr ?_
    simp only [PyData.shown, PyData.shownKv_eq] at fin
    exact call_dict_reprK ho hx.1 hd sys off (ReprEntriesK.of_two es.toList _ _ (k1.more_le (fun b m => List.mem_append_left _ m) (PyData.depthAll_keys_le ds)) (k2.more_le (fun b m => List.mem_append_right _ m) (PyData.depthAll_vals_le ds)))
      (by exact hg) (fun b _ => Clear.nil b) (by show X.A.units + 1 + _ < cLine; omega) (fun _ _ e => e) (fun h' u tk k => ⟨_, _, rfl, fin h' tk k u⟩) (by rw [← PyData.shownKv_eq]; exact z')
theorem grow_meets (l : Addr) (us : Array Value) (n : Nat) (b : Addr) (ws : Array Value) (n2 : Nat) (dd : Option Addr) (sl : Array (Option Value)) (short : ¬(!us.isEmpty && Builtin.List.listTooLong (us.size + ws.size)) = true)
    (z1 : us.size ≤ sizeLine) (z2 : us.size + ws.size ≤ sizeLine + 1) : Meets (Builtin.«list.extend» ⟨[.ref l, .ref b], []⟩) (fun _ R s =>
      s.heap.get? l = some { cls := .type "list", dict := none, data := .seq us n, slots := #[] } ∧ s.heap.get? b = some { cls := .type "tuple", dict := dd, data := .seq ws n2, slots := sl } ∧
        R (.ok (.ret Value.none)) { s with heap := s.heap.update l (Obj.mapSeq fun x => x ++ ws), toks := s.toks }) :=
  .of_wp fun prog w A R s h => by
    obtain ⟨hp, g, d, tk, os⟩ := s
    obtain ⟨hl, hb, h⟩ := h
    have f1 := PySem.AutoSeq1.idx_int
    have f2 := PySem.AutoSeq1.sub_tuple_tuple
    have f3 := PySem.AutoSeq1.sub_list_list
    have f4 := PySem.AutoSeq1.sub_tuple_list
    have f5 := PySem.AutoSeq1.sub_list_tuple
    have z3 : (us ++ ws).size ≤ sizeLine + 1 := by rw [Array.size_append]; exact z2
    wp_walk using (wpAny_updateSeq hl rfl (hz := z1) (_hz' := z3)), PySem.AutoSeq1.wpAny_loadPart' hl, PySem.AutoSeq1.wpAny_loadPart' hb
    exact ⟨_, rfl, h⟩
/-- xs.extend(t), t a tuple that H tracks -/
def rGrow : V → List V → Hp → VK → Prop := fun x vs H Q => ∃ l b xs zs, x = .ref l ∧ vs = [.ref b] ∧ H l = some (.lst xs) ∧ H b = some (.tup zs) ∧ xs.length + zs.length ≤ sizeLine ∧ Q .non (upd H l (.lst (xs ++ zs)))
theorem mt_grow : MtM X "list.extend" rGrow := by
  intro pins s σ H x vs v us Q I rx rv h
  obtain ⟨l, b, xs, zs, rfl, rfl, hl, hb, sz, q⟩ := h
  cases rx
  obtain ⟨u, rfl, ru⟩ := rv.one
  cases ru
  obtain ⟨z, its, n, r, ll, e⟩ := I.lstM hl
  obtain ⟨_, its2, r2, ⟨cls, dd, data, sl⟩, e2, hc, n2, hd⟩ := I.hok _ _ hb
  simp only at hc hd
  subst hc hd
  have l1 := r.length
  have l2 := r2.length
  have many : its.toArray.size + its2.toArray.size ≤ sizeLine := by rw [List.size_toArray, List.size_toArray]; omega
  have long : ¬ (!its.toArray.isEmpty && Builtin.List.listTooLong (its.toArray.size + its2.toArray.size)) = true := by
    rw [notLongL many, Bool.and_false]
    exact Bool.false_ne_true
  refine call_meets F.slot_list_extend ⟨_, e, rfl⟩ F.entry_list_extend (F.args_list_extend_2 _ _) (grow_meets l its.toArray n b its2.toArray n2 dd sl long (by rw [List.size_toArray]; omega) (by omega)) ⟨e, e2, ?_⟩
  exact ⟨.non, _, I.lset (its' := its ++ its2) hl e (by simp) (r.append r2) (by rw [List.length_append]; omega), rfl, q⟩
end
end KA
namespace KA
open PySem PySem.Spec PyProof.Rows L2
section
variable {X : Cx}
/-- t == (), xs == []: only whether it is empty counts -/
def rEqE : R2 := fun x y H Q => ∃ a b xs, x = .ref a ∧ y = .ref b ∧ ((H a = some (.tup xs) ∧ H b = some (.tup [])) ∨ (H a = some (.lst xs) ∧ H b = some (.lst []))) ∧ Q (.bl xs.isEmpty) H
theorem op_eqE (hu : X.A.units + 1 < cLine) : OpR X (compareOp .Eq) rEqE := by
  intro pins s σ H x y v u Q I rx ry h
  obtain ⟨a, b, xs, rfl, rfl, h, q⟩ := h
  cases rx
  cases ry
  have fin : EP X pins σ Q (.bool xs.isEmpty) s := ⟨.bl xs.isEmpty, H, I, rfl, q⟩
  rcases h with ⟨ha, hb⟩ | ⟨ha, hb⟩
  · obtain ⟨_, its, r, o, ho, hc, hd⟩ := I.hok _ _ ha
    obtain ⟨_, its2, r2, o2, ho2, hc2, hd2⟩ := I.hok _ _ hb
    cases r2
    refine SeqAt.eq_tupleAt (e := fun _ => true) ⟨o, ho, hc, hd⟩ ⟨o2, ho2, hc2, hd2⟩ (by omega) (fun j h1 h2 => absurd h2 (by simp)) ?_
    cases r <;> simpa using fin
  · obtain ⟨_, its, n, r, ho⟩ := I.hok _ _ ha
    obtain ⟨_, its2, n2, r2, ho2⟩ := I.hok _ _ hb
    cases r2
    cases r with
    | nil => exact SeqAt.eq_listAt (e := fun _ => true) ⟨_, ho, rfl, _, rfl⟩ ⟨_, ho2, rfl, _, rfl⟩ rfl (by omega) (fun j h1 h2 => absurd h2 (by simp)) (by simpa using fin)
    | cons r t => exact SeqAt.eq_list_lengthsAt ⟨_, ho, rfl, _, rfl⟩ ⟨_, ho2, rfl, _, rfl⟩ (by simp) (by omega) (by simpa using fin)
def rNeE : R2 := fun x y H Q => ∃ a b xs, x = .ref a ∧ y = .ref b ∧ H a = some (.tup xs) ∧ H b = some (.tup []) ∧ Q (.bl (!xs.isEmpty)) H
theorem op_neE (hu : X.A.units + 1 < cLine) : OpR X (compareOp .NotEq) rNeE := by
  intro pins s σ H x y v u Q I rx ry h
  obtain ⟨a, b, xs, rfl, rfl, ha, hb, q⟩ := h
  cases rx
  cases ry
  have fin : EP X pins σ Q (.bool (!xs.isEmpty)) s := ⟨.bl (!xs.isEmpty), H, I, rfl, q⟩
  obtain ⟨_, its, r, o, ho, hc, hd⟩ := I.hok _ _ ha
  obtain ⟨_, its2, r2, o2, ho2, hc2, hd2⟩ := I.hok _ _ hb
  cases r2
  refine SeqAt.RcNeAt.tuples (e := fun _ => true) ⟨o, ho, hc, hd⟩ ⟨o2, ho2, hc2, hd2⟩ (by omega) (fun j h1 h2 => absurd h2 (by simp)) _ _ _ _ ?_
  cases r <;> simpa using fin
end
end KA
set_option Elab.async false
set_option linter.unusedVariables false
set_option maxRecDepth 100000
set_option maxHeartbeats 1000000
/-! A walk over zip of a text (of plain signs) and a tuple as long. -/
namespace KZ
open PySem
section
variable {prog : Program} {w : World} {A : Around} {E : Value → Shared → Prop} {s : Shared}
abbrev Sg : String := "str_ascii_iterator"
theorem next_item {z ti to i1 i2 l2 : Addr} {k1 k2 c : Nat} {x : Str} {t : Tok} {ys : Array Value} {y a b : Value} {Q : Value → Shared → Prop} (nz : ti ≠ z ∧ to ≠ z ∧ i1 ≠ z ∧ i2 ≠ z) (nt : to ≠ i1 ∧ to ≠ i2 ∧ i1 ≠ i2) (nl : l2 ≠ z ∧ l2 ≠ to ∧ l2 ≠ i1)
    (gz : IsZip s.heap z ti to .none) (gi : IsPair s.heap ti (.ref i1) (.ref i2)) (go : IsPair s.heap to a b) (g1 : s.heap.IsStrIter i1 Sg x t k1) (g2 : s.heap.IsTupleIter i2 l2 k2) (gl : s.heap.IsTuple l2 ys)
    (hc : x.cps[k1]? = some c) (hy : ys[k2]? = some y)
    (hQ : ∀ h' tk u, IsZip h' z ti to (rawInt s.heap.objs.size) → IsPair h' to (.str ⟨#[c]⟩ u) y → h'.IsStrIter i1 Sg x t (k1 + 1) → h'.IsTupleIter i2 l2 (k2 + 1) → IsPair h' s.heap.objs.size (.str ⟨#[c]⟩ u) y → h'.objs.size = s.heap.objs.size + 1 →
      (∀ c o, c ≠ z → c ≠ to → c ≠ i1 → c ≠ i2 → s.heap.get? c = some o → h'.get? c = some o) → Q (.ref s.heap.objs.size) { s with heap := h', toks := tk }) :
    wpAny (model prog w) A (Builtin.«zip.__next__» ⟨[.ref z], []⟩) (fun fin s' => ∃ v, fin = .done (.ret v) ∧ Q v s') E s := by
  obtain ⟨n1, n2, n3, n4⟩ := nz
  obtain ⟨n5, n6, n7⟩ := nt
  obtain ⟨n8, n9, n10⟩ := nl
  show wpAny _ _ (field (.ref z) 2 >>= _) _ _ _
  refine wpAny_bind (wpAny_field gz rfl (x := .bool false) rfl ?_)
  show wpAny _ _ (field (.ref z) 3 >>= _) _ _ _
  refine wpAny_bind (wpAny_field gz rfl (x := .ref ti) rfl ?_)
  refine wpAny_bind (wpAny_seqItems gi rfl ?_)
  show wpAny _ _ (Builtin.SmallTypes.ownedTupleIsFree (.ref z) >>= _) _ _ _
  refine wpAny_bind ?_
  unfold Builtin.SmallTypes.ownedTupleIsFree
  refine wpAny_bind (wpAny_field gz rfl (x := .none) rfl (wpAny_pure ?_))
  simp only [if_true]
  refine wpAny_bind (wpAny_rule ?_)
  refine wpAny_bind (wpAny_field gz rfl (x := .ref to) rfl ?_)
  refine wpAny_bind (wpAny_setField_rec gz (by simp) fun ha za sa => ?_)
  replace za : IsZip ha z ti to .ellipsis := za
  refine wpAny_bind ?_
  simp only [List.zipIdx_cons, List.zipIdx_nil, List.forIn_cons, List.forIn_nil]
  refine wpAny_bind (wpAny_bind (wpAny_onRaise ?_))
  show wpAny _ _ (Builtin.SmallTypes.nextOf (.ref i1) >>= _) _ _ _
  refine wpAny_bind (wpAny_nextOf_ascii_item (g1.extBut sa.extBut n3) hc fun hb b1 sb => wpAny_pure ?_)
  have ob : IsPair hb to a b := sb.extBut _ _ n5 (sa.extBut _ _ n2 go)
  refine wpAny_bind (wpAny_seqItems ob rfl ?_)
  refine wpAny_bind (wpAny_updateSeq_pair ob fun hd od sd => ?_)
  replace od : IsPair hd to (.str ⟨#[c]⟩ s.toks) b := od
  refine wpAny_bind (wpAny_letGo (wpAny_pure ?_))
  refine wpAny_bind (wpAny_bind (wpAny_onRaise ?_))
  show wpAny _ _ (Builtin.SmallTypes.nextOf (.ref i2) >>= _) _ _ _
  refine wpAny_bind (RZ.nextOf_tuple_item (((g2.extBut sa.extBut n4).extBut sb.extBut n7.symm).extBut sd.extBut n6.symm) (((gl.extBut sa.extBut n8).extBut sb.extBut n10).extBut sd.extBut n9) hy fun he b2 se => wpAny_pure ?_)
  have oe : IsPair he to (.str ⟨#[c]⟩ s.toks) b := se.extBut _ _ n6 od
  refine wpAny_bind (wpAny_seqItems oe rfl ?_)
  refine wpAny_bind (wpAny_updateSeq_pair oe fun hf of sf => ?_)
  replace of : IsPair hf to (.str ⟨#[c]⟩ s.toks) y := of
  refine wpAny_bind (wpAny_letGo (wpAny_pure (wpAny_pure ?_)))
  refine wpAny_bind (wpAny_seqItems of rfl ?_)
  refine wpAny_bind (wpAny_newTuple ?_)
  have sz : hf.objs.size = s.heap.objs.size := by rw [sf.1, se.1, sd.1, sb.1, sa.1]
  have zf : IsZip hf z ti to .ellipsis := sf.extBut _ _ n2.symm (se.extBut _ _ n4.symm (sd.extBut _ _ n2.symm (sb.extBut _ _ n3.symm za)))
  have kf : ∀ c o, c ≠ z → c ≠ to → c ≠ i1 → c ≠ i2 → s.heap.get? c = some o → hf.get? c = some o := fun c o c1 c2 c3 c4 e =>
    sf.extBut _ _ c2 (se.extBut _ _ c4 (sd.extBut _ _ c2 (sb.extBut _ _ c3 (sa.extBut _ _ c1 e))))
  have f1 : hf.IsStrIter i1 Sg x t (k1 + 1) := ((b1.extBut sd.extBut n5.symm).extBut se.extBut n7).extBut sf.extBut n5.symm
  have f2 : hf.IsTupleIter i2 l2 (k2 + 1) := b2.extBut sf.extBut n6.symm
  have zlt : z < hf.objs.size := Heap.lt_size zf
  show wpAny _ _ (Builtin.SmallTypes.ownedTupleHandOut (.ref z) (.ref hf.objs.size) >>= _) _ _ _
  refine wpAny_bind ?_
  unfold Builtin.SmallTypes.ownedTupleHandOut
  have zg : IsZip (hf.push { cls := .type "tuple", data := .seq #[.str ⟨#[c]⟩ s.toks, y] }) z ti to .ellipsis := Heap.get?_push_of_some _ zf
  refine wpAny_bind (wpAny_setField_rec zg (by simp) fun hg zh sh => ?_)
  replace zh : IsZip hg z ti to (rawInt hf.objs.size) := zh
  refine wpAny_setField_rec zh (by simp) fun hi zi si => ?_
  replace zi : IsZip hi z ti to (rawInt hf.objs.size) := zi
  have up : ∀ c o, c ≠ z → hf.get? c = some o → hi.get? c = some o := fun c o c1 e => si.extBut _ _ c1 (sh.extBut _ _ c1 (Heap.get?_push_of_some _ e))
  have pi : IsPair hi hf.objs.size (.str ⟨#[c]⟩ s.toks) y := si.extBut _ _ (Nat.ne_of_gt zlt) (sh.extBut _ _ (Nat.ne_of_gt zlt) (Heap.get?_push_size _ rfl))
  have ei : hi.objs.size = hf.objs.size + 1 := by rw [si.1, sh.1, Heap.size_push]
  rw [sz] at zi pi ei
  refine wpAny_pure ⟨_, rfl, ?_⟩
  show Q (.ref hf.objs.size) _
  rw [sz]
  obtain ⟨o1, p1, q1⟩ := f1
  exact hQ hi _ _ zi (up _ _ n2 of) ⟨o1, up _ _ n3 p1, q1⟩ (f2.at fun o e => up _ o n4 e) pi ei fun c o c1 c2 c3 c4 e => up c o c1 (kf c o c1 c2 c3 c4 e)
theorem next_end {z ti to i1 i2 : Addr} {k1 : Nat} {x : Str} {t : Tok} {a b : Value} {Q : Fin → Shared → Prop} (hh : A.handled = none) (n3 : i1 ≠ z)
    (gz : IsZip s.heap z ti to .none) (gi : IsPair s.heap ti (.ref i1) (.ref i2)) (go : IsPair s.heap to a b) (g1 : s.heap.IsStrIter i1 Sg x t k1) (hc : x.cps[k1]? = none)
    (hE : ∀ h' e, (∀ c o, c ≠ z → c ≠ to → c ≠ i1 → c ≠ i2 → s.heap.get? c = some o → h'.get? c = some o) → (∃ o, h'.get? e = some o ∧ o.cls = .type "StopIteration") → E (.ref e) { s with heap := h' }) :
    wpAny (model prog w) A (Builtin.«zip.__next__» ⟨[.ref z], []⟩) Q E s := by
  show wpAny _ _ (field (.ref z) 2 >>= _) _ _ _
  refine wpAny_bind (wpAny_field gz rfl (x := .bool false) rfl ?_)
  show wpAny _ _ (field (.ref z) 3 >>= _) _ _ _
  refine wpAny_bind (wpAny_field gz rfl (x := .ref ti) rfl ?_)
  refine wpAny_bind (wpAny_seqItems gi rfl ?_)
  show wpAny _ _ (Builtin.SmallTypes.ownedTupleIsFree (.ref z) >>= _) _ _ _
  refine wpAny_bind ?_
  unfold Builtin.SmallTypes.ownedTupleIsFree
  refine wpAny_bind (wpAny_field gz rfl (x := .none) rfl (wpAny_pure ?_))
  simp only [if_true]
  refine wpAny_bind (wpAny_rule ?_)
  refine wpAny_bind (wpAny_field gz rfl (x := .ref to) rfl ?_)
  refine wpAny_bind (wpAny_setField_rec gz (by simp) fun ha za sa => ?_)
  replace za : IsZip ha z ti to .ellipsis := za
  refine wpAny_bind ?_
  simp only [List.zipIdx_cons, List.zipIdx_nil, List.forIn_cons, List.forIn_nil]
  refine wpAny_bind (wpAny_bind (wpAny_onRaise ?_))
  show wpAny _ _ (Builtin.SmallTypes.nextOf (.ref i1) >>= _) _ _ _
  refine wpAny_bind (wpAny_nextOf_ascii_end hh (g1.extBut sa.extBut n3) hc fun hb e sb he => ?_)
  obtain ⟨oe, hoe, hce⟩ := he
  have zb : IsZip hb z ti to .ellipsis := sb _ _ n3.symm za
  have off : e ≠ z := by
    rintro rfl
    rw [zb] at hoe
    cases hoe
    simp at hce
  exact wpAny_setField_rec zb (by simp) fun hd _ sd => hE hd e (fun c o c1 _ c3 _ q => sd.extBut _ _ c1 (sb _ _ c3 (sa.extBut _ _ c1 q))) ⟨oe, sd.extBut _ _ off hoe, hce⟩
end
end KZ
namespace KZ
open PySem
section
variable {prog : Program} {w : World} {A : Around} {E : Value → Shared → Prop} {s : Shared}
theorem py_item {z ti to i1 i2 l2 : Addr} {k1 k2 c : Nat} {x : Str} {t : Tok} {ys : Array Value} {y a b : Value} {Q : Option Value → Shared → Prop} (nz : ti ≠ z ∧ to ≠ z ∧ i1 ≠ z ∧ i2 ≠ z) (nt : to ≠ i1 ∧ to ≠ i2 ∧ i1 ≠ i2) (nl : l2 ≠ z ∧ l2 ≠ to ∧ l2 ≠ i1)
    (gz : IsZip s.heap z ti to .none) (gi : IsPair s.heap ti (.ref i1) (.ref i2)) (go : IsPair s.heap to a b) (g1 : s.heap.IsStrIter i1 Sg x t k1) (g2 : s.heap.IsTupleIter i2 l2 k2) (gl : s.heap.IsTuple l2 ys)
    (hc : x.cps[k1]? = some c) (hy : ys[k2]? = some y)
    (hQ : ∀ h' tk u, IsZip h' z ti to (rawInt s.heap.objs.size) → IsPair h' to (.str ⟨#[c]⟩ u) y → h'.IsStrIter i1 Sg x t (k1 + 1) → h'.IsTupleIter i2 l2 (k2 + 1) → IsPair h' s.heap.objs.size (.str ⟨#[c]⟩ u) y → h'.objs.size = s.heap.objs.size + 1 →
      (∀ c o, c ≠ z → c ≠ to → c ≠ i1 → c ≠ i2 → s.heap.get? c = some o → h'.get? c = some o) → Q (some (.ref s.heap.objs.size)) { s with heap := h', toks := tk }) :
    wpAny (model prog w) A (pyNext (.ref z)) Q E s := by
  have ty : s.TypeIs (.ref z) "zip" := ⟨_, gz, rfl⟩
  unfold pyNext
  exact wpAny_bind (wpAny_attempt (wpAny_callSpecial?_slot (name := Str.ofString "__next__") ty F.slot_zip_next (wpAny_call_entry F.slot_zip_next ty F.entry_zip_next
    (next_item nz nt nl gz gi go g1 g2 gl hc hy fun h' tk u a1 a2 a3 a4 a5 a6 a7 => wpAny_pure (hQ h' tk u a1 a2 a3 a4 a5 a6 a7)) (F.args_zip_next_1 _))))
theorem py_end {z ti to i1 i2 : Addr} {k1 : Nat} {x : Str} {t : Tok} {a b : Value} {Q : Option Value → Shared → Prop} (hh : A.handled = none) (n3 : i1 ≠ z)
    (gz : IsZip s.heap z ti to .none) (gi : IsPair s.heap ti (.ref i1) (.ref i2)) (go : IsPair s.heap to a b) (g1 : s.heap.IsStrIter i1 Sg x t k1) (hc : x.cps[k1]? = none)
    (hQ : ∀ h', (∀ c o, c ≠ z → c ≠ to → c ≠ i1 → c ≠ i2 → s.heap.get? c = some o → h'.get? c = some o) → Q none { s with heap := h' }) : wpAny (model prog w) A (pyNext (.ref z)) Q E s := by
  have ty : s.TypeIs (.ref z) "zip" := ⟨_, gz, rfl⟩
  unfold pyNext
  refine wpAny_bind (wpAny_attempt (wpAny_callSpecial?_slot (name := Str.ofString "__next__") ty F.slot_zip_next (wpAny_call_entry F.slot_zip_next ty F.entry_zip_next
    (next_end hh n3 gz gi go g1 hc fun h' e k he => ?_) (F.args_zip_next_1 _))))
  obtain ⟨o, ho, hc⟩ := he
  exact wpAny_bind (wpAny_isInstance (T := "StopIteration") (b := true) ⟨o, ho, hc⟩ isSubtype_stop (wpAny_pure (hQ _ k)))
end
/-- the heap behind zip(x, l2), step by step -/
abbrev h1 (h : Heap) (x : Str) (t : Tok) : Heap := h.push { cls := .type Sg, data := .fields #[.str x t, .int 0 0] }
abbrev h2 (h : Heap) (x : Str) (t : Tok) (l2 : Addr) : Heap := (h1 h x t).push { cls := .type "tuple_iterator", data := .fields #[.ref l2, .int 0 0] }
abbrev h3 (h : Heap) (x : Str) (t : Tok) (l2 : Addr) : Heap := (h2 h x t l2).push { cls := .type "tuple", data := .seq #[.ref h.objs.size, .ref (h1 h x t).objs.size] }
abbrev h4 (h : Heap) (x : Str) (t : Tok) (l2 : Addr) : Heap := (h3 h x t l2).push { cls := .type "tuple", data := .seq #[.none, .none] }
abbrev h5 (h : Heap) (x : Str) (t : Tok) (l2 : Addr) : Heap := (h4 h x t l2).push { cls := .type "zip", data := .fields #[.none, .bool false, .bool false, .ref (h2 h x t l2).objs.size, .ref (h3 h x t l2).objs.size] }
theorem meets_new (x : Str) (t : Tok) (l2 : Addr) (ys : Array Value) (plain : x.cps.all (· < 128) = true) :
    Meets (Builtin.«zip.__new__» ⟨[.type "zip", .str x t, .ref l2], []⟩) (fun _ R s => s.heap.IsTuple l2 ys ∧ R (.ok (.ret (.ref (h4 s.heap x t l2).objs.size))) { s with heap := h5 s.heap x t l2 }) :=
  .of_wp fun prog w A R s h => by
    obtain ⟨hp, g, d, tk, os⟩ := s
    obtain ⟨hl, h⟩ := h
    have sub := sub_zip
    have L2 : Heap.IsTuple (Shared.heap ⟨hp.push { cls := .type Sg, data := .fields #[.str x t, .int 0 0] }, g, d, tk, os⟩) l2 ys := Heap.IsTuple.push hl _
    wp_walk using wpAny_pyIter_ascii plain, wpAny_pyIter_tuple L2
    exact ⟨_, rfl, h⟩
end KZ
set_option Elab.async false
set_option linter.unusedVariables false
set_option maxRecDepth 100000
set_option maxHeartbeats 1000000
namespace KZ
open PySem PySem.Spec PyProof.Rows L2
def ItzS (K : PySem.W.Frag) (x : Str) (b : Addr) : It :=
  ⟨fun i H => i < x.cps.size ∧ ∃ (ys : List V) (y : V), SqT K H b ys ∧ ys[i]? = some y,
    fun i H v H' => ∃ T c y, v = .ref T ∧ H T = none ∧ H' = upd H T (.tup [.str ⟨#[c]⟩, y]) ∧ x.cps[i]? = some c ∧ ∀ ys, SqT K H b ys → ys[i]? = some y,
    fun i _ => x.cps.size ≤ i⟩
def Std (x : Str) (t : Tok) (b z ti to i1 i2 : Addr) (i : Nat) (h : Heap) : Prop := IsZip h z ti to .none ∧ IsPair h ti (.ref i1) (.ref i2) ∧ (∃ u v, IsPair h to u v) ∧ h.IsStrIter i1 Sg x t i ∧ h.IsTupleIter i2 b i
theorem five {z ti to i1 i2 c : Addr} (h : c ∈ [z, ti, to, i1, i2]) : c = z ∨ c = ti ∨ c = to ∨ c = i1 ∨ c = i2 := by simpa using h
theorem turn {P : Program} {w : World} {K : PySem.W.Frag} {elts : List Expr} {kk : Nat} {tpos : Pos} {x : Str} {t : Tok} {b z ti to i1 i2 : Addr}
    (nz : ti ≠ z ∧ to ≠ z ∧ i1 ≠ z ∧ i2 ≠ z) (nt : to ≠ i1 ∧ to ≠ i2 ∧ i1 ≠ i2) (nl : b ≠ z ∧ b ≠ to ∧ b ≠ i1) (ni : ti ≠ to ∧ ti ≠ i1 ∧ ti ≠ i2) :
    Turn P w K (.Tuple elts kk tpos) (ItzS K x b) [z, ti, to, i1, i2] z (Std x t b z ti to i1 i2) where
  mem := by simp
  obj := by
    rintro i h ⟨g1, g2, ⟨u, v, g3⟩, ⟨o1, e1, _, d1⟩, ⟨o2, e2, _, d2⟩⟩ c hc
    rcases five hc with q | q | q | q | q <;> rw [q]
    · exact ⟨_, g1, fun v q => nomatch q⟩
    · exact ⟨_, g2, fun v q => nomatch q⟩
    · exact ⟨_, g3, fun v q => nomatch q⟩
    · exact ⟨o1, e1, fun v q => by rw [d1] at q; cases q⟩
    · exact ⟨o2, e2, fun v q => by rw [d2] at q; cases q⟩
  keep := by
    rintro i h h' ⟨g1, g2, ⟨u, v, g3⟩, ⟨o1, e1, r1⟩, g5⟩ k
    exact ⟨k z (by simp) _ g1, k ti (by simp) _ g2, ⟨u, v, k to (by simp) _ g3⟩, ⟨o1, k i1 (by simp) _ e1, r1⟩, g5.at fun o q => k i2 (by simp) o q⟩
  item := by
    intro X hP hw hK hc i pins s σ H E I hf st hg
    subst hP hw hK
    obtain ⟨g1, g2, ⟨u, v, g3⟩, g4, g5⟩ := st
    obtain ⟨hi, ys, y, hq, hy⟩ := hg
    obtain ⟨its, rv, p, _⟩ := I.tuple hq
    obtain ⟨uy, hu, ru⟩ := rv.get hy
    have hx : x.cps[i]? = some x.cps[i] := Array.getElem?_eq_getElem hi
    have zl : z < s.heap.objs.size := Heap.lt_size g1
    refine py_item nz nt nl g1 g2 g3 g4 g5 p hx (y := uy) (by simpa using hu) fun h' tk ux z' to' a1 a2 hT sz k => ?_
    refine ⟨_, rfl, wpAny_letOwnedTupleGo_zip (s := { s with heap := h', toks := tk }) z' fun h'' z'' sb => ?_⟩
    have hT2 : h''.get? s.heap.objs.size = some { cls := .type "tuple", data := .seq #[.str ⟨#[x.cps[i]]⟩ ux, uy] } := (sb.2 _ (Nat.ne_of_gt zl)).trans hT
    have new : ObjOk X.prog X.w (upd H s.heap.objs.size (.tup [.str ⟨#[x.cps[i]]⟩, y])) h'' s.heap.objs.size (.tup [.str ⟨#[x.cps[i]]⟩, y]) :=
      ⟨by show 2 ≤ sizeLine; decide, [_, uy], .cons ⟨_, rfl⟩ (.cons ru .nil), ⟨_, hT2, rfl, _, rfl⟩⟩
    have I1 : Inv X pins σ (upd H s.heap.objs.size (.tup [.str ⟨#[x.cps[i]]⟩, y])) { s with heap := h'', toks := tk } :=
      I.turnedNew (t' := tk) (ch := [z, ti, to, i1, i2]) (fun c o hb q => (sb.2 c (fun q' => hb (by simp [q']))).trans (k c o (fun q' => hb (by simp [q'])) (fun q' => hb (by simp [q'])) (fun q' => hb (by simp [q'])) (fun q' => hb (by simp [q'])) q)) hf (Nat.le_refl _) new
    obtain ⟨o1, p1, q1⟩ := a1
    refine ⟨.ref s.heap.objs.size, _, I1, rfl, ⟨_, _, y, rfl, I.hok.fresh (Nat.le_refl _), rfl, hx, fun l hl => by rw [I.tuple_inj hl hq]; exact hy⟩,
      ⟨z'', (sb.2 _ nz.1).trans (k _ _ nz.1 ni.1 ni.2.1 ni.2.2 g2), ⟨_, uy, (sb.2 _ nz.2.1).trans to'⟩, ⟨o1, (sb.2 _ nz.2.2.1).trans p1, q1⟩, a2.at fun o q => (sb.2 _ nz.2.2.2).trans q⟩, fun c hcm => ?_⟩
    have lt : c < s.heap.objs.size := by
      rcases five hcm with q | q | q | q | q <;> rw [q]
      · exact zl
      · exact Heap.lt_size g2
      · exact Heap.lt_size g3
      · obtain ⟨_, e1, _⟩ := g4; exact Heap.lt_size e1
      · obtain ⟨_, e2, _⟩ := g5; exact Heap.lt_size e2
    rw [upd_ne (Nat.ne_of_lt lt)]
    exact (hf c hcm).1
  done := by
    intro X hP hw hK hc i pins s σ H E I hf st hg
    subst hP hw hK
    obtain ⟨g1, g2, ⟨u, v, g3⟩, g4, g5⟩ := st
    exact py_end (I.ok.hd hc) nz.2.2.1 g1 g2 g3 g4 (Array.getElem?_eq_none hg) fun h' k => ⟨rfl, I.turnedL (t' := s.toks) (ch := [z, ti, to, i1, i2]) (fun c o hb q =>
      k c o (fun q' => hb (by simp [q'])) (fun q' => hb (by simp [q'])) (fun q' => hb (by simp [q'])) (fun q' => hb (by simp [q'])) q) hf⟩
  self := fun A i s Q E st h => wpAny_pyIter_zip st.1 h
def iZipS (K : PySem.W.Frag) (ta : TA) : TI := fun σ H R => ta σ H fun vs H1 => ∃ (x : Str) (b : Addr) (ys : List V), vs = [.str x, .ref b] ∧ x.cps.all (· < 128) = true ∧ H1 b = some (.tup ys) ∧ R (ItzS K x b) H1
theorem pi_zipS {X : Cx} {e e2 : Expr} {ta : TA} {p pos tpos : Pos} {elts : List Expr} {kk : Nat} (hg : Gl X "zip") (hm : X.mg "zip" = none) (ha : PA X [e, e2] ta)
    (hs : starEach [e, e2] X.env = (false, eval e X.env) :: starEach [e2] X.env := by rfl) (hpl : (backTo pos (starEach [e2] X.env)).any (·.1) = false := by rfl) :
    PI X (.Tuple elts kk tpos) (.Call (.Name "zip" p) [e, e2] [] pos) (iZipS X.K ta) := by
  refine ⟨fun pins s σ H R I h => ?_⟩
  refine Call_ (ld_blt I hg hm PyProof.Rows.boot_zip (PyProof.Rows.callWith_type1 (thn (ha.run pos pins s σ H _ I h) fun us s1 ⟨vs, H1, I1, r1, q1⟩ => ?_) hs hpl))
  obtain ⟨x, b, ys, rfl, plain, hb, q⟩ := q1
  obtain ⟨u1, u2, rfl, ru1, ru2⟩ := vals2 r1
  obtain ⟨t, rfl⟩ := ru1
  cases ru2
  obtain ⟨_, its, rv, ot, ho, hc, n, hd⟩ := I1.hok _ _ hb
  have hT : s1.heap.IsTuple b its.toArray := ⟨ot, ho, hc, n, hd⟩
  have bl : b < s1.heap.objs.size := Heap.lt_size ho
  refine callType_new F.called_zip (by decide) (F.typeCall_zip_2 _ _) (F.newCall_zip_2 _ _) (fun obj => F.args_object_init_3 obj _ _) F.entry_zip_new (meets_new x t b its.toArray plain) ⟨hT, ?_⟩
  have z1 : (h1 s1.heap x t).objs.size = s1.heap.objs.size + 1 := Heap.size_push ..
  have z2 : (h2 s1.heap x t b).objs.size = s1.heap.objs.size + 2 := by rw [Heap.size_push, z1]
  have z3 : (h3 s1.heap x t b).objs.size = s1.heap.objs.size + 3 := by rw [Heap.size_push, z2]
  have z4 : (h4 s1.heap x t b).objs.size = s1.heap.objs.size + 4 := by rw [Heap.size_push, z3]
  have g5 : (h5 s1.heap x t b).get? (h4 s1.heap x t b).objs.size = some _ := Heap.get?_push_size _ rfl
  have g4 : (h5 s1.heap x t b).get? (h3 s1.heap x t b).objs.size = some _ := Heap.get?_push_of_some _ (Heap.get?_push_size _ rfl)
  have g3 : (h5 s1.heap x t b).get? (h2 s1.heap x t b).objs.size = some _ := Heap.get?_push_of_some _ (Heap.get?_push_of_some _ (Heap.get?_push_size _ rfl))
  have g2 : (h5 s1.heap x t b).get? (h1 s1.heap x t).objs.size = some _ := Heap.get?_push_of_some _ (Heap.get?_push_of_some _ (Heap.get?_push_of_some _ (Heap.get?_push_size _ rfl)))
  have g1 : (h5 s1.heap x t b).get? s1.heap.objs.size = some _ := Heap.get?_push_of_some _ (Heap.get?_push_of_some _ (Heap.get?_push_of_some _ (Heap.get?_push_of_some _ (Heap.get?_push_size _ rfl))))
  have keep : ∀ c o, s1.heap.get? c = some o → (h5 s1.heap x t b).get? c = some o := fun c o e =>
    Heap.get?_push_of_some _ (Heap.get?_push_of_some _ (Heap.get?_push_of_some _ (Heap.get?_push_of_some _ (Heap.get?_push_of_some _ e))))
  show _ ∧ _
  rw [z2, z3, z4] at g5
  rw [z1, z2] at g3
  rw [z3] at g4
  rw [z1] at g2
  rw [z4]
  refine ⟨⟨_, g5, rfl⟩, wpAny_pyIter_zip g5 ?_⟩
  have D := PySem.W.ktu_apart s1.heap.objs.size b b bl bl
  have I2 : Inv X pins σ H1 { s1 with heap := h5 s1.heap x t b } := I1.kept (t' := s1.toks) keep
  refine ⟨s1.heap.objs.size + 4, [s1.heap.objs.size + 4, s1.heap.objs.size + 2, s1.heap.objs.size + 3, s1.heap.objs.size, s1.heap.objs.size + 1], _, _, H1, rfl, I2,
    turn (t := t) ⟨D.TIz, D.TOz, D.i1z, D.i2z⟩ ⟨D.TOi1, D.TOi2, D.i12⟩ ⟨D.l2z, D.l2TO, D.l2i1⟩ ⟨D.TITO, D.TIi1, D.TIi2⟩, ⟨g5, g3, ⟨_, _, g4⟩, ⟨_, g1, rfl, rfl⟩, ⟨_, g2, rfl, rfl⟩⟩, fun c hcm => ?_, q⟩
  have le : s1.heap.objs.size ≤ c := by
    rcases five hcm with z | z | z | z | z <;> rw [z] <;> first | exact Nat.le_add_right _ _ | exact Nat.le_refl _
  exact I1.fpOk le (I1.hok.fresh le)
/-- a loop over zip of a text and a tuple as long -/
theorem for_zipS {K : PySem.W.Frag} {x : Str} {b : Addr} {ys : List V} {g : TG} {tb : TS} {D : Ends} {σ : L2.St} {H : Hp} (hl : x.cps.size = ys.length) (Pv : Nat → L2.St → Hp → Prop) (h0 : Pv 0 σ H) (hq : ∀ i σ H, Pv i σ H → SqT K H b ys)
    (hs : ∀ (i c : Nat) (y : V) (T : Addr) (σ : L2.St) (H : Hp), x.cps[i]? = some c → ys[i]? = some y → Pv i σ H → H T = none → g (.ref T) σ (upd H T (.tup [.str ⟨#[c]⟩, y])) fun σ2 H2 => tb { D with nx := Pv (i + 1), ct := Pv (i + 1), bk := D.nx } σ2 H2)
    (hd : ∀ σ H, Pv x.cps.size σ H → D.nx σ H) :
    ∃ W : Nat → Nat → L2.St → Hp → Prop, (∃ m, W 0 m σ H) ∧ ∀ i m σ H, W i m σ H →
      ((ItzS K x b).stop i H ∧ D.nx σ H) ∨ ((ItzS K x b).go i H ∧ ∃ N : L2.St → Hp → Prop, (∀ σ' H', N σ' H' → ∃ m', m' < m ∧ W (i + 1) m' σ' H') ∧ ∀ v H', (ItzS K x b).yld i H v H' → g v σ H' fun σ2 H2 => tb { D with nx := N, ct := N, bk := D.nx } σ2 H2) := by
  refine ⟨fun i m σ H => m = x.cps.size - i ∧ i ≤ x.cps.size ∧ Pv i σ H, ⟨_, rfl, Nat.zero_le _, h0⟩, ?_⟩
  rintro i m σ H ⟨rfl, hi, p⟩
  by_cases lt : i < x.cps.size
  · have hy : ys[i]? = some ys[i] := List.getElem?_eq_getElem (by omega)
    refine Or.inr ⟨⟨lt, ys, _, hq i σ H p, hy⟩, Pv (i + 1), fun σ' H' p' => ⟨x.cps.size - (i + 1), by omega, rfl, lt, p'⟩, ?_⟩
    rintro v H' ⟨T, c, y', rfl, hT, rfl, hc, f⟩
    exact hs i c y' T σ H hc (f ys (hq i σ H p)) p hT
  · obtain rfl : i = x.cps.size := by omega
    exact Or.inl ⟨Nat.le_refl _, hd σ H p⟩
end KZ
set_option Elab.async false
set_option linter.unusedVariables false
set_option maxRecDepth 100000
set_option maxHeartbeats 1000000
/-! Data looked at: kinds, terms, names; heaps without one object; isinstance of data. -/
namespace KA
open PySem PySem.Spec PyProof.Rows L2

/-! ### a heap without one object -/
def hid (p : Addr) (H : Hp) : Hp := fun b => if b = p then none else H b
theorem hid_ne {p b : Addr} {H : Hp} (h : b ≠ p) : hid p H b = H b := if_neg h
theorem hid_at {p : Addr} {H : Hp} : hid p H p = none := if_pos rfl
theorem hid_some {p b : Addr} {H : Hp} {o : HO} (h : hid p H b = some o) : b ≠ p ∧ H b = some o := by
  by_cases e : b = p
  · subst e
    rw [hid_at] at h
    cases h
  · rw [hid_ne e] at h
    exact ⟨e, h⟩
theorem hid_sub {p : Addr} {H : Hp} : Same (hid p H) H := fun b o h => (hid_some h).2
theorem hid_upd {p : Addr} {H : Hp} {o : HO} : hid p (upd H p o) = hid p H := by
  funext b
  by_cases e : b = p
  · subst e
    rw [hid_at, hid_at]
  · rw [hid_ne e, hid_ne e, upd_ne e]
theorem Same.less {p : Addr} {H H' : Hp} (h : Same H H') : Same (hid p H) (hid p H') := fun b o e => by
  obtain ⟨n, e'⟩ := hid_some e
  rw [hid_ne n]
  exact h b o e'
theorem Same.new {H : Hp} {q : Addr} {o : HO} (h : H q = none) : Same H (upd H q o) := fun b u e => by
  rw [upd_ne (ne_of_none e h)]
  exact e
/-- what is new stands in the rest, too -/
theorem Same.hidNew {p q : Addr} {H H' : Hp} {o : HO} (h : Same H (hid p H')) (n : H' q = none) : Same H (hid p (upd H' q o)) := fun b u e => by
  have e' := h b u e
  obtain ⟨n1, e2⟩ := hid_some e'
  rw [hid_ne n1, upd_ne (ne_of_none e2 n)]
  exact e2
theorem Same.at {H H' : Hp} (h : Same H H') {b : Addr} {o : HO} (e : H b = some o) : H' b = some o := h b o e
/-- a heap to which only new things came, and p, which H does not know, changed -/
theorem Same.to_hid {p : Addr} {H H' : Hp} (h : Same H H') (n : H p = none) : Same H (hid p H') := fun b o e => by
  rw [hid_ne (ne_of_none e n)]
  exact h b o e
theorem Same.mut {p : Addr} {H H' : Hp} {o : HO} (h : Same H H') (n : H p = none) : Same H (upd H' p o) := fun b u e => by
  rw [upd_ne (ne_of_none e n)]
  exact h b u e

/-! ### kinds of data -/
def isTupD : PyData → Bool | .tuple _ => true | _ => false
def isLstD : PyData → Bool | .list _ => true | _ => false
def isStrD : PyData → Bool | .str _ => true | _ => false
def isIntD : PyData → Bool | .int _ => true | .bool _ => true | _ => false
def isBoolD : PyData → Bool | .bool _ => true | _ => false
def tyD : PyData → String
  | .none => "NoneType" | .bool _ => "bool" | .int _ => "int" | .str _ => "str" | .list _ => "list" | .tuple _ => "tuple" | .dict _ => "dict"
theorem Dn.ty {K : PySem.W.Frag} {H : Hp} {v : V} {d : PyData} (h : Dn H v d) : TyX K H v (.type (tyD d)) := by
  cases h with
  | non => exact .base .non
  | bl b => exact .base (.bl b)
  | int i => exact .base (.int i)
  | str x => exact .base (.str x)
  | lst e _ => exact .base (.lst e)
  | tup e _ => exact .base (.tup e)
  | dic e _ _ => exact .base (.dK e)
theorem is_tup (d : PyData) : kitB (tyD d) "tuple" = some (isTupD d) := by
  have t : kitB "NoneType" "tuple" = some false ∧ kitB "bool" "tuple" = some false ∧ kitB "int" "tuple" = some false ∧ kitB "str" "tuple" = some false ∧ kitB "list" "tuple" = some false ∧ kitB "tuple" "tuple" = some true ∧ kitB "dict" "tuple" = some false := by decide +kernel
  obtain ⟨a, b, c, e, g, h, i⟩ := t
  cases d <;> first | exact a | exact b | exact c | exact e | exact g | exact h | exact i
theorem is_lst (d : PyData) : kitB (tyD d) "list" = some (isLstD d) := by
  have t : kitB "NoneType" "list" = some false ∧ kitB "bool" "list" = some false ∧ kitB "int" "list" = some false ∧ kitB "str" "list" = some false ∧ kitB "list" "list" = some true ∧ kitB "tuple" "list" = some false ∧ kitB "dict" "list" = some false := by decide +kernel
  obtain ⟨a, b, c, e, g, h, i⟩ := t
  cases d <;> first | exact a | exact b | exact c | exact e | exact g | exact h | exact i
theorem is_str (d : PyData) : kitB (tyD d) "str" = some (isStrD d) := by
  have t : kitB "NoneType" "str" = some false ∧ kitB "bool" "str" = some false ∧ kitB "int" "str" = some false ∧ kitB "str" "str" = some true ∧ kitB "list" "str" = some false ∧ kitB "tuple" "str" = some false ∧ kitB "dict" "str" = some false := by decide +kernel
  obtain ⟨a, b, c, e, g, h, i⟩ := t
  cases d <;> first | exact a | exact b | exact c | exact e | exact g | exact h | exact i
theorem is_int (d : PyData) : kitB (tyD d) "int" = some (isIntD d) := by
  have t : kitB "NoneType" "int" = some false ∧ kitB "bool" "int" = some true ∧ kitB "int" "int" = some true ∧ kitB "str" "int" = some false ∧ kitB "list" "int" = some false ∧ kitB "tuple" "int" = some false ∧ kitB "dict" "int" = some false := by decide +kernel
  obtain ⟨a, b, c, e, g, h, i⟩ := t
  cases d <;> first | exact a | exact b | exact c | exact e | exact g | exact h | exact i
theorem is_bool (d : PyData) : kitB (tyD d) "bool" = some (isBoolD d) := by
  have t : kitB "NoneType" "bool" = some false ∧ kitB "bool" "bool" = some true ∧ kitB "int" "bool" = some false ∧ kitB "str" "bool" = some false ∧ kitB "list" "bool" = some false ∧ kitB "tuple" "bool" = some false ∧ kitB "dict" "bool" = some false := by decide +kernel
  obtain ⟨a, b, c, e, g, h, i⟩ := t
  cases d <;> first | exact a | exact b | exact c | exact e | exact g | exact h | exact i
/-- isinstance(e, T) of data -/
def rIsD (T : String) (f : PyData → Bool) : List V → Hp → VK → Prop := fun xs H Q => ∃ x d, xs = [x, .ty T] ∧ Dn H x d ∧ Q (.bl (f d)) H
section
variable {X : Cx} {e : Expr} {te : TE} {p q pos : Pos}
theorem call_isD {T : String} {f : PyData → Bool} (hf : ∀ d, kitB (tyD d) T = some (f d)) : CallR X (.builtin "isinstance") (rIsD T f) := by
  intro pins s σ H xs us Q I r h
  obtain ⟨x, d, rfl, hd, k⟩ := h
  exact call_isi pins s σ H _ us Q I r ⟨x, .ty T, _, _, _, rfl, .ty T, hd.ty, kit_ty (hf d), k⟩
theorem pe_isD {n : Str} {T : String} {f : PyData → Bool} (hf : ∀ d, kitB (tyD d) T = some (f d)) (he : PE X e te) (hm : X.mg "isinstance" = none) (hn : X.mg n = none) (hv : bootBuiltins n = some (.type T)) (hg : Gl X "isinstance" := by rfl) (hg2 : Gl X n := by rfl)
    (hne : n ≠ "__name__" := by decide) (hnd : (n == ("__debug__" : Str)) = false := by decide)
    (a1 : starEach [e, .Name n q] X.env = (false, eval e X.env) :: starEach [.Name n q] X.env := by rfl) (a2 : (backTo pos (starEach [.Name n q] X.env)).any (·.1) = false := by rfl) (a3 : starEach [.Name n q] X.env = (false, eval (.Name n q) X.env) :: starEach [] X.env := by rfl) :
    PE X (.Call (.Name "isinstance" p) [e, .Name n q] [] pos) (tCB (rIsD T f) (tCons te (tCons (tC (.ty T)) tNil))) :=
  pe_callB (X := X) (p := p) (pos := pos) (call_isD hf) hg hm (by decide +kernel) (pa_cons he (pa_cons (pe_bltn (v := .ty T) hg2 hn hv rfl hne hnd) pa_nil a3) a1) (by decide) (by decide) a1 a2
end
/-! ### a comprehension over a text -/
theorem lc_str {x : Str} {g : TG} {tt : TT} {te : TE} {vs : List Nat} {σ : L2.St} {H1 : Hp} {D : Addr} {Qd : Hp → Prop} (Pv : Nat → Hp → Prop) (h0 : Pv 0 (upd H1 D (.lst [])))
    (hs : ∀ (i c : Nat) (H : Hp), x.cps[i]? = some c → Pv i H → g (.str ⟨#[c]⟩) (wipe σ vs) H fun σ2 H2 => wipe σ2 vs = wipe σ vs ∧ tt σ2 H2 fun b H3 =>
      if b = true then te σ2 H3 fun y H4 => ∃ acc, H4 D = some (.lst acc) ∧ acc.length < sizeLine ∧ Pv (i + 1) (upd H4 D (.lst (acc ++ [y]))) else Pv (i + 1) H3) (hd : ∀ H, Pv x.cps.size H → Qd H) :
    ∃ W : Nat → Nat → Hp → Prop, (∃ m, W 0 m (upd H1 D (.lst []))) ∧ ∀ i m H, W i m H →
      ((Its x).stop i H ∧ Qd H) ∨ ((Its x).go i H ∧ ∃ Nx : Hp → Prop, (∀ H', Nx H' → ∃ m', m' < m ∧ W (i + 1) m' H') ∧ ∀ v H', (Its x).yld i H v H' → g v (wipe σ vs) H' fun σ2 H2 => wipe σ2 vs = wipe σ vs ∧ tt σ2 H2 fun b H3 =>
        if b = true then te σ2 H3 fun y H4 => ∃ acc, H4 D = some (.lst acc) ∧ acc.length < sizeLine ∧ Nx (upd H4 D (.lst (acc ++ [y]))) else Nx H3) := by
  refine ⟨fun i m H => m = x.cps.size - i ∧ i ≤ x.cps.size ∧ Pv i H, ⟨_, rfl, Nat.zero_le _, h0⟩, ?_⟩
  rintro i m H ⟨rfl, hi, p⟩
  by_cases lt : i < x.cps.size
  · refine Or.inr ⟨lt, Pv (i + 1), fun H' p' => ⟨x.cps.size - (i + 1), by omega, rfl, lt, p'⟩, ?_⟩
    rintro v H' ⟨rfl, c, hc, rfl⟩
    exact hs i c _ hc p
  · obtain rfl : i = x.cps.size := by omega
    exact Or.inl ⟨Nat.le_refl _, hd H p⟩
theorem yes {σ : L2.St} {H : Hp} {Q : Bool → Hp → Prop} (h : Q true H) : tYes σ H Q := h
theorem take_snoc {α : Type} {xs : List α} {i : Nat} {x : α} (h : xs[i]? = some x) : xs.take (i + 1) = xs.take i ++ [x] := by
  rw [List.take_add_one, h]
  rfl
end KA
set_option Elab.async false
set_option linter.unusedVariables false
set_option maxRecDepth 100000
set_option maxHeartbeats 1000000
/-! The program's defs. -/
namespace KP
open PySem PySem.Spec PyProof.Rows L2 KA

/-! ### what it reckons, on data -/
def cntB (lo : Int) : PyData → Bool | .int i => decide (lo ≤ i) | _ => false
def wholeB (lo hi : Int) : PyData → Bool | .int i => decide (lo ≤ i) && decide (i ≤ hi) | _ => false
def letterB (c : Nat) : Bool := decide (97 ≤ c) && decide (c ≤ 122)
def letters : Str := "abcdefghijklmnopqrstuvwxyz"
def noNames : List Str := ["all", "fun", "same", "self", "put"]
def nameX (x : Str) : Bool := !(noNames.any fun y => y == x) && (decide (1 ≤ x.length) && decide (x.length ≤ 8) && x.cps.toList.all letterB)
def nameB : PyData → Bool | .str x => nameX x | _ => false
def parts (z : Str) : Option Nat :=
  if z = "all" then some 2 else if z = "fun" then some 2 else if z = "app" then some 2 else if z = "same" then some 3 else if z = "self" then some 2 else if z = "put" then some 3 else none
def leafB (w : Str) : List PyData → Bool
  | [x] => if w = "at" then cntB 0 x else if w = "kind" then wholeB 0 5 x else (decide (w = "name") || decide (w = "thing")) && nameB x
  | [x, y] => nameB x && (if w = "maker" then cntB 0 y else decide (w = "eater") && wholeB 0 5 y)
  | _ => false
mutual
def tm : PyData → Bool
  | .tuple (.str w :: ds) => (match parts w with
    | some n => decide (ds.length = n) && tmAll ds
    | none => leafB w ds)
  | _ => false
def tmAll : List PyData → Bool
  | [] => true
  | d :: ds => tm d && tmAll ds
end
mutual
/-- how many data there are in it -/
def nodes : PyData → Nat
  | .tuple ds => nodesAll ds + 1
  | _ => 1
def nodesAll : List PyData → Nat
  | [] => 0
  | d :: ds => nodes d + nodesAll ds
end

mutual
/-- its leaves are small -/
def fine : PyData → Bool
  | .int i => decide (-(10 ^ 31) ≤ i) && decide (i ≤ 10 ^ 31)
  | .str x => decide (x.length ≤ 20) && x.cps.toList.all fun c => decide (c < 128)
  | .list ds => fineAll ds
  | .tuple ds => fineAll ds
  | .dict kvs => fineKv kvs
  | _ => true
def fineAll : List PyData → Bool
  | [] => true
  | d :: ds => fine d && fineAll ds
def fineKv : List (PyData × PyData) → Bool
  | [] => true
  | (k, v) :: r => fine k && fine v && fineKv r
end
theorem letters_list : letters.cps.toList = [97, 98, 99, 100, 101, 102, 103, 104, 105, 106, 107, 108, 109, 110, 111, 112, 113, 114, 115, 116, 117, 118, 119, 120, 121, 122] := by decide +kernel
theorem in_letters (c : Nat) : decide (c ∈ letters.cps.toList) = letterB c := by
  rw [letters_list]
  unfold letterB
  rw [← Bool.decide_and]
  apply decide_eq_decide.mpr
  simp only [List.mem_cons, List.not_mem_nil, or_false]
  omega

/-! ### the text by places -/
def top (i : Nat) : Stmt := PySem.Challenge.pw_kernelpapers_k38_terms_shown.main.body.getD i (.Pass ⟨0, 0, 0, 0⟩)
abbrev sWhole : Stmt := top 17
abbrev sCount : Stmt := top 18
abbrev sName : Stmt := top 19
abbrev sTerm : Stmt := top 20
abbrev sLeaf : Stmt := top 21

/-- what the top has left, but for the defs -/
structure Txt (K : PySem.W.Frag) (w : World) (mg : Str → Option Value) : Prop where
  isi : mg "isinstance" = none
  int : mg "int" = none
  bool : mg "bool" = none
  str : mg "str" = none
  tuple : mg "tuple" = none
  list : mg "list" = none
  dict : mg "dict" = none
  len : mg "len" = none
  all : mg "all" = none
  max : mg "max" = none
  min : mg "min" = none
  range : mg "range" = none
  zip : mg "zip" = none
  repr : mg "repr" = none
  letters : ∃ u, mg "LETTERS" = some u ∧ RelV (.str KP.letters) u
  most : ∃ u, mg "MOST_LETTERS" = some u ∧ RelV (.int 8) u
  highest : ∃ u, mg "HIGHEST" = some u ∧ RelV (.int 5) u
  no : ∃ a o its n, mg "NO_NAMES" = some (.ref a) ∧ K.lookup a = some o ∧ o.cls = .type "tuple" ∧ o.data = .seq its n ∧ its.size ≤ sizeLine ∧ Vals (noNames.map V.str) its.toList
  parted : ∃ a es n, mg "PARTED" = some (.ref a) ∧ KDict K w a es n ∧ ∀ z, ∃ r, PySem.W.nsIn K a z = some r ∧ RelO ((parts z).map fun n => V.int (n : Int)) r

/-! ### promises -/
def spCount : Sp := fun vs H Q _ => ∃ v d lo, vs = [v, .int lo] ∧ Dn H v d ∧ ∀ H', Same H H' → Q (.bl (cntB lo d)) H'
def spWhole : Sp := fun vs H Q _ => ∃ v d lo hi, vs = [v, .int lo, .int hi] ∧ Dn H v d ∧ ∀ H', Same H H' → Q (.bl (wholeB lo hi d)) H'
def sp1 (ok : PyData → Prop) (f : PyData → Bool) : Sp := fun vs H Q _ => ∃ v d, vs = [v] ∧ Dn H v d ∧ ok d ∧ ∀ H', Same H H' → Q (.bl (f d)) H'

section
variable {P : Program} {w : World} {K : PySem.W.Frag} {mg : Str → Option Value} {base : Heap}
theorem scCount : FnScope ["thing", "low"] ["thing", "low"] (defScope sCount) := ⟨rfl, rfl, rfl, by decide +kernel, rfl, by decide +kernel, by decide +kernel⟩
theorem ok_count {f : Addr} {fd : FuncData} {dvs : List V} {kws : List (Str × V)} (F : FunD K "is_count" "is_count" (defArgs sCount) (defBody sCount) (defScope sCount) dvs kws f fd) (T : Txt K w mg) : FnOk P w K mg base CX0 1 f fd ["thing", "low"] spCount := by
  refine F.ok scCount (fun vs H Q E h => ?_) (fun cdv A outer s H vs Q E hr h => ?_)
  · obtain ⟨v, d, lo, rfl, _⟩ := h
    rfl
  · obtain ⟨v, d, lo, rfl, hd, k⟩ := h
    refine ⟨_, pss_one (ps_ret (pe_and (pe_isD is_int (pv 0) T.isi T.int (by decide +kernel)) (pe_and (pe_not (pe_isD is_bool (pv 0) T.isi T.bool (by decide +kernel))) (pe_one (pe_cmpR op_ge (pv 0) (pv 1) (nomark _)))))), ?_⟩
    have k0 := k H (Same.refl H)
    refine ⟨v, rfl, v, d, rfl, hd, _, rfl, ?_⟩
    cases hd with
    | int i => exact iteT ⟨_, rfl, .int i, _, rfl, .int i, _, rfl, _, rfl, iteT ⟨_, rfl, _, rfl, i, lo, rfl, rfl, k0⟩⟩
    | bl b => exact iteT ⟨_, rfl, .bl b, _, rfl, .bl b, _, rfl, _, rfl, iteF k0⟩
    | non => exact iteF k0
    | str x => exact iteF k0
    | lst _ _ => exact iteF k0
    | tup _ _ => exact iteF k0
    | dic _ _ _ => exact iteF k0
theorem scWhole : FnScope ["thing", "low", "high"] ["thing", "low", "high"] (defScope sWhole) := ⟨rfl, rfl, rfl, by decide +kernel, rfl, by decide +kernel, by decide +kernel⟩
theorem ok_whole {f : Addr} {fd : FuncData} (F : Fun K "is_whole" "is_whole" sWhole f fd) (T : Txt K w mg) (C : C8.Cal P w K mg base 1 "is_count" spCount []) : FnOk P w K mg base CX0 2 f fd ["thing", "low", "high"] spWhole := by
  refine F.ok scWhole (fun vs H Q E h => ?_) (fun cdv A outer s H vs Q E hr h => ?_)
  · obtain ⟨v, d, lo, hi, rfl, _⟩ := h
    rfl
  · obtain ⟨v, d, lo, hi, rfl, hd, k⟩ := h
    refine ⟨_, pss_one (ps_ret (pe_and (C8.pe_c C hr (by decide) rfl (pa_cons (pv 0) (pa_cons (pv 1) pa_nil))) (pe_one (pe_cmpR op_le (pv 0) (pv 2) (nomark _))))), ?_⟩
    refine ⟨v, rfl, _, rfl, v, d, lo, rfl, hd, fun H' S => ⟨_, rfl, ?_⟩⟩
    have k0 := k H' S
    cases hd with
    | int i =>
      refine ite2 (fun h => ?_) (fun h => ?_)
      · refine ⟨_, rfl, _, rfl, i, hi, rfl, rfl, ?_⟩
        have e : wholeB lo hi (.int i) = decide (i ≤ hi) := by
          show (decide (lo ≤ i) && decide (i ≤ hi)) = _
          rw [show decide (lo ≤ i) = true from h, Bool.true_and]
        rw [e] at k0
        exact k0
      · have e : wholeB lo hi (.int i) = false := by
          show (decide (lo ≤ i) && decide (i ≤ hi)) = _
          rw [show decide (lo ≤ i) = false by simpa [cntB] using h, Bool.false_and]
        rw [e] at k0
        exact k0
    | bl b => exact iteF k0
    | non => exact iteF k0
    | str x => exact iteF k0
    | lst _ _ => exact iteF k0
    | tup _ _ => exact iteF k0
    | dic _ _ _ => exact iteF k0
theorem scName : FnScope ["thing", "letter"] ["thing"] (defScope sName) := ⟨rfl, rfl, rfl, by decide +kernel, rfl, by decide +kernel, by decide +kernel⟩
theorem ok_name {f : Addr} {fd : FuncData} (F : Fun K "is_name" "is_name" sName f fd) (T : Txt K w mg) : FnOk P w K mg base CX0 1 f fd ["thing"] (sp1 (fun d => fine d = true) nameB) := by
  refine F.ok scName (fun vs H Q E h => ?_) (fun cdv A outer s H vs Q E hr h => ?_)
  · obtain ⟨v, d, rfl, _⟩ := h
    rfl
  · obtain ⟨v, d, rfl, hd, hf, k⟩ := h
    obtain ⟨na, no, nits, nn, nm, nl, nc, ndt, nsz, nv⟩ := T.no
    refine ⟨_, pss_cons (ps_if (PW.pt (pw_or (pt_not (pt_val (pe_isD is_str (pv 0) T.isi T.str (by decide +kernel)))) (pw_or1 (pt_cmpR op_in_seq (pv 0) (pe_glob (v := .ref na) rfl nm rfl) rfl))))
        (pss_one (ps_ret pe_bl)) pss_nil)
      (pss_one (ps_ret (pe_and (pe_chain op_le op_le pe_int (pe_callB call_len_str (by rfl) T.len PySem.boot_len (pa_cons (pv 0) pa_nil)) (C8.pe_gc rfl T.most))
        (pe_one (pe_callB (cr_all rfl) (by rfl) T.all (by decide +kernel) (pa_cons (pe_lc (own := [("letter", 1)]) (g := gName 1) (tt := tYes) rfl scName.nd (pi_str (pv 0)) (blkOk_by (N := ["thing", "letter"]) (sc := defScope sName) (by decide +kernel))
          (fun _ _ _ _ _ => pg_name (i := 1) scName.nd rfl (Or.inl rfl)) (fun _ _ _ _ _ => pts_nil) (fun _ _ _ _ _ => pe_cmpR op_in_sign (pv 1) (C8.pe_gc rfl T.letters) rfl)) pa_nil)))))), ?_⟩
    refine ⟨v, rfl, v, d, rfl, hd, _, rfl, ?_⟩
    have k0 := k H (Same.refl H)
    cases hd with
    | str x =>
      have fx : x.length ≤ 20 ∧ (x.cps.toList.all fun c => decide (c < 128)) = true := by simpa [fine] using hf
      have nT : SqT K H na (noNames.map V.str) := Or.inr ⟨no, nits, nn, nl, nc, ndt, nsz, nv⟩
      refine iteF ⟨.str x, rfl, na, _, rfl, Or.inr nT, rfl, rfl, _, rfl, ?_⟩
      have eN : inV (.str x) (noNames.map V.str) = noNames.any fun y => y == x := by
        unfold inV
        rw [List.any_map]
        rfl
      refine ite2 (fun h => ?_) (fun h => ?_)
      · have e : nameB (.str x) = false := by
          show (!(noNames.any fun y => y == x) && _) = false
          rw [← eN, show inV (.str x) (noNames.map V.str) = true from h]
          rfl
        rw [e] at k0
        exact k0
      · have hin : inV (.str x) (noNames.map V.str) = false := by simpa using h
        have e : nameB (.str x) = (decide (1 ≤ x.length) && decide (x.length ≤ 8) && x.cps.toList.all letterB) := by
          show (!(noNames.any fun y => y == x) && _) = _
          rw [← eN, hin]
          rfl
        rw [e] at k
        refine ⟨.str x, rfl, x, rfl, (by show x.length ≤ sizeLine; exact Nat.le_trans fx.1 (by decide)), 1, _, rfl, rfl, _, rfl, ?_⟩
        refine ite2 (fun h1 => ?_) (fun h1 => ?_)
        · have h1 : decide ((1 : Int) ≤ (x.length : Int)) = true := h1
          refine ⟨_, _, rfl, rfl, _, rfl, ?_⟩
          refine ite2 (fun h2 => ?_) (fun h2 => ?_)
          · have h2 : decide ((x.length : Int) ≤ 8) = true := h2
            refine ⟨.str x, rfl, x, rfl, fun D hD => lc_str (fun i H' => H' D = some (.lst ((x.cps.toList.take i).map fun c => V.bl (letterB c))) ∧ Same H H') ⟨upd_same, Same.new hD⟩ ?_ ?_⟩
            · rintro i c H' hc ⟨hl, S⟩
              refine ⟨rfl, yes (iteT ?_)⟩
              refine ⟨.str ⟨#[c]⟩, rfl, c, letters, rfl, rfl, ?_⟩
              refine ⟨_, hl, ?_, ?_, Same.mut S hD⟩
              · rw [List.length_map, List.length_take]
                have : x.cps.toList.length ≤ 20 := fx.1
                exact Nat.lt_of_le_of_lt (Nat.le_trans (Nat.min_le_right _ _) this) (by decide)
              · rw [upd_same, in_letters, take_snoc (x := c) (by simpa using hc), List.map_append]
                rfl
            · rintro H' ⟨hl, S⟩
              refine ⟨D, x.cps.toList.map letterB, rfl, Or.inl (Or.inl ?_), ?_⟩
              · rw [hl, List.take_of_length_le (by simp), List.map_map]
                rfl
              · have e2 : (x.cps.toList.map letterB).all id = (decide (1 ≤ x.length) && decide (x.length ≤ 8) && x.cps.toList.all letterB) := by
                  have a1 : decide (1 ≤ x.length) = true := by
                    have := of_decide_eq_true h1
                    exact decide_eq_true (by omega)
                  have a2 : decide (x.length ≤ 8) = true := by
                    have := of_decide_eq_true h2
                    exact decide_eq_true (by omega)
                  rw [a1, a2, List.all_map]
                  rfl
                rw [e2]
                exact k H' S
          · have h2 : ¬ decide ((x.length : Int) ≤ 8) = true := h2
            have a2 : decide (x.length ≤ 8) = false := by
              simp only [decide_eq_true_eq] at h2
              exact decide_eq_false (by omega)
            have := k H (Same.refl H)
            rw [a2, Bool.and_false, Bool.false_and] at this
            exact this
        · have h1 : ¬ decide ((1 : Int) ≤ (x.length : Int)) = true := h1
          have a1 : decide (1 ≤ x.length) = false := by
            simp only [decide_eq_true_eq] at h1
            exact decide_eq_false (by omega)
          have := k H (Same.refl H)
          rw [a1, Bool.false_and, Bool.false_and] at this
          exact ⟨_, rfl, iteF this⟩
    | int i => exact iteT k0
    | bl b => exact iteT k0
    | non => exact iteT k0
    | lst _ _ => exact iteT k0
    | tup _ _ => exact iteT k0
    | dic _ _ _ => exact iteT k0
theorem beq_dec (x y : Str) : (x == y) = decide (y = x) := by
  by_cases h : y = x
  · subst h
    rw [decide_eq_true rfl]
    exact beq_self_eq_true _
  · rw [decide_eq_false h]
    exact beq_eq_false_iff_ne.mpr fun e => h e.symm
def spLeaf : Sp := fun vs H Q _ => ∃ v wd ds, vs = [v] ∧ Dn H v (.tuple (.str wd :: ds)) ∧ fineAll ds = true ∧ (∀ H', Same H H' → Q (.bl (leafB wd ds)) H')
theorem scLeaf : FnScope ["thing", "word"] ["thing"] (defScope sLeaf) := ⟨rfl, rfl, rfl, by decide +kernel, rfl, by decide +kernel, by decide +kernel⟩
theorem tup_inv {H : Hp} {v : V} {ds : List PyData} (h : Dn H v (.tuple ds)) : ∃ a xs, v = .ref a ∧ H a = some (.tup xs) ∧ DnAll H xs ds := by
  cases h with
  | tup e r => exact ⟨_, _, rfl, e, r⟩
theorem str_inv {H : Hp} {v : V} {x : Str} (h : Dn H v (.str x)) : v = .str x := by
  cases h
  rfl
theorem cons_inv {H : Hp} {xs : List V} {d : PyData} {ds : List PyData} (h : DnAll H xs (d :: ds)) : ∃ y ys, xs = y :: ys ∧ Dn H y d ∧ DnAll H ys ds := by
  cases h with
  | cons a b => exact ⟨_, _, rfl, a, b⟩
theorem nil_inv {H : Hp} {xs : List V} (h : DnAll H xs []) : xs = [] := by
  cases h
  rfl
theorem ok_leaf {f : Addr} {fd : FuncData} (F : Fun K "_is_leaf" "_is_leaf" sLeaf f fd) (T : Txt K w mg) (C0 : C8.Cal P w K mg base 1 "is_count" spCount [.int 0]) (CW : C8.Cal P w K mg base 2 "is_whole" spWhole [])
    (CN : C8.Cal P w K mg base 1 "is_name" (sp1 (fun d => fine d = true) nameB) []) : FnOk P w K mg base CX0 3 f fd ["thing"] spLeaf := by
  refine F.ok scLeaf (fun vs H Q E h => ?_) (fun cdv A outer s H vs Q E hr h => ?_)
  · obtain ⟨v, wd, ds, rfl, _⟩ := h
    rfl
  · obtain ⟨v, wd, ds, rfl, hd, hf, k⟩ := h
    refine ⟨_, pss_cons (ps_set (i := 1) scLeaf.nd rfl (Or.inl rfl) (pe_ix ix_tup (pv 0) pe_int (fun _ _ => rfl)))
      (pss_cons (ps_if (pt_cmpR op_eq (pe_callB call_len_seq (by rfl) T.len PySem.boot_len (pa_cons (pv 0) pa_nil)) pe_int (nomark _))
        (pss_cons (ps_if (pt_cmpR op_eq (pv 1) pe_str (nomark _)) (pss_one (ps_ret (C8.pe_c C0 hr (by decide) rfl (pa_cons (pe_ix ix_tup (pv 0) pe_int (fun _ _ => rfl)) pa_nil)))) pss_nil)
          (pss_cons (ps_if (pt_cmpR op_eq (pv 1) pe_str (nomark _)) (pss_one (ps_ret (C8.pe_c CW hr (by decide) rfl (pa_cons (pe_ix ix_tup (pv 0) pe_int (fun _ _ => rfl)) (pa_cons pe_int (pa_cons (C8.pe_gc rfl T.highest) pa_nil)))))) pss_nil)
            (pss_one (ps_ret (pe_and (pe_cmpR op_in_seq (pv 1) (pe_tup (pa_cons pe_str (pa_cons pe_str pa_nil))) rfl) (pe_one (C8.pe_c CN hr (by decide) rfl (pa_cons (pe_ix ix_tup (pv 0) pe_int (fun _ _ => rfl)) pa_nil))))))))
        pss_nil)
      (pss_cons (ps_if (PW.pt (pw_or (pt_cmpR op_ne (pe_callB call_len_seq (by rfl) T.len PySem.boot_len (pa_cons (pv 0) pa_nil)) pe_int (nomark _))
          (pw_or1 (pt_not (pt_val (C8.pe_c CN hr (by decide) rfl (pa_cons (pe_ix ix_tup (pv 0) pe_int (fun _ _ => rfl)) pa_nil))))))) (pss_one (ps_ret pe_bl)) pss_nil)
      (pss_cons (ps_if (pt_cmpR op_eq (pv 1) pe_str (nomark _)) (pss_one (ps_ret (C8.pe_c C0 hr (by decide) rfl (pa_cons (pe_ix ix_tup (pv 0) pe_int (fun _ _ => rfl)) pa_nil)))) pss_nil)
      (pss_one (ps_ret (pe_and (pe_cmpR op_eq (pv 1) pe_str (nomark _)) (pe_one (C8.pe_c CW hr (by decide) rfl (pa_cons (pe_ix ix_tup (pv 0) pe_int (fun _ _ => rfl)) (pa_cons pe_int (pa_cons (C8.pe_gc rfl T.highest) pa_nil)))))))))))
      , ?_⟩
    obtain ⟨a, xs0, rfl, ha, hx0⟩ := tup_inv hd
    obtain ⟨x0, xs, rfl, h0, hx⟩ := cons_inv hx0
    obtain rfl := str_inv h0
    clear hx0 hd h0
    have sT : SqT K H a (.str wd :: xs) := SqT.of ha
    refine ⟨_, rfl, a, _, 0, _, rfl, rfl, sT, at_of (j := 0) rfl rfl, ?_⟩
    refine ⟨_, rfl, a, _, rfl, Or.inr sT, rfl, _, rfl, ?_⟩
    match ds, hx, hf, k with
    | [], hx, hf, k =>
      obtain rfl := nil_inv hx
      refine iteF ⟨_, rfl, a, _, rfl, Or.inr sT, rfl, _, rfl, iteT ?_⟩
      exact k H (Same.refl H)
    | [d1], hx, hf, k =>
      obtain ⟨x1, xs1, rfl, h1, hx1⟩ := cons_inv hx
      obtain rfl := nil_inv hx1
      have f1 : fine d1 = true := by simpa [fineAll] using hf
      refine iteT ⟨_, rfl, rfl, _, rfl, ?_⟩
      refine ite2 (fun c1 => ?_) (fun c1 => ?_)
      · have c1 : wd = "at" := V.str.inj (of_decide_eq_true c1)
        refine ⟨_, rfl, a, _, 1, _, rfl, rfl, sT, at_of (j := 1) rfl rfl, x1, d1, 0, rfl, h1, fun H' S => ?_⟩
        have k' := k H' S
        rw [show leafB wd [d1] = cntB 0 d1 from if_pos c1] at k'
        exact k'
      · have c1 : ¬ wd = "at" := fun e => c1 (decide_eq_true (congrArg V.str e))
        refine ⟨_, rfl, rfl, _, rfl, ?_⟩
        refine ite2 (fun c2 => ?_) (fun c2 => ?_)
        · have c2 : wd = "kind" := V.str.inj (of_decide_eq_true c2)
          refine ⟨_, rfl, a, _, 1, _, rfl, rfl, sT, at_of (j := 1) rfl rfl, x1, d1, 0, 5, rfl, h1, fun H' S => ?_⟩
          have k' := k H' S
          rw [show leafB wd [d1] = wholeB 0 5 d1 from (if_neg c1).trans (if_pos c2)] at k'
          exact k'
        · have c2 : ¬ wd = "kind" := fun e => c2 (decide_eq_true (congrArg V.str e))
          have e0 : leafB wd [d1] = ((decide (wd = "name") || decide (wd = "thing")) && nameB d1) := (if_neg c1).trans (if_neg c2)
          rw [e0] at k
          refine ⟨_, rfl, (by show 2 ≤ sizeLine; decide), fun p hp => ⟨p, _, rfl, Or.inr (SqT.of upd_same), rfl, rfl, _, rfl, ?_⟩⟩
          have ei : inV (.str wd) [.str "name", .str "thing"] = (decide (wd = "name") || decide (wd = "thing")) := by
            unfold inV
            simp only [List.any_cons, List.any_nil, Bool.or_false, eqV]
            rw [beq_dec, beq_dec]
          have sN : Same H (upd H p (.tup [.str "name", .str "thing"])) := Same.new hp
          refine ite2 (fun c3 => ?_) (fun c3 => ?_)
          · have c3 : inV (.str wd) [.str "name", .str "thing"] = true := c3
            refine ⟨_, rfl, a, _, 1, _, rfl, rfl, SqT.of (sN _ _ ha), at_of (j := 1) rfl rfl, x1, d1, rfl, Dn.mono sN h1, f1, fun H' S => ?_⟩
            have k' := k H' (sN.trans S)
            rw [← ei, c3, Bool.true_and] at k'
            exact k'
          · have c3 : inV (.str wd) [.str "name", .str "thing"] = false := by simpa using c3
            have k' := k _ sN
            rw [← ei, c3, Bool.false_and] at k'
            exact k'
    | [d1, d2], hx, hf, k =>
      obtain ⟨x1, xs1, rfl, h1, hx1⟩ := cons_inv hx
      obtain ⟨x2, xs2, rfl, h2, hx2⟩ := cons_inv hx1
      obtain rfl := nil_inv hx2
      have f1 : fine d1 = true := by
        have : fine d1 = true ∧ fine d2 = true := by simpa [fineAll] using hf
        exact this.1
      refine iteF ⟨_, rfl, a, _, rfl, Or.inr sT, rfl, _, rfl, iteF ?_⟩
      refine ⟨_, rfl, a, _, 1, _, rfl, rfl, sT, at_of (j := 1) rfl rfl, x1, d1, rfl, h1, f1, fun H' S => ⟨_, rfl, ?_⟩⟩
      have ha' := S _ _ ha
      have sT' : SqT K H' a [.str wd, x1, x2] := SqT.of ha'
      have e0 : leafB wd [d1, d2] = (nameB d1 && (if wd = "maker" then cntB 0 d2 else decide (wd = "eater") && wholeB 0 5 d2)) := rfl
      rw [e0] at k
      cases c : nameB d1 with
      | false =>
        refine iteT ?_
        have k' := k H' S
        rw [c] at k'
        exact k'
      | true =>
        rw [c, Bool.true_and] at k
        refine iteF ⟨_, rfl, rfl, _, rfl, ?_⟩
        refine ite2 (fun c1 => ?_) (fun c1 => ?_)
        · have c1 : wd = "maker" := V.str.inj (of_decide_eq_true c1)
          refine ⟨_, rfl, a, _, 2, _, rfl, rfl, sT', at_of (j := 2) rfl rfl, x2, d2, 0, rfl, Dn.mono S h2, fun H2 S2 => ?_⟩
          have k' := k H2 (S.trans S2)
          rw [if_pos c1] at k'
          exact k'
        · have c1 : ¬ wd = "maker" := fun e => c1 (decide_eq_true (congrArg V.str e))
          rw [if_neg c1] at k
          refine ⟨_, rfl, rfl, _, rfl, ?_⟩
          refine ite2 (fun c2 => ?_) (fun c2 => ?_)
          · have c2 : wd = "eater" := V.str.inj (of_decide_eq_true c2)
            refine ⟨_, rfl, a, _, 2, _, rfl, rfl, sT', at_of (j := 2) rfl rfl, x2, d2, 0, 5, rfl, Dn.mono S h2, fun H2 S2 => ?_⟩
            have k' := k H2 (S.trans S2)
            rw [decide_eq_true c2, Bool.true_and] at k'
            exact k'
          · have c2 : ¬ wd = "eater" := fun e => c2 (decide_eq_true (congrArg V.str e))
            have k' := k H' S
            rw [decide_eq_false c2, Bool.false_and] at k'
            exact k'
    | d1 :: d2 :: d3 :: ds, hx, hf, k =>
      obtain ⟨x1, xs1, rfl, h1, hx1⟩ := cons_inv hx
      obtain ⟨x2, xs2, rfl, h2, hx2⟩ := cons_inv hx1
      obtain ⟨x3, xs3, rfl, h3, hx3⟩ := cons_inv hx2
      have n2 : decide (V.int (((.str wd : V) :: x1 :: x2 :: x3 :: xs3).length : Int) = V.int 2) = false := decide_eq_false fun e => by
        have := V.int.inj e
        simp only [List.length_cons] at this
        omega
      have n3 : decide (V.int (((.str wd : V) :: x1 :: x2 :: x3 :: xs3).length : Int) = V.int 3) = false := decide_eq_false fun e => by
        have := V.int.inj e
        simp only [List.length_cons] at this
        omega
      rw [n2]
      refine iteF ⟨_, rfl, a, _, rfl, Or.inr sT, rfl, _, rfl, ?_⟩
      rw [n3]
      exact iteT (k H (Same.refl H))
end
end KP
set_option Elab.async false
set_option linter.unusedVariables false
set_option linter.unusedSectionVars false
set_option maxRecDepth 100000
set_option maxHeartbeats 1000000
namespace KP
open PySem PySem.Spec PyProof.Rows L2 KA
theorem tm_parts {wd : Str} {ds : List PyData} {n : Nat} (h : parts wd = some n) : tm (.tuple (.str wd :: ds)) = (decide (ds.length = n) && tmAll ds) := by simp only [tm, h]
theorem tm_leaf {wd : Str} {ds : List PyData} (h : parts wd = none) : tm (.tuple (.str wd :: ds)) = leafB wd ds := by simp only [tm, h]
theorem tmAll_append : ∀ (ds es : List PyData), tmAll (ds ++ es) = (tmAll ds && tmAll es)
  | [], es => by simp [tmAll]
  | d :: ds, es => by simp only [List.cons_append, tmAll, tmAll_append ds es, Bool.and_assoc]
theorem nodesAll_append : ∀ (ds es : List PyData), nodesAll (ds ++ es) = nodesAll ds + nodesAll es
  | [], es => by simp [nodesAll]
  | d :: ds, es => by simp only [List.cons_append, nodesAll, nodesAll_append ds es, Nat.add_assoc]
theorem fineAll_append : ∀ (ds es : List PyData), fineAll (ds ++ es) = (fineAll ds && fineAll es)
  | [], es => by simp [fineAll]
  | d :: ds, es => by simp only [List.cons_append, fineAll, fineAll_append ds es, Bool.and_assoc]
theorem nodes_pos (d : PyData) : 0 < nodes d := by cases d <;> simp [nodes]
theorem len_nodes : ∀ ds : List PyData, ds.length ≤ nodesAll ds
  | [] => Nat.zero_le _
  | d :: ds => by
    have := len_nodes ds
    have := nodes_pos d
    simp only [List.length_cons, nodesAll]
    omega
theorem unsnoc {H : Hp} : ∀ {ds : List PyData} {d : PyData} {xs : List V}, DnAll H xs (ds ++ [d]) → ∃ ys y, xs = ys ++ [y] ∧ DnAll H ys ds ∧ Dn H y d
  | [], d, xs, h => by
    obtain ⟨y, ys, rfl, h1, h2⟩ := cons_inv h
    obtain rfl := nil_inv h2
    exact ⟨[], y, rfl, .nil, h1⟩
  | e :: ds, d, xs, h => by
    obtain ⟨y, ys, rfl, h1, h2⟩ := cons_inv h
    obtain ⟨zs, z, rfl, h3, h4⟩ := unsnoc h2
    exact ⟨y :: zs, z, rfl, .cons h1 h3, h4⟩
theorem isTup_false {d : PyData} (h : isTupD d = false) : tm d = false := by
  cases d <;> first | (cases h; done) | simp [tm]
theorem isStr_false {d : PyData} {ds : List PyData} (h : isStrD d = false) : tm (.tuple (d :: ds)) = false := by
  cases d <;> first | (cases h; done) | simp [tm]
theorem sIx1 (n : Nat) : HT.sIx (n + 1) 0 (some 1) = 1 := (HT.sIx_nat (n + 1) 0 1).trans (by omega)
section
variable {P : Program} {w : World} {K : PySem.W.Frag} {mg : Str → Option Value} {base : Heap}
def okT (d : PyData) : Prop := fine d = true ∧ nodes d ≤ 1000000
theorem scTerm : FnScope ["thing", "waiting", "part"] ["thing"] (defScope sTerm) := ⟨rfl, rfl, rfl, by decide +kernel, rfl, by decide +kernel, by decide +kernel⟩
theorem ok_term {f : Addr} {fd : FuncData} (F : Fun K "is_term" "is_term" sTerm f fd) (T : Txt K w mg) (CL : C8.Cal P w K mg base 3 "_is_leaf" spLeaf []) : FnOk P w K mg base CX0 4 f fd ["thing"] (sp1 okT tm) := by
  refine F.ok scTerm (fun vs H Q E h => ?_) (fun cdv A outer s H vs Q E hr h => ?_)
  · obtain ⟨v, d, rfl, _⟩ := h
    rfl
  · obtain ⟨v, d, rfl, hd, ⟨hf, hn⟩, k⟩ := h
    obtain ⟨pa, es, en, pm, PD, pn⟩ := T.parted
    refine ⟨_, pss_cons (ps_set (i := 1) scTerm.nd rfl (Or.inl rfl) (pe_lst (pa_cons (pv 0) pa_nil)))
      (pss_cons (ps_while PassesOwn.never (pt_truth (pv 1) (by intro _; rfl))
        (pss_cons (ps_set (i := 2) scTerm.nd rfl (Or.inl rfl) (pe_bm0 PySem.F.plainAttrs_list PySem.F.slot_list_pop PySem.F.type_list_pop mt_pop (pv 1)))
        (pss_cons (ps_if (PW.pt (pw_or (pt_not (pt_val (pe_isD is_tup (pv 2) T.isi T.tuple (by decide +kernel)))) (pw_or (pt_not (pt_truth (pv 2) (by intro _; rfl)))
            (pw_or1 (pt_not (pt_val (pe_isD is_str (pe_ix ix_tup (pv 2) pe_int (fun _ _ => rfl)) T.isi T.str (by decide +kernel)))))))) (pss_one (ps_ret pe_bl)) pss_nil)
        (pss_one (ps_if (pt_cmpR (op_notIn_kd PD) (pe_ix ix_tup (pv 2) pe_int (fun _ _ => rfl)) (pe_glob (v := .ref pa) rfl pm rfl) rfl)
          (pss_one (ps_if (pt_not (pt_val (C8.pe_c CL hr (by decide) rfl (pa_cons (pv 2) pa_nil)))) (pss_one (ps_ret pe_bl)) pss_nil))
          (pss_one (ps_if (pt_cmpR op_ne (pe_callB call_len_seq (by rfl) T.len PySem.boot_len (pa_cons (pv 2) pa_nil)) (pe_op op_add (pe_ix ix_kdict (pe_glob (v := .ref pa) rfl pm rfl) (pe_ix ix_tup (pv 2) pe_int (fun _ _ => rfl)) (fun _ _ => rfl)) pe_int) (nomark _))
            (pss_one (ps_ret pe_bl))
            (pss_one (ps_expr (pe_bm PySem.F.plainAttrs_list PySem.F.slot_list_extend PySem.F.type_list_extend mt_grow (pv 1) (pa_cons (pe_slice sl_tupA (pv 2) (po_some pe_int) po_none) pa_nil)))))))))))
      (pss_one (ps_ret pe_bl))), ?_⟩
    refine ⟨v, rfl, (by show 1 ≤ sizeLine; decide), fun l hl => ?_⟩
    refine ⟨fun m σ H' => ∃ xs ds pv, σ = [some v, some (.ref l), pv] ∧ H' l = some (.lst xs) ∧ DnAll (hid l H') xs ds ∧ Same H (hid l H') ∧ fineAll ds = true ∧ tmAll ds = tm d ∧ nodesAll ds = m ∧ m ≤ 1000000,
      ⟨nodes d, [v], [d], none, rfl, upd_same, ?_, ?_, ?_, ?_, ?_, hn⟩, ?_⟩
    · rw [hid_upd]
      exact .one (Dn.mono (Same.to_hid (Same.refl H) hl) hd)
    · rw [hid_upd]
      exact Same.to_hid (Same.refl H) hl
    · simp [fineAll, hf]
    · simp [tmAll]
    · simp [nodesAll]
    rintro m σ H' ⟨xs, ds, pv0, rfl, eL, dA, S, fA, tA, nA, mA⟩
    refine ⟨_, rfl, !xs.isEmpty, Or.inl ⟨xs, SqL.of eL, rfl⟩, ?_⟩
    rcases List.eq_nil_or_concat ds with rfl | ⟨ds, dl, rfl⟩
    · obtain rfl := nil_inv dA
      refine iteF ?_
      have k' := k H' (S.trans hid_sub)
      rw [← tA] at k'
      exact k'
    · rw [List.concat_eq_append] at dA fA tA nA
      obtain ⟨ys, y, rfl, dY, dy⟩ := unsnoc dA
      rw [fineAll_append] at fA
      rw [tmAll_append] at tA
      rw [nodesAll_append] at nA
      have fA : fineAll ds = true ∧ fine dl = true := by simpa [fineAll] using fA
      have tA : (tmAll ds && tm dl) = tm d := by simpa [tmAll] using tA
      have nA : nodesAll ds + nodes dl = m := by simpa [nodesAll] using nA
      have ne : (!(ys ++ [y]).isEmpty) = true := by simp
      rw [ne]
      refine iteT ?_
      refine ⟨fun σ' H2 => ∃ m', m' < m ∧ ∃ xs ds pv, σ' = [some v, some (.ref l), pv] ∧ H2 l = some (.lst xs) ∧ DnAll (hid l H2) xs ds ∧ Same H (hid l H2) ∧ fineAll ds = true ∧ tmAll ds = tm d ∧ nodesAll ds = m' ∧ m' ≤ 1000000, fun σ' H2 z => z, ?_⟩
      refine ⟨_, rfl, Or.inl ⟨rfl, _, SqL.of eL⟩, l, _, y, rfl, rfl, eL, by simp, ?_⟩
      rw [List.dropLast_concat]
      -- behind the pop
      have S1 : Same H (hid l (upd H' l (.lst ys))) := by rw [hid_upd]; exact S
      have e1 : upd H' l (.lst ys) l = some (.lst ys) := upd_same
      have dY1 : DnAll (hid l (upd H' l (.lst ys))) ys ds := by rw [hid_upd]; exact dY
      have dy1 : Dn (hid l (upd H' l (.lst ys))) y dl := by rw [hid_upd]; exact dy
      generalize upd H' l (.lst ys) = H1 at S1 e1 dY1 dy1
      have out : tm dl = false → Q (.bl false) H1 := fun e => by
        have k' := k H1 (S1.trans hid_sub)
        rw [← tA, e, Bool.and_false] at k'
        exact k'
      refine ⟨y, rfl, y, dl, rfl, Dn.mono hid_sub dy1, _, rfl, ?_⟩
      cases hT : isTupD dl with
      | false => exact iteT (out (isTup_false hT))
      | true =>
        obtain ⟨dt, rfl⟩ : ∃ dt, dl = .tuple dt := by cases dl <;> first | exact ⟨_, rfl⟩ | cases hT
        obtain ⟨a, zs, rfl, ha, dz⟩ := tup_inv dy1
        have ha1 : H1 a = some (.tup zs) := hid_sub _ _ ha
        refine iteF ⟨_, rfl, !zs.isEmpty, Or.inr (Or.inl ⟨zs, SqT.of ha1, rfl⟩), ?_⟩
        cases dt with
        | nil =>
          obtain rfl := nil_inv dz
          exact iteT (out (by simp [tm]))
        | cons d0 dr =>
          obtain ⟨z0, zs, rfl, h0, dz1⟩ := cons_inv dz
          refine iteF ⟨_, rfl, a, _, 0, _, rfl, rfl, SqT.of ha1, at_of (j := 0) rfl rfl, z0, d0, rfl, Dn.mono hid_sub h0, _, rfl, ?_⟩
          cases hS : isStrD d0 with
          | false => exact iteT (out (isStr_false hS))
          | true =>
            obtain ⟨wd, rfl⟩ : ∃ wd, d0 = .str wd := by cases d0 <;> first | exact ⟨_, rfl⟩ | cases hS
            obtain rfl := str_inv h0
            have fdr : fineAll dr = true := by
              have := fA.2
              simp only [fine, fineAll, Bool.and_eq_true] at this
              exact this.2
            have ndl : nodes (.tuple (.str wd :: dr)) = nodesAll dr + 2 := by
              simp only [nodes, nodesAll]
              omega
            obtain ⟨r, hr1, hr2⟩ := pn wd
            refine iteF ⟨_, rfl, a, _, 0, _, rfl, rfl, SqT.of ha1, at_of (j := 0) rfl rfl, wd, r, rfl, rfl, hr1, _, rfl, ?_⟩
            cases hp : parts wd with
            | none =>
              rw [hp] at hr2
              obtain rfl : r = none := by
                cases r with
                | none => rfl
                | some u => exact hr2.elim
              refine iteT ⟨_, rfl, .ref a, wd, dr, rfl, Dn.mono hid_sub (.tup ha dz), fdr, fun H2 S2 => ⟨_, rfl, ?_⟩⟩
              have e2 : H2 l = some (.lst ys) := S2 _ _ e1
              have S2' : Same (hid l H1) (hid l H2) := Same.less S2
              cases hL : leafB wd dr with
              | false =>
                refine iteT ?_
                have k' := k H2 ((S1.trans hid_sub).trans S2)
                rw [← tA, tm_leaf hp, hL, Bool.and_false] at k'
                exact k'
              | true =>
                refine iteF ⟨nodesAll ds, by omega, ys, ds, _, rfl, e2, DnAll.mono S2' dY1, S1.trans S2', fA.1, ?_, rfl, by omega⟩
                rw [← tA, tm_leaf hp, hL, Bool.and_true]
            | some n =>
              rw [hp] at hr2
              obtain ⟨u, rfl, ru⟩ : ∃ u, r = some u ∧ RelV (.int (n : Int)) u := by
                cases r with
                | none => exact hr2.elim
                | some u => exact ⟨u, rfl, hr2⟩
              refine iteF ⟨_, rfl, a, _, rfl, Or.inr (SqT.of ha1), ?_⟩
              refine ⟨_, rfl, a, _, 0, _, rfl, rfl, SqT.of ha1, at_of (j := 0) rfl rfl, pa, wd, .int (n : Int), rfl, rfl, ⟨es, en, u, PD.at_, PD.lit, hr1, ru⟩, (n : Int), 1, rfl, rfl, rfl, _, rfl, ?_⟩
              have elen : decide (V.int (((.str wd : V) :: zs).length : Int) = V.int ((n : Int) + 1)) = decide (dr.length = n) := by
                have := dz1.length
                by_cases c : dr.length = n
                · rw [decide_eq_true c]
                  exact decide_eq_true (congrArg V.int (by rw [List.length_cons]; omega))
                · rw [decide_eq_false c]
                  refine decide_eq_false fun e => c ?_
                  have := V.int.inj e
                  rw [List.length_cons] at this
                  omega
              rw [elen]
              cases hl2 : decide (dr.length = n) with
              | false =>
                refine iteT (out ?_)
                rw [tm_parts hp, hl2, Bool.false_and]
              | true =>
                have lenb := len_nodes ds
                have lend := len_nodes dr
                have lz := dz1.length
                have ly := dY1.length
                have cut : cutV (.str wd :: zs) (some 1) none = zs := by
                  unfold cutV
                  rw [HT.sIx_none, show HT.sIx ((.str wd : V) :: zs).length 0 (some 1) = 1 from sIx1 zs.length]
                  rw [List.length_cons]
                  show List.take (zs.length + 1 - 1) zs = zs
                  rw [Nat.add_sub_cancel, List.take_length]
                refine iteF ⟨_, rfl, Or.inl ⟨rfl, _, SqL.of e1⟩, _, rfl, 1, rfl, a, _, rfl, SqT.of ha1, fun z => ?_, fun _ p hp' => ?_⟩
                · have := z.1
                  rw [show HT.sIx ((.str wd : V) :: zs).length 0 (some 1) = 1 from sIx1 zs.length] at this
                  omega
                · rw [cut]
                  have lp : l ≠ p := ne_of_none e1 hp'
                  have e2 : upd H1 p (.tup zs) l = some (.lst ys) := (upd_ne lp).trans e1
                  refine ⟨l, p, ys, zs, rfl, rfl, e2, upd_same, ?_, ?_⟩
                  · rw [ly, lz]
                    exact Nat.le_trans (by omega : ds.length + dr.length ≤ 1000000) (by decide)
                  · have S3 : Same (hid l H1) (hid l (upd (upd H1 p (.tup zs)) l (.lst (ys ++ zs)))) := by
                      rw [hid_upd]
                      exact Same.less (Same.new hp')
                    refine ⟨nodesAll ds + nodesAll dr, by omega, ys ++ zs, ds ++ dr, _, rfl, upd_same, DnAll.mono S3 (dY1.append dz1), S1.trans S3, ?_, ?_, ?_, by omega⟩
                    · rw [fineAll_append, fA.1, fdr]
                      rfl
                    · rw [tmAll_append, ← tA, tm_parts hp, hl2, Bool.true_and]
                    · rw [nodesAll_append]
theorem _root_.KA.DnAll.at {H : Hp} {xs : List V} {ds : List PyData} {i : Nat} {x : V} (r : DnAll H xs ds) (h : xs[i]? = some x) : ∃ d, ds[i]? = some d ∧ Dn H x d := by
  have lt : i < ds.length := by
    have := (List.getElem?_eq_some_iff.mp h).1
    have := r.length
    omega
  obtain ⟨v, hv, hd⟩ := r.get (List.getElem?_eq_getElem lt)
  rw [h] at hv
  cases hv
  exact ⟨_, List.getElem?_eq_getElem lt, hd⟩
end
end KP
set_option Elab.async false
set_option linter.unusedVariables false
set_option maxRecDepth 100000
set_option maxHeartbeats 1000000
namespace KP
open PySem PySem.Spec PyProof.Rows L2 KA
/-! ### how large data is when it is shown -/
mutual
def wt : PyData → Nat
  | .int _ => 40
  | .str _ => 220
  | .list ds => wtAll ds + 4
  | .tuple ds => wtAll ds + 4
  | .dict kvs => wtKv kvs + 4
  | _ => 5
def wtAll : List PyData → Nat
  | [] => 0
  | d :: ds => wt d + 2 + wtAll ds
def wtKv : List (PyData × PyData) → Nat
  | [] => 0
  | (k, v) :: r => wt k + wt v + 4 + wtKv r
end
theorem join_len (ts : List Str) : (Str.join ", " ts).length ≤ (ts.map (·.length)).sum + 2 * ts.length := by
  rw [← StrLaws.glued_eq_join, size_glued]
  have e : (Str.ofString ", ").length = 2 := by decide +kernel
  rw [e]
  omega
theorem len_app (x y : Str) : (x ++ y).length = x.length + y.length := by
  show (x.cps ++ y.cps).size = _
  exact Array.size_append
theorem int_len {i : Int} (h : -(10 ^ 31) ≤ i ∧ i ≤ 10 ^ 31) : (Str.ofString (toString i)).length ≤ 40 := by
  have b : i.natAbs < 10 ^ 32 := by omega
  have l := int_text_length_le10 (k := 32) (by decide) b
  rw [PySem.ofString_length]
  omega
theorem log2_small {i : Int} (h : -(10 ^ 31) ≤ i ∧ i ≤ 10 ^ 31) : i.natAbs.log2 < 1920 := by
  by_cases h0 : i.natAbs = 0
  · rw [h0]
    decide
  · rw [Nat.log2_lt h0]
    exact Nat.lt_of_lt_of_le (by omega : i.natAbs < 2 ^ 110) (Nat.pow_le_pow_right (by decide) (by decide))
mutual
theorem shown_le : ∀ d : PyData, fine d = true → d.shown.length ≤ wt d ∧ d.showable = true
  | .none, _ => by
    rw [PyData.shown_none]
    exact ⟨by decide +kernel, rfl⟩
  | .bool b, _ => by
    rw [PyData.shown_bool]
    exact ⟨by cases b <;> decide +kernel, rfl⟩
  | .int i, h => by
    have h' : -(10 ^ 31) ≤ i ∧ i ≤ 10 ^ 31 := by simpa [fine] using h
    rw [PyData.shown_int]
    exact ⟨int_len h', by simpa [PyData.showable] using log2_small h'⟩
  | .str x, h => by
    have h' : x.length ≤ 20 ∧ ∀ c ∈ x.cps.toList, c < 128 := by simpa only [fine, Bool.and_eq_true, decide_eq_true_eq, List.all_eq_true] using h
    rw [PyData.shown_str]
    have := StrLaws.reprText_len x fun c hc => Nat.lt_of_lt_of_le (h'.2 c hc) (by decide)
    have e : wt (.str x) = 220 := rfl
    exact ⟨by omega, rfl⟩
  | .list ds, h => by
    have h' : fineAll ds = true := by simpa only [fine] using h
    obtain ⟨h1, h2⟩ := shownAll_le ds h'
    rw [PyData.shown_list, len_app, len_app]
    have j := join_len (PyData.shownAll ds)
    rw [PyData.shownAll_length] at j
    have e1 : (Str.ofString "[").length = 1 := by decide +kernel
    have e2 : (Str.ofString "]").length = 1 := by decide +kernel
    rw [e1, e2]
    exact ⟨by simp only [wt]; omega, by simpa only [PyData.showable] using h2⟩
  | .tuple ds, h => by
    have h' : fineAll ds = true := by simpa only [fine] using h
    obtain ⟨h1, h2⟩ := shownAll_le ds h'
    rw [PyData.shown_tuple, len_app, len_app]
    have j := join_len (PyData.shownAll ds)
    rw [PyData.shownAll_length] at j
    have e1 : (Str.ofString "(").length = 1 := by decide +kernel
    have e2 : (Str.ofString (if (ds.length == 1) = true then ",)" else ")")).length ≤ 2 := by
      split <;> decide +kernel
    rw [e1]
    exact ⟨by simp only [wt]; omega, by simpa only [PyData.showable] using h2⟩
  | .dict kvs, h => by
    have h' : fineKv kvs = true := by simpa only [fine] using h
    obtain ⟨h1, h2, h3⟩ := shownKv_le kvs h'
    rw [PyData.shown_dict, len_app, len_app]
    have j := join_len (PyData.shownKv kvs)
    rw [h3] at j
    have e1 : (Str.ofString "{").length = 1 := by decide +kernel
    have e2 : (Str.ofString "}").length = 1 := by decide +kernel
    rw [e1, e2]
    exact ⟨by simp only [wt]; omega, by simpa only [PyData.showable] using h2⟩
theorem shownAll_le : ∀ ds : List PyData, fineAll ds = true → ((PyData.shownAll ds).map (·.length)).sum + 2 * ds.length ≤ wtAll ds ∧ PyData.showableAll ds = true
  | [], _ => ⟨by simp [PyData.shownAll_nil], rfl⟩
  | d :: ds, h => by
    have h' : fine d = true ∧ fineAll ds = true := by simpa only [fineAll, Bool.and_eq_true] using h
    obtain ⟨a1, a2⟩ := shown_le d h'.1
    obtain ⟨b1, b2⟩ := shownAll_le ds h'.2
    rw [PyData.shownAll_cons, List.map_cons, List.sum_cons]
    refine ⟨?_, by simp only [PyData.showableAll, a2, b2, Bool.and_self]⟩
    simp only [wtAll, List.length_cons]
    omega
theorem shownKv_le : ∀ kvs : List (PyData × PyData), fineKv kvs = true → ((PyData.shownKv kvs).map (·.length)).sum + 2 * kvs.length ≤ wtKv kvs ∧ PyData.showableKv kvs = true ∧ (PyData.shownKv kvs).length = kvs.length
  | [], _ => ⟨by simp [PyData.shownKv_nil], rfl, by simp [PyData.shownKv_nil]⟩
  | (k, v) :: r, h => by
    have h' : (fine k = true ∧ fine v = true) ∧ fineKv r = true := by simpa only [fineKv, Bool.and_eq_true] using h
    obtain ⟨a1, a2⟩ := shown_le k h'.1.1
    obtain ⟨b1, b2⟩ := shown_le v h'.1.2
    obtain ⟨c1, c2, c3⟩ := shownKv_le r h'.2
    rw [PyData.shownKv_cons, List.map_cons, List.sum_cons, len_app, len_app]
    have e1 : (Str.ofString ": ").length = 2 := by decide +kernel
    rw [e1]
    refine ⟨?_, by simp only [PyData.showableKv, a2, b2, c2, Bool.and_self], by rw [List.length_cons, List.length_cons, c3]⟩
    simp only [wtKv, List.length_cons]
    omega
end
mutual
theorem nodes_wt : ∀ d : PyData, nodes d ≤ wt d
  | .none => by simp [nodes, wt]
  | .bool b => by simp [nodes, wt]
  | .int i => by simp [nodes, wt]
  | .str x => by simp [nodes, wt]
  | .list ds => by simp [nodes, wt]
  | .dict ds => by simp [nodes, wt]
  | .tuple ds => by
    have := nodesAll_wt ds
    simp only [nodes, wt]
    omega
theorem nodesAll_wt : ∀ ds : List PyData, nodesAll ds ≤ wtAll ds
  | [] => Nat.le_refl _
  | d :: ds => by
    have := nodes_wt d
    have := nodesAll_wt ds
    simp only [nodesAll, wtAll]
    omega
end
/-- small data: how deep, how large -/
def Bd (dp sz : Nat) (d : PyData) : Prop := fine d = true ∧ d.depth ≤ dp ∧ wt d ≤ sz
def BdAll (dp sz : Nat) (ds : List PyData) : Prop := fineAll ds = true ∧ PyData.depthAll ds ≤ dp ∧ wtAll ds ≤ sz
theorem Bd.mono {a b c e : Nat} {d : PyData} (h : Bd a b d) (h1 : a ≤ c) (h2 : b ≤ e) : Bd c e d := ⟨h.1, Nat.le_trans h.2.1 h1, Nat.le_trans h.2.2 h2⟩
theorem BdAll.mono {a b c e : Nat} {d : List PyData} (h : BdAll a b d) (h1 : a ≤ c) (h2 : b ≤ e) : BdAll c e d := ⟨h.1, Nat.le_trans h.2.1 h1, Nat.le_trans h.2.2 h2⟩
theorem BdAll.nil {a b : Nat} : BdAll a b [] := ⟨rfl, Nat.zero_le _, Nat.zero_le _⟩
theorem wtAll_append : ∀ ds es : List PyData, wtAll (ds ++ es) = wtAll ds + wtAll es
  | [], es => by simp [wtAll]
  | d :: ds, es => by simp only [List.cons_append, wtAll, wtAll_append ds es]; omega
theorem depthAll_append : ∀ ds es : List PyData, PyData.depthAll (ds ++ es) = max (PyData.depthAll ds) (PyData.depthAll es)
  | [], es => by simp [PyData.depthAll]
  | d :: ds, es => by simp only [List.cons_append, PyData.depthAll, depthAll_append ds es]; omega
theorem BdAll.append {a b c : Nat} {ds es : List PyData} (h : BdAll a b ds) (g : BdAll a c es) : BdAll a (b + c) (ds ++ es) := by
  obtain ⟨h1, h2, h3⟩ := h
  obtain ⟨g1, g2, g3⟩ := g
  refine ⟨by rw [fineAll_append, h1, g1]; rfl, by rw [depthAll_append]; omega, by rw [wtAll_append]; omega⟩
theorem BdAll.cons {a b c : Nat} {d : PyData} {ds : List PyData} (h : Bd a b d) (g : BdAll a c ds) : BdAll a (b + 2 + c) (d :: ds) := by
  obtain ⟨h1, h2, h3⟩ := h
  obtain ⟨g1, g2, g3⟩ := g
  refine ⟨by simp only [fineAll, h1, g1, Bool.and_self], by simp only [PyData.depthAll]; omega, by simp only [wtAll]; omega⟩
theorem BdAll.one {a b : Nat} {d : PyData} (h : Bd a b d) : BdAll a (b + 2) [d] := BdAll.cons (c := 0) h BdAll.nil
theorem Bd.tup {a b : Nat} {ds : List PyData} (h : BdAll a b ds) : Bd (a + 1) (b + 4) (.tuple ds) :=
  ⟨by simpa only [fine] using h.1, by simp only [PyData.depth]; exact Nat.succ_le_succ h.2.1, by simp only [wt]; exact Nat.add_le_add_right h.2.2 4⟩
theorem Bd.lst {a b : Nat} {ds : List PyData} (h : BdAll a b ds) : Bd (a + 1) (b + 4) (.list ds) :=
  ⟨by simpa only [fine] using h.1, by simp only [PyData.depth]; exact Nat.succ_le_succ h.2.1, by simp only [wt]; exact Nat.add_le_add_right h.2.2 4⟩
theorem Bd.int {i : Int} (h : -(10 ^ 31) ≤ i ∧ i ≤ 10 ^ 31) : Bd 0 40 (.int i) := ⟨by simpa [fine] using h, Nat.le_refl _, Nat.le_refl _⟩
theorem name_fine {x : Str} (h : nameX x = true) : fine (.str x) = true := by
  unfold nameX at h
  simp only [Bool.and_eq_true, decide_eq_true_eq, List.all_eq_true] at h
  obtain ⟨_, ⟨_, h1⟩, h2⟩ := h
  simp only [fine, Bool.and_eq_true, decide_eq_true_eq, List.all_eq_true]
  refine ⟨by omega, fun c hc => ?_⟩
  have := h2 c hc
  unfold letterB at this
  simp only [Bool.and_eq_true, decide_eq_true_eq] at this
  omega
theorem Bd.str {x : Str} (h : fine (.str x) = true) : Bd 0 220 (.str x) := ⟨h, Nat.le_refl _, Nat.le_refl _⟩
end KP
set_option Elab.async false
set_option linter.unusedVariables false
set_option maxRecDepth 100000
set_option maxHeartbeats 1000000
/-! Rules of one's own: == and != of data; P.__init__(self, ..), P a class of one's own over ValueError that has none. -/
namespace KA
open PySem PySem.Spec PyProof.Rows L2
section
variable {X : Cx}
def rEqD : R2 := fun x y H Q => ∃ d e, Dn H x d ∧ Dn H y e ∧ SeqAt.shaped d = true ∧ SeqAt.shaped e = true ∧ Q (.bl (PyData.eqv d e)) H
theorem op_eqD (hu : X.A.units + 64 < cLine) : OpR X (compareOp .Eq) rEqD := by
  intro pins s σ H x y v u Q I rx ry h
  obtain ⟨d, e, hd, he, sd, se, q⟩ := h
  obtain ⟨as, ra⟩ := Dn.reads I.hok hd rx
  obtain ⟨bs, rb⟩ := Dn.reads I.hok he ry
  exact eq_dataH ra rb sd se hu ⟨.bl (PyData.eqv d e), H, I, rfl, q⟩
def rNeD : R2 := fun x y H Q => ∃ d e, Dn H x d ∧ Dn H y e ∧ SeqAt.shaped d = true ∧ SeqAt.shaped e = true ∧ Q (.bl (!PyData.eqv d e)) H
theorem op_neD (hu : X.A.units + 64 < cLine) : OpR X (compareOp .NotEq) rNeD := by
  intro pins s σ H x y v u Q I rx ry h
  obtain ⟨d, e, hd, he, sd, se, q⟩ := h
  obtain ⟨as, ra⟩ := Dn.reads I.hok hd rx
  obtain ⟨bs, rb⟩ := Dn.reads I.hok he ry
  exact ne_dataH ra rb sd se hu ⟨.bl (!PyData.eqv d e), H, I, rfl, q⟩
/-- what the written part says of a class of one's own that has its __init__ from ValueError -/
structure UpC (K : PySem.W.Frag) (C : Addr) : Prop where
  kp : PySem.W.keepIn K (.ref C) = true
  sp : PySem.W.specialIn K (.ref C) "__getattribute__" = some (some (.builtin "type.__getattribute__"))
  rd : ∃ mc, PySem.W.readsIn K C mc = true ∧ PySem.W.findCls K (.ref C) mc "__init__" = some (.val (.builtin "ValueError.__init__"))
theorem pe_upinit {x : Str} {U : Addr} {e : Expr} {es : List Expr} {ta : TA} {p1 p2 pos : Pos} {pl : Sem Bool} (T : UpC X.K U) (hg : Gl X x) (hm : X.mg x = some (.ref U)) (ha : PA X (e :: es) ta) (hdb : (x == ("__debug__" : Str)) = false := by decide)
    (hc : eval (.Call (.Attribute (.Name x p1) "__init__" p2) (e :: es) [] pos) X.env = (do
      let ov ← eval (.Name x p1) X.env
      standAt p2.atName
      let (f, first) ← holding [ov] (getMethod ov "__init__" pl)
      callWith pos f first (backTo pos (starEach (e :: es) X.env)) (backToKw pos (keywordEach [] X.env))) := by rfl)
    (he : starEach (e :: es) X.env = (false, eval e X.env) :: starEach es X.env := by rfl) (hpl : (backTo pos (starEach es X.env)).any (·.1) = false := by rfl) :
    PE X (.Call (.Attribute (.Name x p1) "__init__" p2) (e :: es) [] pos) (tVeI X.K ta) := by
  refine ⟨fun pins s σ H Q I h => ?_⟩
  obtain ⟨mc, rd, fc⟩ := T.rd
  refine PySem.W.methodCall_KW (ld_glob I hg hm ?_ hdb) hc
  refine PySem.W.method_cls I.kIn T.sp ?_
  refine PySem.W.cls_value I.kIn rd fc (by decide +kernel) ?_
  show wpAny _ _ (callWith pos (Value.builtin "ValueError.__init__") [] (backTo pos (starEach (e :: es) X.env)) []) _ _ _
  refine PyProof.Rows.callWith_method1 (thn (ha.run pos pins _ σ H _ (I.tok _) h) fun us s1 ⟨vs, H1, I1, r1, a, C, ws, ev, hl, T', ea, q⟩ => ?_) he hpl
  subst ev
  cases r1 with
  | @cons _ u0 _ ur ra rw' =>
    obtain rfl : u0 = Value.ref a := ra
    have hlen : ur.length ≤ sizeLine := by
      rw [← Paired.length rw', sizeLine_eq]
      omega
    exact oinit_ok T' I1 ea hlen fun s' J => ⟨.non, H1, J, rfl, q⟩
end
end KA
set_option Elab.async false
set_option linter.unusedVariables false
set_option linter.unusedSectionVars false
set_option maxRecDepth 100000
set_option maxHeartbeats 1000000
/-! Slots by what they have: data; a list that only this slot has; else. What an expression, a statement makes of them. -/
namespace OW
open PySem PySem.Spec PyProof.Rows L2 KA

structure Mo where
  P : V → Hp → Prop
  mono : ∀ {v : V} {H H' : Hp}, Same H H' → P v H → P v H'
structure MoL where
  P : List V → Hp → Prop
  mono : ∀ {vs : List V} {H H' : Hp}, Same H H' → P vs H → P vs H'
inductive Sl where
  | un
  | any
  | d (x : PyData)
  | l (xs : List PyData)
  | p (P : Mo)
  | la (a : Addr) (xs : List PyData)
  | wa (a : Addr) (xs : List PyData)
  | dk (kvs : List (Key × V))
  | lm (P : MoL)
def uns (n : Nat) : List Sl := List.replicate n .un
abbrev Am := Nat → Option Addr
abbrev fl : Nat := 100000
open Classical in
noncomputable def vw (Z : Addr → Prop) (A : Am) (H : Hp) : Hp := fun b => if Z b ∨ ∃ i, A i = some b then none else H b
def aset (A : Am) (i : Nat) (o : Option Addr) : Am := fun j => if j = i then o else A j
theorem aset_at {A : Am} {i : Nat} {o : Option Addr} : aset A i o i = o := if_pos rfl
theorem aset_ne {A : Am} {i j : Nat} {o : Option Addr} (h : j ≠ i) : aset A i o j = A j := if_neg h
section
variable {Z : Addr → Prop} {A A' : Am} {H H' : Hp} {b : Addr} {o : HO}
theorem vw_some (h : vw Z A H b = some o) : ¬ Z b ∧ (∀ i, A i ≠ some b) ∧ H b = some o := by
  unfold vw at h
  split at h
  · cases h
  · rename_i n
    exact ⟨fun z => n (Or.inl z), fun i e => n (Or.inr ⟨i, e⟩), h⟩
theorem vw_mk (h : ¬ Z b) (h1 : ∀ i, A i ≠ some b) (h2 : H b = some o) : vw Z A H b = some o := by
  unfold vw
  rw [if_neg]
  · exact h2
  · rintro (z | ⟨i, e⟩)
    · exact h z
    · exact h1 i e
theorem vw_sub : Same (vw Z A H) H := fun b o e => (vw_some e).2.2
theorem vw_up (S : Same H H') : Same (vw Z A H) (vw Z A H') := fun b o e => by
  obtain ⟨h1, h2, h3⟩ := vw_some e
  exact vw_mk h1 h2 (S _ _ h3)
/-- fewer owned: more is seen -/
theorem vw_less (h : ∀ i a, A' i = some a → ∃ j, A j = some a) : Same (vw Z A H) (vw Z A' H) := fun b o e => by
  obtain ⟨h1, h2, h3⟩ := vw_some e
  exact vw_mk h1 (fun i z => let ⟨j, q⟩ := h i b z; h2 j q) h3
/-- what is owned changes -/
theorem vw_mut {a : Addr} {i : Nat} (h : A i = some a) : vw Z A (upd H a o) = vw Z A H := by
  funext b
  unfold vw
  split
  · rfl
  · rename_i n
    have : b ≠ a := fun e => n (Or.inr ⟨i, by rw [e]; exact h⟩)
    rw [upd_ne this]
end
def ArOk (W : Hp) (v : V) : Sl → Prop
  | .d x => Dn W v x
  | .p P => P.P v W
  | _ => False
def ArAll (W : Hp) : List V → List Sl → Prop
  | [], [] => True
  | v :: vs, s :: ss => ArOk W v s ∧ ArAll W vs ss
  | _, _ => False
theorem ArOk.mono {W W' : Hp} (S : Same W W') {v : V} : ∀ {s : Sl}, ArOk W v s → ArOk W' v s
  | .d _, h => Dn.mono S h
  | .p P, h => P.mono S h
  | .un, h | .any, h | .l _, h | .la _ _, h | .wa _ _, h | .dk _, h | .lm _, h => h.elim
theorem ArAll.mono {W W' : Hp} (S : Same W W') : ∀ {vs : List V} {ss : List Sl}, ArAll W vs ss → ArAll W' vs ss
  | [], [], _ => trivial
  | _ :: _, _ :: _, h => ⟨h.1.mono S, ArAll.mono S h.2⟩
  | [], _ :: _, h => h.elim
  | _ :: _, [], h => h.elim
theorem ArAll.length {W : Hp} : ∀ {vs : List V} {ss : List Sl}, ArAll W vs ss → vs.length = ss.length
  | [], [], _ => rfl
  | _ :: _, _ :: _, h => congrArg (· + 1) (ArAll.length h.2)
  | [], _ :: _, h => h.elim
  | _ :: _, [], h => h.elim
theorem ArAll.append {W : Hp} : ∀ {vs ws : List V} {ss ts : List Sl}, ArAll W vs ss → ArAll W ws ts → ArAll W (vs ++ ws) (ss ++ ts)
  | [], _, [], _, _, g => g
  | _ :: _, _, _ :: _, _, h, g => ⟨h.1, ArAll.append h.2 g⟩
  | [], _, _ :: _, _, h, _ => h.elim
  | _ :: _, _, [], _, h, _ => h.elim
theorem arAll_d {W : Hp} : ∀ {vs : List V} {xs : List PyData}, DnAll W vs xs → ArAll W vs (xs.map Sl.d)
  | _, _, .nil => trivial
  | _, _, .cons h t => ⟨h, arAll_d t⟩
def SlOk (W H : Hp) (u : Option (Option V)) (o : Option Addr) : Sl → Prop
  | .un => u = some none ∧ o = none
  | .any => o = none
  | .d x => o = none ∧ ∃ v, u = some (some v) ∧ Dn W v x
  | .l xs => ∃ a vs, o = some a ∧ u = some (some (.ref a)) ∧ H a = some (.lst vs) ∧ DnAll W vs xs
  | .p P => o = none ∧ ∃ v, u = some (some v) ∧ P.P v W
  | .la a xs => ∃ vs, o = some a ∧ u = some (some (.ref a)) ∧ H a = some (.lst vs) ∧ DnAll W vs xs
  | .wa a xs => ∃ vs, o = some a ∧ H a = some (.lst vs) ∧ DnAll W vs xs
  | .dk kvs => ∃ a, o = some a ∧ u = some (some (.ref a)) ∧ H a = some (.dK kvs)
  | .lm P => ∃ a vs, o = some a ∧ u = some (some (.ref a)) ∧ H a = some (.lst vs) ∧ P.P vs W
theorem SlOk.mono {W W' H H' : Hp} {u : Option (Option V)} {o : Option Addr} (S : Same W W') (k : ∀ a (h : HO), o = some a → H a = some h → H' a = some h) : ∀ {s : Sl}, SlOk W H u o s → SlOk W' H' u o s
  | .un, h => h
  | .any, h => h
  | .d _, ⟨h, v, e, r⟩ => ⟨h, v, e, Dn.mono S r⟩
  | .l _, ⟨a, vs, e, e1, e2, r⟩ => ⟨a, vs, e, e1, k a _ e e2, DnAll.mono S r⟩
  | .p P, ⟨h, v, e, r⟩ => ⟨h, v, e, P.mono S r⟩
  | .la a _, ⟨vs, e, e1, e2, r⟩ => ⟨vs, e, e1, k a _ e e2, DnAll.mono S r⟩
  | .wa a _, ⟨vs, e, e2, r⟩ => ⟨vs, e, k a _ e e2, DnAll.mono S r⟩
  | .dk _, ⟨a, e, e1, e2⟩ => ⟨a, e, e1, k a _ e e2⟩
  | .lm P, ⟨a, vs, e, e1, e2, r⟩ => ⟨a, vs, e, e1, k a _ e e2, P.mono S r⟩
/-! the code tables of defs that make defs: they grow; they are hidden, and what they tell is seen -/
class Tbs where
  T : List NdefX.NTab
variable [Tbs]
def tabA (b : Addr) : Prop := ∃ p ∈ Tbs.T, p.1 = b
def Tb (W H : Hp) : Prop := ∀ p ∈ Tbs.T, ∃ ps : Array Value, H p.1 = some (.tbl ps) ∧ TriplesOk ps.toList ∧ ∀ (pos : Pos) (cv : Value), codeAmong pos ps.toList = some cv → ∃ c, cv = .ref c ∧ W c = some (LamX.CodeO c (p.2 pos.line pos.col))
theorem Tb.mono {W W' H H' : Hp} (t : Tb W H) (S : Same W W') (k : ∀ b, tabA b → H' b = H b) : Tb W' H' := fun p hp => by
  obtain ⟨ps, e1, e2, e3⟩ := t p hp
  refine ⟨ps, (k p.1 ⟨p, hp, rfl⟩).trans e1, e2, fun pos cv h => ?_⟩
  obtain ⟨c, g1, g2⟩ := e3 pos cv h
  exact ⟨c, g1, S _ _ g2⟩
theorem Tb.at_ {W H : Hp} (t : Tb W H) {b : Addr} (h : tabA b) : ∃ ps, H b = some (.tbl ps) := by
  obtain ⟨p, hp, rfl⟩ := h
  obtain ⟨ps, e, _⟩ := t p hp
  exact ⟨ps, e⟩
theorem Tb.some {W H : Hp} (t : Tb W H) {b : Addr} (h : tabA b) : H b ≠ none := by
  obtain ⟨ps, e⟩ := t.at_ h
  rw [e]
  simp
theorem Tb.same {W H H' : Hp} (t : Tb W H) (S : Same H H') : ∀ b, tabA b → H' b = H b := fun b h => by
  obtain ⟨ps, e⟩ := t.at_ h
  rw [e]
  exact S _ _ e
theorem Tb.upd_ {W H : Hp} (t : Tb W H) {a : Addr} {o : HO} (n : ¬ tabA a) : ∀ b, tabA b → upd H a o b = H b := fun b h => upd_ne fun e => n (e ▸ h)
theorem Tb.new_ {W H : Hp} (t : Tb W H) {a : Addr} (n : H a = none) : ¬ tabA a := fun h => t.some h n
/-- what belongs to others: Z, as it stands in G; F: what was there when the def began; B: the list of its first slot is the caller's -/
structure Fr where
  Z : Addr → Prop
  B : Option Addr
  G : Hp
  F : Hp
structure Rp (c : Fr) (A : Am) (ρ : List Sl) (σ : L2.St) (H : Hp) : Prop where
  len : σ.length = ρ.length
  sz : ρ.length < fl
  inj : ∀ i j a, A i = some a → A j = some a → i = j
  off : ∀ i a, A i = some a → ¬ c.Z a
  live : ∀ i a, A i = some a → H a ≠ none
  keep : ∀ a, c.Z a → ¬ tabA a → c.G a ≠ none ∧ H a = c.G a
  old : Same c.F (vw c.Z A H)
  bor : ∀ p, c.B = some p → A 0 = some p
  sl : ∀ i s, ρ[i]? = some s → SlOk (vw c.Z A H) H σ[i]? (A i) s
  tz : ∀ b, tabA b → c.Z b
  tb : Tb (vw c.Z A H) H
section
variable {c : Fr} {A A' : Am} {ρ ρ' : List Sl} {σ : L2.St} {H H' : Hp}
theorem Rp.there (R : Rp c A ρ σ H) {a : Addr} (z : c.Z a) : H a ≠ none := by
  by_cases t : tabA a
  · exact R.tb.some t
  · obtain ⟨h1, h2⟩ := R.keep a z t
    rw [h2]
    exact h1
theorem Rp.nt (R : Rp c A ρ σ H) {i : Nat} {a : Addr} (e : A i = some a) : ¬ tabA a := fun t => R.off i a e (R.tz a t)
theorem Rp.up (R : Rp c A ρ σ H) (S : Same H H') : Rp c A ρ σ H' where
  len := R.len
  sz := R.sz
  inj := R.inj
  off := R.off
  live i a e := by
    obtain ⟨o, h⟩ := Option.ne_none_iff_exists'.mp (R.live i a e)
    rw [S _ _ h]
    simp
  keep a z t := by
    obtain ⟨h1, h2⟩ := R.keep a z t
    refine ⟨h1, ?_⟩
    obtain ⟨o, h⟩ := Option.ne_none_iff_exists'.mp h1
    rw [h] at h2 ⊢
    exact S _ _ h2
  old := R.old.trans (vw_up S)
  bor := R.bor
  sl i s e := (R.sl i s e).mono (vw_up S) fun a vs _ h => S _ _ h
  tz := R.tz
  tb := R.tb.mono (vw_up S) (R.tb.same S)
/-- less is owned -/
theorem Rp.rel (R : Rp c A ρ σ H) (h : ∀ i a, A' i = some a → A i = some a) (h0 : A' 0 = A 0) (hs : ∀ i s, ρ[i]? = some s → A' i = A i) : Rp c A' ρ σ H where
  len := R.len
  sz := R.sz
  inj i j a e e' := R.inj i j a (h _ _ e) (h _ _ e')
  off i a e := R.off i a (h _ _ e)
  live i a e := R.live i a (h _ _ e)
  keep := R.keep
  old := R.old.trans (vw_less fun i a e => ⟨i, h _ _ e⟩)
  bor p e := by rw [h0]; exact R.bor p e
  sl i s e := by
    rw [hs i s e]
    exact (R.sl i s e).mono (vw_less fun i a e => ⟨i, h _ _ e⟩) fun a vs _ h => h
  tz := R.tz
  tb := R.tb.mono (vw_less fun i a e => ⟨i, h _ _ e⟩) fun _ _ => rfl
theorem idx_small (hρ : ρ.length < fl) {i : Nat} {s : Sl} (e : ρ[i]? = some s) : i ≠ fl := by
  have := (List.getElem?_eq_some_iff.mp e).1
  omega
theorem Rp.land (R : Rp c A ρ σ H) : Rp c (aset A fl none) ρ σ H := by
  refine R.rel (fun i a e => ?_) (aset_ne (by decide)) (fun i s e => aset_ne (idx_small R.sz e))
  by_cases q : i = fl
  · rw [q, aset_at] at e
    cases e
  · rw [aset_ne q] at e
    exact e
theorem vw_land {Z : Addr → Prop} {i : Nat} : Same (vw Z A H) (vw Z (aset A i none) H) := vw_less fun j a e => by
  by_cases q : j = i
  · rw [q, aset_at] at e
    cases e
  · rw [aset_ne q] at e
    exact ⟨j, e⟩
/-- a new list, not yet in a slot -/
theorem vw_fly {Z : Addr → Prop} {a : Addr} {o : HO} (n : H a = none) : Same (vw Z A H) (vw Z (aset A fl (some a)) (upd H a o)) := fun b u e => by
  obtain ⟨h1, h2, h3⟩ := vw_some e
  have nb : b ≠ a := ne_of_none h3 n
  refine vw_mk h1 (fun i z => ?_) (by rw [upd_ne nb]; exact h3)
  by_cases q : i = fl
  · rw [q, aset_at] at z
    exact nb (Option.some.inj z).symm
  · rw [aset_ne q] at z
    exact h2 i z
theorem Rp.fly (R : Rp c A ρ σ H) {a : Addr} {o : HO} (n : H a = none) : Rp c (aset A fl (some a)) ρ σ (upd H a o) where
  len := R.len
  sz := R.sz
  inj i j b e e' := by
    by_cases q : i = fl
    · by_cases q' : j = fl
      · rw [q, q']
      · rw [q, aset_at] at e
        rw [aset_ne q'] at e'
        cases e
        exact absurd n (R.live _ _ e')
    · rw [aset_ne q] at e
      by_cases q' : j = fl
      · rw [q', aset_at] at e'
        cases e'
        exact absurd n (R.live _ _ e)
      · rw [aset_ne q'] at e'
        exact R.inj _ _ _ e e'
  off i b e z := by
    by_cases q : i = fl
    · rw [q, aset_at] at e
      cases e
      exact R.there z n
    · rw [aset_ne q] at e
      exact R.off _ _ e z
  live i b e := by
    by_cases q : b = a
    · rw [q, upd_same]
      simp
    · rw [upd_ne q]
      by_cases q' : i = fl
      · rw [q', aset_at] at e
        exact absurd (Option.some.inj e).symm q
      · rw [aset_ne q'] at e
        exact R.live _ _ e
  keep b z t := by
    obtain ⟨h1, h2⟩ := R.keep b z t
    have nb : b ≠ a := fun e => R.there z (e ▸ n)
    exact ⟨h1, by rw [upd_ne nb]; exact h2⟩
  old := R.old.trans (vw_fly n)
  bor p e := by rw [aset_ne (by decide)]; exact R.bor p e
  sl i s e := by
    rw [aset_ne (idx_small R.sz e)]
    exact (R.sl i s e).mono (vw_fly n) fun b vs _ h => by rw [upd_ne (ne_of_none h n)]; exact h
  tz := R.tz
  tb := R.tb.mono (vw_fly n) (R.tb.upd_ (R.tb.new_ n))
/-- a slot gets a value that isn't owned -/
theorem Rp.set (R : Rp c A ρ σ H) {i : Nat} {v : V} {s : Sl} (i0 : i ≠ 0) (h : SlOk (vw c.Z A H) H (some (some v)) none s) : Rp c (aset A i none) (ρ.set i s) (σ.set i (some v)) H where
  len := by rw [List.length_set, List.length_set, R.len]
  sz := by rw [List.length_set]; exact R.sz
  inj k j a e e' := by
    by_cases q : k = i
    · rw [q, aset_at] at e
      cases e
    · by_cases q' : j = i
      · rw [q', aset_at] at e'
        cases e'
      · rw [aset_ne q] at e
        rw [aset_ne q'] at e'
        exact R.inj _ _ _ e e'
  off k a e := by
    by_cases q : k = i
    · rw [q, aset_at] at e
      cases e
    · rw [aset_ne q] at e
      exact R.off _ _ e
  live k a e := by
    by_cases q : k = i
    · rw [q, aset_at] at e
      cases e
    · rw [aset_ne q] at e
      exact R.live _ _ e
  keep := R.keep
  old := R.old.trans vw_land
  bor p e := by rw [aset_ne i0.symm]; exact R.bor p e
  sl j t e := by
    by_cases q : j = i
    · subst q
      rw [aset_at]
      have lt := (List.getElem?_eq_some_iff.mp e).1
      rw [List.length_set] at lt
      rw [List.getElem?_set_self (by rw [R.len]; exact lt)]
      rw [List.getElem?_set_self lt] at e
      cases e
      exact h.mono vw_land fun _ _ z _ => by cases z
    · rw [List.getElem?_set_ne (Ne.symm q)] at e ⊢
      rw [aset_ne q]
      exact (R.sl j t e).mono vw_land fun _ _ _ z => z
  tz := R.tz
  tb := R.tb.mono vw_land fun _ _ => rfl
/-- a slot gets the new list -/
theorem Rp.setL (R : Rp c A ρ σ H) {i : Nat} {a : Addr} {vs : List V} {xs : List PyData} (i0 : i ≠ 0) (hi : i < ρ.length) (e : A fl = some a) (ha : H a = some (.lst vs)) (dx : DnAll (vw c.Z A H) vs xs) : Rp c (aset (aset A i (some a)) fl none) (ρ.set i (.l xs)) (σ.set i (some (.ref a))) H := by
  have ne : i ≠ fl := by have := R.sz; omega
  have back : ∀ j b, aset (aset A i (some a)) fl none j = some b → (j = i ∧ b = a) ∨ (j ≠ i ∧ j ≠ fl ∧ A j = some b) := fun j b z => by
    by_cases q : j = fl
    · rw [q, aset_at] at z
      cases z
    · rw [aset_ne q] at z
      by_cases q' : j = i
      · rw [q', aset_at] at z
        exact Or.inl ⟨q', (Option.some.inj z).symm⟩
      · rw [aset_ne q'] at z
        exact Or.inr ⟨q', q, z⟩
  have more : Same (vw c.Z A H) (vw c.Z (aset (aset A i (some a)) fl none) H) := vw_less fun j b z => by
    rcases back j b z with ⟨_, rfl⟩ | ⟨_, _, z⟩
    · exact ⟨_, e⟩
    · exact ⟨_, z⟩
  refine ⟨by rw [List.length_set, List.length_set, R.len], by rw [List.length_set]; exact R.sz, ?_, ?_, ?_, R.keep, R.old.trans more, ?_, ?_, R.tz, R.tb.mono more fun _ _ => rfl⟩
  · intro k j b z z'
    rcases back k b z with ⟨q1, q2⟩ | ⟨n1, n2, y⟩
    · rcases back j _ z' with ⟨q3, _⟩ | ⟨n3, n4, y'⟩
      · rw [q1, q3]
      · exact absurd (R.inj _ _ _ (q2 ▸ y') e) n4
    · rcases back j b z' with ⟨q3, q4⟩ | ⟨n3, n4, y'⟩
      · exact absurd (R.inj _ _ _ (q4 ▸ y) e) n2
      · exact R.inj _ _ _ y y'
  · intro j b z
    rcases back j b z with ⟨rfl, rfl⟩ | ⟨n1, n2, z⟩
    · exact R.off _ _ e
    · exact R.off _ _ z
  · intro j b z
    rcases back j b z with ⟨rfl, rfl⟩ | ⟨n1, n2, z⟩
    · exact R.live _ _ e
    · exact R.live _ _ z
  · intro p q
    rw [aset_ne (by decide), aset_ne i0.symm]
    exact R.bor p q
  · intro j t z
    by_cases q : j = i
    · subst q
      rw [aset_ne ne, aset_at]
      rw [List.getElem?_set_self (by rw [R.len]; exact hi)]
      rw [List.getElem?_set_self hi] at z
      cases z
      exact ⟨a, vs, rfl, rfl, ha, DnAll.mono more dx⟩
    · rw [List.getElem?_set_ne (Ne.symm q)] at z ⊢
      rw [aset_ne (idx_small R.sz z), aset_ne q]
      exact (R.sl j t z).mono more fun _ _ _ h => h
/-- an owned list changes -/
theorem Rp.mut (R : Rp c A ρ σ H) {i : Nat} {a : Addr} {vs : List V} {xs ys : List PyData} (h : ρ[i]? = some (.l ys)) (e : A i = some a) (dx : DnAll (vw c.Z A H) vs xs) : Rp c A (ρ.set i (.l xs)) σ (upd H a (.lst vs)) := by
  have hv : vw c.Z A (upd H a (.lst vs)) = vw c.Z A H := vw_mut e
  refine ⟨by rw [List.length_set, R.len], by rw [List.length_set]; exact R.sz, R.inj, R.off, ?_, ?_, ?_, R.bor, ?_, R.tz, by rw [hv]; exact R.tb.mono (Same.refl _) (R.tb.upd_ (R.nt e))⟩
  · intro j b z
    by_cases q : b = a
    · rw [q, upd_same]
      simp
    · rw [upd_ne q]
      exact R.live _ _ z
  · intro b z t
    have nb : b ≠ a := fun q => R.off _ _ e (q ▸ z)
    rw [upd_ne nb]
    exact R.keep b z t
  · rw [hv]
    exact R.old
  · intro j t z
    rw [hv]
    by_cases q : j = i
    · subst q
      have lt := (List.getElem?_eq_some_iff.mp h).1
      rw [List.getElem?_set_self lt] at z
      cases z
      obtain ⟨a', vs', e1, e2, e3, _⟩ := R.sl j _ h
      rw [e] at e1
      cases e1
      exact ⟨a, vs, e, e2, upd_same, dx⟩
    · rw [List.getElem?_set_ne (Ne.symm q)] at z
      refine (R.sl j t z).mono (Same.refl _) fun b ws e' hb => ?_
      have nb : b ≠ a := fun eb => q (R.inj _ _ _ e' (eb ▸ e))
      rw [upd_ne nb]
      exact hb
/-- an owned list is given away: it is data from then on -/
theorem Rp.freeze (R : Rp c A ρ σ H) {i : Nat} {xs : List PyData} (i0 : i ≠ 0) (h : ρ[i]? = some (.l xs)) : ∃ a, A i = some a ∧ σ[i]? = some (some (.ref a)) ∧ Dn (vw c.Z (aset A i none) H) (.ref a) (.list xs) ∧ Rp c (aset A i none) (ρ.set i (.d (.list xs))) σ H := by
  obtain ⟨a, vs, e, e1, e2, dx⟩ := R.sl i _ h
  have nf : vw c.Z (aset A i none) H a = some (.lst vs) := vw_mk (R.off _ _ e) (fun j z => by
    by_cases q : j = i
    · rw [q, aset_at] at z
      cases z
    · rw [aset_ne q] at z
      exact q (R.inj _ _ _ z e)) e2
  have dn : Dn (vw c.Z (aset A i none) H) (.ref a) (.list xs) := .lst nf (DnAll.mono vw_land dx)
  refine ⟨a, e, e1, dn, ?_⟩
  refine ⟨by rw [List.length_set, R.len], by rw [List.length_set]; exact R.sz, ?_, ?_, ?_, R.keep, R.old.trans vw_land, ?_, ?_, R.tz, R.tb.mono vw_land fun _ _ => rfl⟩
  · intro k j b z z'
    by_cases q : k = i
    · rw [q, aset_at] at z
      cases z
    · by_cases q' : j = i
      · rw [q', aset_at] at z'
        cases z'
      · rw [aset_ne q] at z
        rw [aset_ne q'] at z'
        exact R.inj _ _ _ z z'
  · intro k b z
    by_cases q : k = i
    · rw [q, aset_at] at z
      cases z
    · rw [aset_ne q] at z
      exact R.off _ _ z
  · intro k b z
    by_cases q : k = i
    · rw [q, aset_at] at z
      cases z
    · rw [aset_ne q] at z
      exact R.live _ _ z
  · intro p z
    rw [aset_ne i0.symm]
    exact R.bor p z
  · intro j t z
    by_cases q : j = i
    · subst q
      have lt := (List.getElem?_eq_some_iff.mp h).1
      rw [List.getElem?_set_self lt] at z
      cases z
      rw [aset_at]
      exact ⟨rfl, _, e1, dn⟩
    · rw [List.getElem?_set_ne (Ne.symm q)] at z
      rw [aset_ne q]
      exact (R.sl j t z).mono vw_land fun _ _ _ h => h
end
end OW
set_option Elab.async false
set_option linter.unusedVariables false
set_option linter.unusedSectionVars false
set_option maxRecDepth 100000
set_option maxHeartbeats 1000000
namespace OW
open PySem PySem.Spec PyProof.Rows L2 KA
variable [Tbs]
/-! ### what an expression gives: s (data, or else), a new list, arguments, a truth -/
def Ev (te : TE) (ρ : List Sl) (s : Sl) (ρ' : List Sl) : Prop := ∀ (c : Fr) (A : Am) (σ : L2.St) (H : Hp) (Q : VK), Rp c A ρ σ H → A fl = none →
  (∀ v A' H', Rp c A' ρ' σ H' → A' fl = none → Same (vw c.Z A H) (vw c.Z A' H') → ArOk (vw c.Z A' H') v s → Q v H') → te σ H Q
def El (te : TE) (ρ : List Sl) (xs : List PyData) (ρ' : List Sl) : Prop := ∀ (c : Fr) (A : Am) (σ : L2.St) (H : Hp) (Q : VK), Rp c A ρ σ H → A fl = none →
  (∀ a vs A' H', Rp c A' ρ' σ H' → A' fl = some a → Same (vw c.Z A H) (vw c.Z A' H') → H' a = some (.lst vs) → DnAll (vw c.Z A' H') vs xs → Q (.ref a) H') → te σ H Q
def Es (ta : TA) (ρ : List Sl) (ss : List Sl) (ρ' : List Sl) : Prop := ∀ (c : Fr) (A : Am) (σ : L2.St) (H : Hp) (Q : List V → Hp → Prop), Rp c A ρ σ H → A fl = none →
  (∀ vs A' H', Rp c A' ρ' σ H' → A' fl = none → Same (vw c.Z A H) (vw c.Z A' H') → ArAll (vw c.Z A' H') vs ss → Q vs H') → ta σ H Q
def Eds (ta : TA) (ρ : List Sl) (xs : List PyData) (ρ' : List Sl) : Prop := ∀ (c : Fr) (A : Am) (σ : L2.St) (H : Hp) (Q : List V → Hp → Prop), Rp c A ρ σ H → A fl = none →
  (∀ vs A' H', Rp c A' ρ' σ H' → A' fl = none → Same (vw c.Z A H) (vw c.Z A' H') → DnAll (vw c.Z A' H') vs xs → Q vs H') → ta σ H Q
def Et (tt : TT) (ρ : List Sl) (b : Bool) (ρ' : List Sl) : Prop := ∀ (c : Fr) (A : Am) (σ : L2.St) (H : Hp) (Q : Bool → Hp → Prop), Rp c A ρ σ H → A fl = none →
  (∀ A' H', Rp c A' ρ' σ H' → A' fl = none → Same (vw c.Z A H) (vw c.Z A' H') → Q b H') → tt σ H Q
def Eo (to : TO) (ρ : List Sl) (o : Option Int) (ρ' : List Sl) : Prop := ∀ (c : Fr) (A : Am) (σ : L2.St) (H : Hp) (Q : Option Int → Hp → Prop), Rp c A ρ σ H → A fl = none →
  (∀ A' H', Rp c A' ρ' σ H' → A' fl = none → Same (vw c.Z A H) (vw c.Z A' H') → Q o H') → to σ H Q
section
variable {ρ ρ' ρ1 ρ2 ρ3 : List Sl} {te ta tb tu : TE} {s s' : Sl} {x y z : PyData} {i : Nat} {tr : TA} {xs ys : List PyData} {ss : List Sl}
theorem new_view {c : Fr} {A : Am} {σ : L2.St} {H H' : Hp} (R : Rp c A ρ σ H) {b : Addr} {o : HO} (n : H b = none) (e : H' b = some o) : vw c.Z A H' b = some o := by
  refine vw_mk (fun z => ?_) (fun i z => ?_) e
  · exact R.there z n
  · exact R.live _ _ z n
theorem ev_c {v : V} (h : ∀ W, ArOk W v s) : Ev (tC v) ρ s ρ := fun c A σ H Q R f q => q v A H R f (Same.refl _) (h _)
theorem ev_int {n : Int} : Ev (tC (.int n)) ρ (.d (.int n)) ρ := ev_c fun _ => .int n
theorem ev_str {n : Str} : Ev (tC (.str n)) ρ (.d (.str n)) ρ := ev_c fun _ => .str n
theorem ev_bl {n : Bool} : Ev (tC (.bl n)) ρ (.d (.bool n)) ρ := ev_c fun _ => .bl n
theorem ev_non : Ev (tC .non) ρ (.d .none) ρ := ev_c fun _ => .non
theorem ev_var (h : ρ[i]? = some (.d x)) : Ev (tVar i) ρ (.d x) ρ := fun c A σ H Q R f q => by
  obtain ⟨_, v, e, dn⟩ := R.sl i _ h
  exact ⟨v, e, q v A H R f (Same.refl _) dn⟩
theorem ev_varp {P : Mo} (h : ρ[i]? = some (.p P)) : Ev (tVar i) ρ (.p P) ρ := fun c A σ H Q R f q => by
  obtain ⟨_, v, e, dn⟩ := R.sl i _ h
  exact ⟨v, e, q v A H R f (Same.refl _) dn⟩
/-- the list goes out of its slot -/
theorem ev_varF (h : ρ[i]? = some (.l xs)) (i0 : i ≠ 0 := by decide) : Ev (tVar i) ρ (.d (.list xs)) (ρ.set i (.d (.list xs))) := fun c A σ H Q R f q => by
  obtain ⟨a, e, e1, dn, R'⟩ := R.freeze i0 h
  have nf : fl ≠ i := (idx_small R.sz h).symm
  exact ⟨_, e1, q _ _ H R' (by rw [aset_ne nf]; exact f) vw_land dn⟩
theorem Ev.of_el (h : El te ρ xs ρ') : Ev te ρ (.d (.list xs)) ρ' := fun c A σ H Q R f q => h c A σ H Q R f fun a vs A' H' R' f' S e dx => by
  refine q _ _ _ R'.land aset_at (S.trans vw_land) (.lst (vw_mk (R'.off _ _ f') (fun j z => ?_) e) (DnAll.mono vw_land dx))
  by_cases j' : j = fl
  · rw [j', aset_at] at z
    cases z
  · rw [aset_ne j'] at z
    exact j' (R'.inj _ _ _ z f')
theorem es_nil : Es tNil ρ [] ρ := fun c A σ H Q R f q => q [] A H R f (Same.refl _) trivial
theorem es_cons (h : Ev te ρ s ρ1) (g : Es tr ρ1 ss ρ2) : Es (tCons te tr) ρ (s :: ss) ρ2 := fun c A σ H Q R f q =>
  h c A σ H _ R f fun v A1 H1 R1 f1 S1 o1 => g c A1 σ H1 _ R1 f1 fun vs A2 H2 R2 f2 S2 o2 => q _ A2 H2 R2 f2 (S1.trans S2) ⟨o1.mono S2, o2⟩
theorem eds_nil : Eds tNil ρ [] ρ := fun c A σ H Q R f q => q [] A H R f (Same.refl _) .nil
theorem eds_cons (h : Ev te ρ (.d x) ρ1) (g : Eds tr ρ1 xs ρ2) : Eds (tCons te tr) ρ (x :: xs) ρ2 := fun c A σ H Q R f q =>
  h c A σ H _ R f fun v A1 H1 R1 f1 S1 o1 => g c A1 σ H1 _ R1 f1 fun vs A2 H2 R2 f2 S2 o2 => q _ A2 H2 R2 f2 (S1.trans S2) (.cons (Dn.mono S2 o1) o2)
theorem ev_tup (h : Eds tr ρ xs ρ') (len : xs.length ≤ sizeLine := by simp [sizeLine_eq]) : Ev (tTup tr) ρ (.d (.tuple xs)) ρ' := fun c A σ H Q R f q =>
  h c A σ H _ R f fun vs A1 H1 R1 f1 S1 o1 => ⟨by rw [o1.length]; exact len, fun a ha =>
    q _ A1 _ (R1.up (Same.new ha)) f1 (S1.trans (vw_up (Same.new ha))) (.tup (new_view R1 ha upd_same) (DnAll.mono (vw_up (Same.new ha)) o1))⟩
theorem el_lst (h : Eds tr ρ xs ρ') (len : xs.length ≤ sizeLine := by simp [sizeLine_eq]) : El (tLst tr) ρ xs ρ' := fun c A σ H Q R f q =>
  h c A σ H _ R f fun vs A1 H1 R1 f1 S1 o1 => ⟨by rw [o1.length]; exact len, fun a ha =>
    q a vs _ _ (R1.fly ha) aset_at (S1.trans (vw_fly ha)) upd_same (DnAll.mono (vw_fly ha) o1)⟩
/-! ### a function of values: of the things ss it gives s; a new list -/
def FV (r : List V → Hp → VK → Prop) (ss : List Sl) (s : Sl) : Prop := ∀ (W H : Hp) (vs : List V) (Q : VK), Same W H → ArAll W vs ss →
  (∀ u H', Same H H' → (∀ W', Same W W' → (∀ b o, H b = none → H' b = some o → W' b = some o) → ArOk W' u s) → Q u H') → r vs H Q
def FL (r : List V → Hp → VK → Prop) (ss : List Sl) (xs : List PyData) : Prop := ∀ (W H : Hp) (vs : List V) (Q : VK), Same W H → ArAll W vs ss →
  (∀ a us, H a = none → DnAll W us xs → Q (.ref a) (upd H a (.lst us))) → r vs H Q
def FV2 (r : R2) (s s' t : Sl) : Prop := ∀ (W H : Hp) (v w : V) (Q : VK), Same W H → ArOk W v s → ArOk W w s' →
  (∀ u H', Same H H' → (∀ W', Same W W' → (∀ b o, H b = none → H' b = some o → W' b = some o) → ArOk W' u t) → Q u H') → r v w H Q
def FL2 (r : R2) (s s' : Sl) (xs : List PyData) : Prop := ∀ (W H : Hp) (v w : V) (Q : VK), Same W H → ArOk W v s → ArOk W w s' →
  (∀ a us, H a = none → DnAll W us xs → Q (.ref a) (upd H a (.lst us))) → r v w H Q
theorem ev_fn {r : List V → Hp → VK → Prop} (h : Es tr ρ ss ρ') (g : FV r ss s) : Ev (tCB r tr) ρ s ρ' := fun c A σ H Q R f q =>
  h c A σ H _ R f fun vs A1 H1 R1 f1 S1 o1 => g _ H1 vs Q vw_sub o1 fun u H2 S2 o2 =>
    q u A1 H2 (R1.up S2) f1 (S1.trans (vw_up S2)) (o2 _ (vw_up S2) fun b o n e => new_view R1 n e)
theorem el_fn {r : List V → Hp → VK → Prop} (h : Es tr ρ ss ρ') (g : FL r ss xs) : El (tCB r tr) ρ xs ρ' := fun c A σ H Q R f q =>
  h c A σ H _ R f fun vs A1 H1 R1 f1 S1 o1 => g _ H1 vs Q vw_sub o1 fun a us n dx =>
    q a us _ _ (R1.fly n) aset_at (S1.trans (vw_fly n)) upd_same (DnAll.mono (vw_fly n) dx)
theorem ev_op {r : R2} {t : Sl} (h : Ev ta ρ s ρ1) (h' : Ev tb ρ1 s' ρ2) (g : FV2 r s s' t) : Ev (tOp r ta tb) ρ t ρ2 := fun c A σ H Q R f q =>
  h c A σ H _ R f fun v A1 H1 R1 f1 S1 o1 => h' c A1 σ H1 _ R1 f1 fun w A2 H2 R2 f2 S2 o2 => g _ H2 v w Q vw_sub (o1.mono S2) o2 fun u H3 S3 o3 =>
    q u A2 H3 (R2.up S3) f2 ((S1.trans S2).trans (vw_up S3)) (o3 _ (vw_up S3) fun b o n e => new_view R2 n e)
theorem el_op {r : R2} (h : Ev ta ρ s ρ1) (h' : Ev tb ρ1 s' ρ2) (g : FL2 r s s' xs) : El (tOp r ta tb) ρ xs ρ2 := fun c A σ H Q R f q =>
  h c A σ H _ R f fun v A1 H1 R1 f1 S1 o1 => h' c A1 σ H1 _ R1 f1 fun w A2 H2 R2 f2 S2 o2 => g _ H2 v w Q vw_sub (o1.mono S2) o2 fun a us n dx =>
    q a us _ _ (R2.fly n) aset_at ((S1.trans S2).trans (vw_fly n)) upd_same (DnAll.mono (vw_fly n) dx)
theorem Ev.is (h : Ev te ρ (.d x) ρ') (e : x = y) : Ev te ρ (.d y) ρ' := e ▸ h
theorem Et.is {tt : TT} {b b' : Bool} (h : Et tt ρ b ρ') (e : b = b') : Et tt ρ b' ρ' := e ▸ h
theorem El.is (h : El te ρ xs ρ') (e : xs = ys) : El te ρ ys ρ' := e ▸ h
/-! tests -/
theorem bool_v {W : Hp} {v : V} {b : Bool} (h : ArOk W v (.d (.bool b))) : v = .bl b := by
  cases h
  rfl
theorem int_v {W : Hp} {v : V} {n : Int} (h : ArOk W v (.d (.int n))) : v = .int n := by
  cases h
  rfl
theorem str_v {W : Hp} {v : V} {n : Str} (h : ArOk W v (.d (.str n))) : v = .str n := by
  cases h
  rfl
theorem non_v {W : Hp} {v : V} (h : ArOk W v (.d .none)) : v = .non := by
  cases h
  rfl
theorem tup_v {W : Hp} {v : V} {ds : List PyData} (h : ArOk W v (.d (.tuple ds))) : ∃ a vs, v = .ref a ∧ W a = some (.tup vs) ∧ DnAll W vs ds := by
  cases h with
  | tup e r => exact ⟨_, _, rfl, e, r⟩
theorem lst_v {W : Hp} {v : V} {ds : List PyData} (h : ArOk W v (.d (.list ds))) : ∃ a vs, v = .ref a ∧ W a = some (.lst vs) ∧ DnAll W vs ds := by
  cases h with
  | lst e r => exact ⟨_, _, rfl, e, r⟩
theorem et_test {b : Bool} (h : Ev te ρ (.d (.bool b)) ρ') : Et (tTest te) ρ b ρ' := fun c A σ H Q R f q =>
  h c A σ H _ R f fun v A1 H1 R1 f1 S1 o1 => ⟨b, bool_v o1, q A1 H1 R1 f1 S1⟩
theorem et_B {b : Bool} (h : Ev te ρ (.d (.bool b)) ρ') : Et (tB te) ρ b ρ' := fun c A σ H Q R f q =>
  h c A σ H _ R f fun v A1 H1 R1 f1 S1 o1 => ⟨b, bool_v o1, q A1 H1 R1 f1 S1⟩
theorem et_not {tt : TT} {b : Bool} (h : Et tt ρ b ρ') : Et (tNot tt) ρ (!b) ρ' := fun c A σ H Q R f q => h c A σ H _ R f q
/-- b isn't asked where a is false: then all stays as a leaves it -/
theorem et_and {t u : TT} {a b : Bool} (h : Et t ρ a ρ1) (g : a = true → Et u ρ1 b ρ2) (hn : a = false → ρ2 = ρ1 := by intros; rfl) : Et (tAnd t u) ρ (a && b) ρ2 := fun c A σ H Q R f q =>
  h c A σ H _ R f fun A1 H1 R1 f1 S1 => by
    cases a with
    | true => exact g rfl c A1 σ H1 _ R1 f1 fun A2 H2 R2 f2 S2 => q A2 H2 R2 f2 (S1.trans S2)
    | false => exact q A1 H1 (by rw [hn rfl]; exact R1) f1 S1
theorem et_or {t u : TT} {a b : Bool} (h : Et t ρ a ρ1) (g : a = false → Et u ρ1 b ρ2) (hn : a = true → ρ2 = ρ1 := by intros; rfl) : Et (tOr t u) ρ (a || b) ρ2 := fun c A σ H Q R f q =>
  h c A σ H _ R f fun A1 H1 R1 f1 S1 => by
    cases a with
    | false => exact g rfl c A1 σ H1 _ R1 f1 fun A2 H2 R2 f2 S2 => q A2 H2 R2 f2 (S1.trans S2)
    | true => exact q A1 H1 (by rw [hn rfl]; exact R1) f1 S1
theorem ev_andV {a b : Bool} (h : Ev ta ρ (.d (.bool a)) ρ1) (g : a = true → Ev tb ρ1 (.d (.bool b)) ρ2) (hn : a = false → ρ2 = ρ1 := by intros; rfl) : Ev (tAndV ta tb) ρ (.d (.bool (a && b))) ρ2 := fun c A σ H Q R f q =>
  h c A σ H _ R f fun v A1 H1 R1 f1 S1 o1 => ⟨a, bool_v o1, by
    cases a with
    | true => exact g rfl c A1 σ H1 _ R1 f1 fun v A2 H2 R2 f2 S2 o2 => q v A2 H2 R2 f2 (S1.trans S2) o2
    | false => exact q _ A1 H1 (by rw [hn rfl]; exact R1) f1 S1 (.bl false)⟩
theorem ev_orV {a b : Bool} (h : Ev ta ρ (.d (.bool a)) ρ1) (g : a = false → Ev tb ρ1 (.d (.bool b)) ρ2) (hn : a = true → ρ2 = ρ1 := by intros; rfl) : Ev (tOrV ta tb) ρ (.d (.bool (a || b))) ρ2 := fun c A σ H Q R f q =>
  h c A σ H _ R f fun v A1 H1 R1 f1 S1 o1 => ⟨a, bool_v o1, by
    cases a with
    | false => exact g rfl c A1 σ H1 _ R1 f1 fun v A2 H2 R2 f2 S2 o2 => q v A2 H2 R2 f2 (S1.trans S2) o2
    | true => exact q _ A1 H1 (by rw [hn rfl]; exact R1) f1 S1 (.bl true)⟩
theorem ev_notV {a : Bool} (h : Ev ta ρ (.d (.bool a)) ρ1) : Ev (tNotV ta) ρ (.d (.bool (!a))) ρ1 := fun c A σ H Q R f q =>
  h c A σ H _ R f fun v A1 H1 R1 f1 S1 o1 => ⟨a, bool_v o1, q _ A1 H1 R1 f1 S1 (.bl _)⟩
theorem ev_if {t : TT} {b : Bool} (h : Et t ρ b ρ1) (h1 : b = true → Ev ta ρ1 s ρ2) (h2 : b = false → Ev tb ρ1 s ρ2) : Ev (tIf t ta tb) ρ s ρ2 := fun c A σ H Q R f q =>
  h c A σ H _ R f fun A1 H1 R1 f1 S1 => by
    cases b with
    | true => exact h1 rfl c A1 σ H1 _ R1 f1 fun v A2 H2 R2 f2 S2 o2 => q v A2 H2 R2 f2 (S1.trans S2) o2
    | false => exact h2 rfl c A1 σ H1 _ R1 f1 fun v A2 H2 R2 f2 S2 o2 => q v A2 H2 R2 f2 (S1.trans S2) o2
theorem el_if {t : TT} {b : Bool} (h : Et t ρ b ρ1) (h1 : b = true → El ta ρ1 xs ρ2) (h2 : b = false → El tb ρ1 xs ρ2) : El (tIf t ta tb) ρ xs ρ2 := fun c A σ H Q R f q =>
  h c A σ H _ R f fun A1 H1 R1 f1 S1 => by
    cases b with
    | true => exact h1 rfl c A1 σ H1 _ R1 f1 fun a vs A2 H2 R2 f2 S2 => q a vs A2 H2 R2 f2 (S1.trans S2)
    | false => exact h2 rfl c A1 σ H1 _ R1 f1 fun a vs A2 H2 R2 f2 S2 => q a vs A2 H2 R2 f2 (S1.trans S2)
theorem eo_none : Eo tNoPart ρ none ρ := fun c A σ H Q R f q => q A H R f (Same.refl _)
theorem eo_some {n : Int} (h : Ev te ρ (.d (.int n)) ρ') : Eo (tPart te) ρ (some n) ρ' := fun c A σ H Q R f q =>
  h c A σ H _ R f fun v A1 H1 R1 f1 S1 o1 => ⟨n, int_v o1, q A1 H1 R1 f1 S1⟩
end
end OW
set_option Elab.async false
set_option linter.unusedVariables false
set_option linter.unusedSectionVars false
set_option maxRecDepth 100000
set_option maxHeartbeats 1000000
namespace OW
open PySem PySem.Spec PyProof.Rows L2 KA
variable [Tbs]
/-! ### promises -/
noncomputable def hz (Z : Addr → Prop) (H : Hp) : Hp := vw Z (fun _ => none) H
theorem hz_some {Z : Addr → Prop} {H : Hp} {b : Addr} {o : HO} (h : hz Z H b = some o) : ¬ Z b ∧ H b = some o := ⟨(vw_some h).1, (vw_some h).2.2⟩
theorem hz_mk {Z : Addr → Prop} {H : Hp} {b : Addr} {o : HO} (h : ¬ Z b) (e : H b = some o) : hz Z H b = some o := vw_mk h (fun i z => by cases z) e
abbrev zz (Z : Addr → Prop) (A : Am) : Addr → Prop := fun b => Z b ∨ ∃ i, A i = some b
theorem hz_eq {Z : Addr → Prop} {A : Am} {H : Hp} : hz (zz Z A) H = vw Z A H := by
  funext b
  by_cases h : zz Z A b
  · have e1 : vw Z A H b = none := by unfold vw; rw [if_pos h]
    have e2 : hz (zz Z A) H b = none := by unfold hz vw; rw [if_pos (Or.inl h)]
    rw [e1, e2]
  · have e1 : vw Z A H b = H b := by unfold vw; rw [if_neg h]
    have e2 : hz (zz Z A) H b = H b := by
      unfold hz vw
      rw [if_neg]
      rintro (z | ⟨i, z⟩)
      · exact h z
      · cases z
    rw [e1, e2]
theorem vw_hz {Z : Addr → Prop} {A : Am} {H : Hp} : Same (vw Z A H) (hz Z H) := fun b o e => hz_mk (vw_some e).1 (vw_some e).2.2
inductive Rv where
  | d (x : PyData)
  | l (xs : List PyData)
  | p (P : Mo)
def RvOk (Z : Addr → Prop) (H H' : Hp) (v : V) : Rv → Prop
  | .d x => Dn (hz Z H') v x
  | .l xs => ∃ a vs, v = .ref a ∧ H a = none ∧ H' a = some (.lst vs) ∧ DnAll (hid a (hz Z H')) vs xs
  | .p P => P.P v (hz Z H')
structure ZOk (Z : Addr → Prop) (H : Hp) : Prop where
  there : ∀ a, Z a → H a ≠ none
  tz : ∀ a, tabA a → Z a
  tb : Tb (hz Z H) H
/-- behind a call: all but the tables stays, the tables are good -/
structure Aft (Z : Addr → Prop) (H H' : Hp) : Prop where
  same : ∀ b o, H b = some o → ¬ tabA b → H' b = some o
  tb : Tb (hz Z H') H'
theorem Aft.of {Z : Addr → Prop} {H H' : Hp} (S : Same H H') (t : Tb (hz Z H) H) : Aft Z H H' := ⟨fun b o e _ => S b o e, t.mono (vw_up S) (t.same S)⟩
def spD (n : Nat) (T : List Sl → (Rv → Prop) → Prop) : Sp := fun vs H Q _ => ∃ (Z : Addr → Prop) (as : List Sl) (K : Rv → Prop), ZOk Z H ∧ ArAll (hz Z H) vs as ∧ as.length = n ∧ T as K ∧
  ∀ r v H', K r → Aft Z H H' → RvOk Z H H' v r → Q v H'
def spB (n : Nat) (T : List PyData → List Sl → (Rv → List PyData → Prop) → Prop) : Sp := fun vs H Q _ => ∃ (Z : Addr → Prop) (p : Addr) (cs : List V) (c : List PyData) (ws : List V) (as : List Sl) (K : Rv → List PyData → Prop),
  vs = .ref p :: ws ∧ Z p ∧ ZOk Z H ∧ H p = some (.lst cs) ∧ DnAll (hz Z H) cs c ∧ ArAll (hz Z H) ws as ∧ as.length = n ∧ T c as K ∧
  ∀ r c' cs' v H', K r c' → H' p = some (.lst cs') → DnAll (hz Z H') cs' c' → ((∀ a, Z a → a ≠ p → ¬ tabA a → H' a = H a) ∧ Tb (hz Z H') H') → Same (hz Z H) (hz Z H') → RvOk Z H H' v r → Q v H'
section
variable {c : Fr} {A : Am} {ρ ρ' ρ1 ρ2 : List Sl} {σ : L2.St} {H H' : Hp} {ta te : TE} {tr : TA} {x : PyData} {xs : List PyData} {s : Sl} {ss ds : List Sl} {i : Nat}
theorem vw_adopt {Z : Addr → Prop} {a : Addr} : Same (hid a (vw Z A H)) (vw Z (aset A fl (some a)) H) := fun b o e => by
  obtain ⟨n, e⟩ := hid_some e
  obtain ⟨h1, h2, h3⟩ := vw_some e
  refine vw_mk h1 (fun j z => ?_) h3
  by_cases q : j = fl
  · rw [q, aset_at] at z
    exact n (Option.some.inj z).symm
  · rw [aset_ne q] at z
    exact h2 j z
theorem zz_ok (R : Rp c A ρ σ H) : ZOk (zz c.Z A) H where
  there a z := by
    rcases z with z | ⟨i, z⟩
    · exact R.there z
    · exact R.live _ _ z
  tz a t := Or.inl (R.tz a t)
  tb := by rw [hz_eq]; exact R.tb
theorem vw_upA (R : Rp c A ρ σ H) (S : Aft (zz c.Z A) H H') : Same (vw c.Z A H) (vw c.Z A H') := fun b o e => by
  obtain ⟨h1, h2, h3⟩ := vw_some e
  exact vw_mk h1 h2 (S.same b o h3 fun t => h1 (R.tz b t))
theorem Rp.upA (R : Rp c A ρ σ H) (S : Aft (zz c.Z A) H H') : Rp c A ρ σ H' where
  len := R.len
  sz := R.sz
  inj := R.inj
  off := R.off
  live i a e := by
    obtain ⟨o, h⟩ := Option.ne_none_iff_exists'.mp (R.live i a e)
    rw [S.same _ _ h (R.nt e)]
    simp
  keep a z t := by
    obtain ⟨h1, h2⟩ := R.keep a z t
    refine ⟨h1, ?_⟩
    obtain ⟨o, h⟩ := Option.ne_none_iff_exists'.mp h1
    rw [h] at h2 ⊢
    exact S.same _ _ h2 t
  old := R.old.trans (vw_upA R S)
  bor := R.bor
  sl i s e := (R.sl i s e).mono (vw_upA R S) fun a vs e' h => S.same _ _ h (R.nt e')
  tz := R.tz
  tb := by have t := S.tb; rw [hz_eq] at t; exact t
theorem Rp.adopt (R : Rp c A ρ σ H) (S : Aft (zz c.Z A) H H') {a : Addr} {vs : List V} (n : H a = none) (e : H' a = some (.lst vs)) : Rp c (aset A fl (some a)) ρ σ H' := by
  have S1 : Aft (zz c.Z A) H (hid a H') := by
    refine ⟨fun b o z t => ?_, fun p hp => ?_⟩
    · rw [hid_ne (ne_of_none z n)]
      exact S.same b o z t
    · obtain ⟨ps, g1, g2, g3⟩ := S.tb p hp
      refine ⟨ps, ?_, g2, fun pos cv h => ?_⟩
      · rw [hid_ne]
        · exact g1
        · intro q
          rw [q, e] at g1
          cases g1
      · obtain ⟨c', k1, k2⟩ := g3 pos cv h
        refine ⟨c', k1, ?_⟩
        obtain ⟨m1, m2⟩ := hz_some k2
        refine hz_mk m1 ?_
        rw [hid_ne]
        · exact m2
        · intro q
          rw [q, e] at m2
          have m3 := Option.some.inj m2
          unfold LamX.CodeO at m3
          cases m3
  have R1 := (R.upA S1).fly (a := a) (o := .lst vs) hid_at
  have e1 : upd (hid a H') a (.lst vs) = H' := by
    funext b
    by_cases q : b = a
    · rw [q, upd_same, e]
    · rw [upd_ne q, hid_ne q]
  rw [e1] at R1
  exact R1
theorem ev_call {n : Nat} {T : List Sl → (Rv → Prop) → Prop} {dvs : List V} {E : XK} (h : Es tr ρ ss ρ') (hd : ∀ W, ArAll W dvs ds) (hn : (ss ++ ds).length = n) (g : T (ss ++ ds) fun r => r = .d x) : Ev (tCall (spD n T) dvs E tr) ρ (.d x) ρ' := fun c A σ H Q R f q =>
  h c A σ H _ R f fun vs A1 H1 R1 f1 S1 o1 => by
    refine ⟨zz c.Z A1, ss ++ ds, _, zz_ok R1, by rw [hz_eq]; exact o1.append (hd _), hn, g, fun r v H' hr S o => ?_⟩
    · subst hr
      have o : Dn (hz (zz c.Z A1) H') v x := o
      rw [hz_eq] at o
      exact q v A1 H' (R1.upA S) f1 (S1.trans (vw_upA R1 S)) o
theorem evp_call {n : Nat} {T : List Sl → (Rv → Prop) → Prop} {dvs : List V} {E : XK} {P : Mo} (h : Es tr ρ ss ρ') (hd : ∀ W, ArAll W dvs ds) (hn : (ss ++ ds).length = n) (g : T (ss ++ ds) fun r => r = .p P) : Ev (tCall (spD n T) dvs E tr) ρ (.p P) ρ' := fun c A σ H Q R f q =>
  h c A σ H _ R f fun vs A1 H1 R1 f1 S1 o1 => by
    refine ⟨zz c.Z A1, ss ++ ds, _, zz_ok R1, by rw [hz_eq]; exact o1.append (hd _), hn, g, fun r v H' hr S o => ?_⟩
    · subst hr
      have o : P.P v (hz (zz c.Z A1) H') := o
      rw [hz_eq] at o
      exact q v A1 H' (R1.upA S) f1 (S1.trans (vw_upA R1 S)) o
theorem el_call {n : Nat} {T : List Sl → (Rv → Prop) → Prop} {dvs : List V} {E : XK} (h : Es tr ρ ss ρ') (hd : ∀ W, ArAll W dvs ds) (hn : (ss ++ ds).length = n) (g : T (ss ++ ds) fun r => r = .l xs) : El (tCall (spD n T) dvs E tr) ρ xs ρ' := fun c A σ H Q R f q =>
  h c A σ H _ R f fun vs A1 H1 R1 f1 S1 o1 => by
    refine ⟨zz c.Z A1, ss ++ ds, _, zz_ok R1, by rw [hz_eq]; exact o1.append (hd _), hn, g, fun r v H' hr S o => ?_⟩
    · subst hr
      obtain ⟨a, us, rfl, n, e, dx⟩ := o
      rw [hz_eq] at dx
      refine q a us _ H' (R1.adopt S n e) aset_at (S1.trans ?_) e (DnAll.mono vw_adopt dx)
      exact fun b o z => vw_adopt (A := A1) b o (by rw [hid_ne (ne_of_none (vw_some z).2.2 n)]; exact vw_upA R1 S _ _ z)
theorem ar_nil : ∀ W : Hp, ArAll W [] [] := fun _ => trivial
theorem Rp.back (R : Rp c A ρ σ H) {i : Nat} {p : Addr} {c0 c1 : List PyData} {cs : List V} (h : ρ[i]? = some (.l c0)) (e : A i = some p) (e' : H' p = some (.lst cs)) (dx : DnAll (hz (zz c.Z A) H') cs c1) (hz' : (∀ a, zz c.Z A a → a ≠ p → ¬ tabA a → H' a = H a) ∧ Tb (hz (zz c.Z A) H') H') (S : Same (hz (zz c.Z A) H) (hz (zz c.Z A) H')) :
    Rp c A (ρ.set i (.l c1)) σ H' := by
  have ev : vw c.Z A (fun b => if b = p then H p else H' b) = vw c.Z A H' := by
    funext b
    unfold vw
    split
    · rfl
    · rename_i q
      have : b ≠ p := fun z => q (Or.inr ⟨i, z ▸ e⟩)
      exact if_neg this
  have S2 : Aft (zz c.Z A) H (fun b => if b = p then H p else H' b) := by
    refine ⟨fun b o z t => ?_, ?_⟩
    · show (if b = p then H p else H' b) = some o
      by_cases q : b = p
      · rw [if_pos q, ← q]
        exact z
      · rw [if_neg q]
        by_cases q' : zz c.Z A b
        · rw [hz'.1 b q' q t]
          exact z
        · exact (hz_some (S _ _ (hz_mk q' z))).2
    · have t := hz'.2
      rw [hz_eq] at t ⊢
      rw [ev]
      exact t.mono (Same.refl _) fun b hb => if_neg (show ¬ b = p from fun q => R.nt e (q ▸ hb))
  have R2 := R.upA S2
  have R3 := R2.mut (vs := cs) (xs := c1) h e (by rw [ev, ← hz_eq]; exact dx)
  have e3 : upd (fun b => if b = p then H p else H' b) p (.lst cs) = H' := by
    funext b
    by_cases q : b = p
    · rw [q, upd_same, e']
    · rw [upd_ne q]
      exact if_neg q
  rw [e3] at R3
  exact R3
theorem vw_back {Z : Addr → Prop} (S : Same (hz (zz Z A) H) (hz (zz Z A) H')) : Same (vw Z A H) (vw Z A H') := by
  rw [hz_eq, hz_eq] at S
  exact S
theorem ev_callB {n : Nat} {T : List PyData → List Sl → (Rv → List PyData → Prop) → Prop} {dvs : List V} {E : XK} {c00 c0 c1 : List PyData} (h0 : ρ[i]? = some (.l c00)) (h : Es tr ρ ss ρ1) (hi : ρ1[i]? = some (.l c0)) (hd : ∀ W, ArAll W dvs ds) (hn : (ss ++ ds).length = n) (g : T c0 (ss ++ ds) fun r c' => r = .d x ∧ c' = c1) :
    Ev (tCall (spB n T) dvs E (tCons (tVar i) tr)) ρ (.d x) (ρ1.set i (.l c1)) := fun c A σ H Q R f q => by
  obtain ⟨p0, _, _, e0, _, _⟩ := R.sl i _ h0
  refine ⟨_, e0, h c A σ H _ R f fun vs A1 H1 R1 f1 S1 o1 => ?_⟩
  obtain ⟨p, cs, ep, e1, eH, dc⟩ := R1.sl i _ hi
  rw [e0] at e1
  cases e1
  refine ⟨zz c.Z A1, p0, cs, c0, vs ++ dvs, ss ++ ds, _, rfl, Or.inr ⟨i, ep⟩, zz_ok R1, eH, by rw [hz_eq]; exact dc, by rw [hz_eq]; exact o1.append (hd _), hn, g, fun r c' cs' v H' hr e' dc' k S o => ?_⟩
  · obtain ⟨rfl, rfl⟩ := hr
    have o : Dn (hz (zz c.Z A1) H') v x := o
    have R2 := R1.back hi ep e' dc' k S
    rw [hz_eq] at o
    exact q v A1 H' R2 f1 (S1.trans (vw_back S)) o
end
end OW
set_option Elab.async false
set_option linter.unusedVariables false
set_option linter.unusedSectionVars false
set_option maxRecDepth 100000
set_option maxHeartbeats 1000000
namespace OW
open PySem PySem.Spec PyProof.Rows L2 KA
variable [Tbs]
/-! ### statements -/
structure KK where
  nx : List Sl → Prop
  rt : Rv → List Sl → Prop
  bk : List Sl → Prop := fun _ => False
  ct : List Sl → Prop := fun _ => False
def RvAt (c : Fr) (A : Am) (H : Hp) (v : V) : Rv → Prop
  | .d x => A fl = none ∧ Dn (vw c.Z A H) v x
  | .l xs => ∃ a vs, A fl = some a ∧ v = .ref a ∧ H a = some (.lst vs) ∧ DnAll (vw c.Z A H) vs xs
  | .p P => A fl = none ∧ P.P v (vw c.Z A H)
structure DK (c : Fr) (K : KK) (D : Ends) : Prop where
  nx : ∀ ρ A σ H, K.nx ρ → Rp c A ρ σ H → A fl = none → D.nx σ H
  rt : ∀ r ρ v A σ H, K.rt r ρ → Rp c A ρ σ H → RvAt c A H v r → D.rt v H
  bk : ∀ ρ A σ H, K.bk ρ → Rp c A ρ σ H → A fl = none → D.bk σ H
  ct : ∀ ρ A σ H, K.ct ρ → Rp c A ρ σ H → A fl = none → D.ct σ H
def Sm (t : TS) (ρ : List Sl) (K : KK) : Prop := ∀ (c : Fr) (A : Am) (σ : L2.St) (H : Hp) (D : Ends), Rp c A ρ σ H → A fl = none → DK c K D → t D σ H
/-- a target takes s -/
def Tg (g : TG) (s : Sl) (ρ ρ' : List Sl) : Prop := ∀ (c : Fr) (A : Am) (σ : L2.St) (H : Hp) (v : V) (Q : L2.St → Hp → Prop), Rp c A ρ σ H → A fl = none → ArOk (vw c.Z A H) v s →
  (∀ A' σ' H', Rp c A' ρ' σ' H' → A' fl = none → Same (vw c.Z A H) (vw c.Z A' H') → Q σ' H') → g v σ H Q
def Tgs (g : TGs) (ss : List Sl) (ρ ρ' : List Sl) : Prop := ∀ (c : Fr) (A : Am) (σ : L2.St) (H : Hp) (vs : List V) (Q : L2.St → Hp → Prop), Rp c A ρ σ H → A fl = none → ArAll (vw c.Z A H) vs ss →
  (∀ A' σ' H', Rp c A' ρ' σ' H' → A' fl = none → Same (vw c.Z A H) (vw c.Z A' H') → Q σ' H') → g vs σ H Q
section
variable {ρ ρ' ρ1 ρ2 : List Sl} {te ta tb : TE} {s s' : Sl} {x y : PyData} {i : Nat} {tr : TA} {xs ys : List PyData} {ss : List Sl} {t u : TS} {K : KK} {g : TG} {gs : TGs} {KF : PySem.W.Frag}
theorem ArOk.sl {W H : Hp} {v : V} : ∀ {s : Sl}, ArOk W v s → SlOk W H (some (some v)) none s
  | .d _, h => ⟨rfl, v, rfl, h⟩
  | .p _, h => ⟨rfl, v, rfl, h⟩
  | .un, h | .any, h | .l _, h | .la _ _, h | .wa _ _, h | .dk _, h | .lm _, h => h.elim
theorem tg_name (i0 : i ≠ 0 := by decide) (i1 : i ≠ fl := by decide) : Tg (gName i) s ρ (ρ.set i s) := fun c A σ H v Q R f o q =>
  q _ _ H (R.set i0 o.sl) (by rw [aset_ne i1.symm]; exact f) vw_land
theorem tgs_nil : Tgs gNil [] ρ ρ := fun c A σ H vs Q R f o q => by
  cases vs with
  | nil => exact ⟨rfl, q A σ H R f (Same.refl _)⟩
  | cons _ _ => exact o.elim
theorem tgs_cons (h : Tg g s ρ ρ1) (k : Tgs gs ss ρ1 ρ2) : Tgs (gCons g gs) (s :: ss) ρ ρ2 := fun c A σ H vs Q R f o q => by
  cases vs with
  | nil => exact o.elim
  | cons v vs => exact ⟨v, vs, rfl, h c A σ H v _ R f o.1 fun A1 σ1 H1 R1 f1 S1 => k c A1 σ1 H1 vs _ R1 f1 (o.2.mono S1) fun A2 σ2 H2 R2 f2 S2 => q A2 σ2 H2 R2 f2 (S1.trans S2)⟩
theorem tg_tup {n : Nat} (h : Tgs gs (xs.map Sl.d) ρ ρ1) (len : xs.length = n := by rfl) : Tg (gTup KF n gs) (.d (.tuple xs)) ρ ρ1 := fun c A σ H v Q R f o q => by
  obtain ⟨a, vs, rfl, e, dx⟩ := tup_v o
  exact ⟨a, vs, rfl, SqT.of (vw_sub _ _ e), dx.length.trans len, h c A σ H vs _ R f (arAll_d dx) q⟩
theorem sm_next (k : K.nx ρ) : Sm tNext ρ K := fun c A σ H D R f dk => dk.nx _ _ _ _ k R f
theorem sm_seq (h : Sm t ρ { K with nx := fun ρ' => Sm u ρ' K }) : Sm (tSeq t u) ρ K := fun c A σ H D R f dk =>
  h c A σ H { D with nx := u D } R f ⟨fun ρ' A' σ' H' hk R' f' => hk c A' σ' H' D R' f' dk, dk.rt, dk.bk, dk.ct⟩
theorem sm_break (k : K.bk ρ) : Sm tBreak ρ K := fun c A σ H D R f dk => dk.bk _ _ _ _ k R f
theorem sm_cont (k : K.ct ρ) : Sm tCont ρ K := fun c A σ H D R f dk => dk.ct _ _ _ _ k R f
theorem sm_asg (h : Ev te ρ s ρ1) (hg : Tg g s ρ1 ρ2) (k : K.nx ρ2) : Sm (tAsg te g) ρ K := fun c A σ H D R f dk =>
  h c A σ H _ R f fun v A1 H1 R1 f1 S1 o1 => hg c A1 σ H1 v _ R1 f1 o1 fun A2 σ2 H2 R2 f2 S2 => dk.nx _ _ _ _ k R2 f2
theorem sm_set (h : Ev te ρ s ρ1) (k : K.nx (ρ1.set i s)) (i0 : i ≠ 0 := by decide) (i1 : i ≠ fl := by decide) : Sm (tAsg te (gName i)) ρ K := sm_asg h (tg_name i0 i1) k
theorem sm_setL (h : El te ρ xs ρ1) (k : K.nx (ρ1.set i (.l xs))) (i0 : i ≠ 0 := by decide) (hi : i < ρ1.length := by simp [uns]) : Sm (tAsg te (gName i)) ρ K := fun c A σ H D R f dk =>
  h c A σ H _ R f fun a vs A1 H1 R1 f1 S1 e dx => dk.nx _ _ _ _ k (R1.setL i0 hi f1 e dx) aset_at
theorem sm_drop (h : Ev te ρ s ρ1) (k : K.nx ρ1) : Sm (tDrop te) ρ K := fun c A σ H D R f dk => h c A σ H _ R f fun v A1 H1 R1 f1 S1 o1 => dk.nx _ _ _ _ k R1 f1
theorem sm_ret (h : Ev te ρ (.d x) ρ1) (k : K.rt (.d x) ρ1) : Sm (tRet te) ρ K := fun c A σ H D R f dk => h c A σ H _ R f fun v A1 H1 R1 f1 S1 o1 => dk.rt _ _ v _ σ _ k R1 ⟨f1, o1⟩
theorem sm_retP {P : Mo} (h : Ev te ρ (.p P) ρ1) (k : K.rt (.p P) ρ1) : Sm (tRet te) ρ K := fun c A σ H D R f dk => h c A σ H _ R f fun v A1 H1 R1 f1 S1 o1 => dk.rt _ _ v _ σ _ k R1 ⟨f1, o1⟩
theorem sm_retL (h : El te ρ xs ρ1) (k : K.rt (.l xs) ρ1) : Sm (tRet te) ρ K := fun c A σ H D R f dk => h c A σ H _ R f fun a vs A1 H1 R1 f1 S1 e dx => dk.rt _ _ _ _ σ _ k R1 ⟨a, vs, f1, rfl, e, dx⟩
/-- the list in a slot is told (the slot isn't the caller's) -/
theorem vw_toFl {Z : Addr → Prop} {A : Am} {H : Hp} {a : Addr} (e : A i = some a) : Same (vw Z A H) (vw Z (aset (aset A i none) fl (some a)) H) := vw_less fun j b z => by
  by_cases q : j = fl
  · rw [q, aset_at] at z
    exact ⟨i, by rw [e, ← z]⟩
  · rw [aset_ne q] at z
    by_cases q' : j = i
    · rw [q', aset_at] at z
      cases z
    · rw [aset_ne q'] at z
      exact ⟨j, z⟩
theorem Rp.toFl {c : Fr} {A : Am} {σ : L2.St} {H : Hp} (R : Rp c A ρ σ H) {a : Addr} (i0 : i ≠ 0) (h : ρ[i]? = some (.l xs)) (e : A i = some a) : Rp c (aset (aset A i none) fl (some a)) (ρ.set i .any) σ H := by
  have ni : i ≠ fl := idx_small R.sz h
  have back : ∀ j b, aset (aset A i none) fl (some a) j = some b → (j = fl ∧ b = a) ∨ (j ≠ i ∧ j ≠ fl ∧ A j = some b) := fun j b z => by
    by_cases q : j = fl
    · rw [q, aset_at] at z
      exact Or.inl ⟨q, (Option.some.inj z).symm⟩
    · rw [aset_ne q] at z
      by_cases q' : j = i
      · rw [q', aset_at] at z
        cases z
      · rw [aset_ne q'] at z
        exact Or.inr ⟨q', q, z⟩
  refine ⟨by rw [List.length_set, R.len], by rw [List.length_set]; exact R.sz, ?_, ?_, ?_, R.keep, R.old.trans (vw_toFl e), ?_, ?_, R.tz, R.tb.mono (vw_toFl e) fun _ _ => rfl⟩
  · intro k j b z z'
    rcases back k b z with ⟨q1, q2⟩ | ⟨n1, n2, y⟩
    · rcases back j b z' with ⟨q3, _⟩ | ⟨n3, n4, y'⟩
      · rw [q1, q3]
      · exact absurd (R.inj _ _ _ (q2 ▸ y') e) n3
    · rcases back j b z' with ⟨q3, q4⟩ | ⟨n3, n4, y'⟩
      · exact absurd (R.inj _ _ _ (q4 ▸ y) e) n1
      · exact R.inj _ _ _ y y'
  · intro j b z
    rcases back j b z with ⟨_, q⟩ | ⟨_, _, y⟩
    · rw [q]
      exact R.off _ _ e
    · exact R.off _ _ y
  · intro j b z
    rcases back j b z with ⟨_, q⟩ | ⟨_, _, y⟩
    · rw [q]
      exact R.live _ _ e
    · exact R.live _ _ y
  · intro p z
    rw [aset_ne (by decide), aset_ne i0.symm]
    exact R.bor p z
  · intro j t z
    by_cases q : j = i
    · subst q
      have lt := (List.getElem?_eq_some_iff.mp h).1
      rw [List.getElem?_set_self lt] at z
      cases z
      show aset (aset A j none) fl (some a) j = none
      rw [aset_ne ni, aset_at]
    · rw [List.getElem?_set_ne (Ne.symm q)] at z
      rw [aset_ne (idx_small R.sz z), aset_ne q]
      exact (R.sl j t z).mono (vw_toFl e) fun _ _ _ h => h
theorem el_var (h : ρ[i]? = some (.l xs)) (i0 : i ≠ 0 := by decide) : El (tVar i) ρ xs (ρ.set i .any) := fun c A σ H Q R f q => by
  obtain ⟨a, vs, e, e1, e2, dx⟩ := R.sl i _ h
  exact ⟨_, e1, q a vs _ H (R.toFl i0 h e) aset_at (vw_toFl e) e2 (DnAll.mono (vw_toFl e) dx)⟩
theorem sm_retN (k : K.rt (.d .none) ρ) : Sm tRetN ρ K := fun c A σ H D R f dk => dk.rt _ _ _ _ σ _ k R ⟨f, .non⟩
theorem sm_if {tt : TT} {b : Bool} (h : Et tt ρ b ρ1) (h1 : b = true → Sm t ρ1 K) (h2 : b = false → Sm u ρ1 K) : Sm (tIfS tt t u) ρ K := fun c A σ H D R f dk =>
  h c A σ H _ R f fun A1 H1 R1 f1 S1 => by
    cases b with
    | true => exact h1 rfl c A1 σ H1 D R1 f1 dk
    | false => exact h2 rfl c A1 σ H1 D R1 f1 dk
theorem sm_mono {K K' : KK} (h : Sm t ρ K) (nx : ∀ ρ, K.nx ρ → K'.nx ρ) (rt : ∀ r ρ, K.rt r ρ → K'.rt r ρ) (bk : ∀ ρ, K.bk ρ → K'.bk ρ) (ct : ∀ ρ, K.ct ρ → K'.ct ρ) : Sm t ρ K' := fun c A σ H D R f dk =>
  h c A σ H D R f ⟨fun ρ A σ H k => dk.nx ρ A σ H (nx ρ k), fun r ρ v A σ H k => dk.rt r ρ v A σ H (rt r ρ k), fun ρ A σ H k => dk.bk ρ A σ H (bk ρ k), fun ρ A σ H k => dk.ct ρ A σ H (ct ρ k)⟩
/-! loops -/
theorem dn_at {H : Hp} {xs : List V} {ds : List PyData} {i : Nat} {x : V} (r : DnAll H xs ds) (h : xs[i]? = some x) : ∃ d, ds[i]? = some d ∧ Dn H x d := by
  have lt := (List.getElem?_eq_some_iff.mp h).1
  have lt' : i < ds.length := by rw [← r.length]; exact lt
  obtain ⟨v, e, dn⟩ := r.get (List.getElem?_eq_getElem lt')
  rw [h] at e
  cases e
  exact ⟨_, List.getElem?_eq_getElem lt', dn⟩
def Fr.to (c : Fr) (F : Hp) : Fr := { c with F := F }
theorem Rp.refr {c : Fr} {A : Am} {σ : L2.St} {H : Hp} (R : Rp c A ρ σ H) : Rp (c.to (vw c.Z A H)) A ρ σ H := ⟨R.len, R.sz, R.inj, R.off, R.live, R.keep, Same.refl _, R.bor, R.sl, R.tz, R.tb⟩
theorem Rp.unfr {c : Fr} {A : Am} {σ : L2.St} {H F : Hp} (R : Rp (c.to F) A ρ σ H) (S : Same c.F F) : Rp c A ρ σ H := ⟨R.len, R.sz, R.inj, R.off, R.live, R.keep, S.trans R.old, R.bor, R.sl, R.tz, R.tb⟩
def Stp (c : Fr) (R : List Sl → Prop) (σ' : L2.St) (H' : Hp) : Prop := ∃ ρ' A', R ρ' ∧ Rp c A' ρ' σ' H' ∧ A' fl = none
theorem DK.body {c : Fr} {F : Hp} {D : Ends} {R : List Sl → Prop} (dk : DK c K D) (S : Same c.F F) : DK (c.to F) { nx := R, ct := R, bk := K.nx, rt := K.rt } { D with nx := Stp (c.to F) R, ct := Stp (c.to F) R, bk := D.nx } :=
  ⟨fun ρ A σ H k R f => ⟨ρ, A, k, R, f⟩, fun r ρ v A σ H k R o => dk.rt r ρ v A σ H k (R.unfr S) o, fun ρ A σ H k R f => dk.nx ρ A σ H k (R.unfr S) f, fun ρ A σ H k R f => ⟨ρ, A, k, R, f⟩⟩
/-- one turn of a loop: its item taken, its suite -/
def Turn (g : TG) (t : TS) (x : Sl) (ρ : List Sl) (R : List Sl → Prop) (K : KK) : Prop := ∃ ρ2, Tg g x ρ ρ2 ∧ Sm t ρ2 { nx := R, ct := R, bk := K.nx, rt := K.rt }
theorem Turn.run {R : List Sl → Prop} (h : Turn g t s ρ R K) {c : Fr} {F : Hp} {A : Am} {σ : L2.St} {H : Hp} {v : V} {D : Ends} (R' : Rp (c.to F) A ρ σ H) (f : A fl = none) (o : ArOk (vw c.Z A H) v s) (S : Same c.F F) (dk : DK c K D) :
    g v σ H fun σ2 H2 => t { D with nx := Stp (c.to F) R, ct := Stp (c.to F) R, bk := D.nx } σ2 H2 := by
  obtain ⟨ρ2, hg, hb⟩ := h
  exact hg (c.to F) A σ H v _ R' f o fun A2 σ2 H2 R2 f2 S2 => hb (c.to F) A2 σ2 H2 _ R2 f2 (dk.body S)
theorem eds_one {c : Fr} {A : Am} {H : Hp} {vs : List V} {W : Hp} (h : DnAll W vs [x]) : ∃ v, vs = [v] ∧ Dn W v x := by
  cases h with
  | cons a b =>
    cases b
    exact ⟨_, rfl, a⟩
theorem sm_forRange {ta : TA} {n : Int} (h : Eds ta ρ [.int n] ρ1) (small : -(2 ^ 62) ≤ n ∧ n < 2 ^ 62) (R : Nat → List Sl → Prop) (h0 : R 0 ρ1)
    (hs : ∀ (j : Nat) ρ', (j : Int) < n → R j ρ' → Turn g t (.d (.int (j : Int))) ρ' (R (j + 1)) K) (hd : ∀ ρ', R n.toNat ρ' → K.nx ρ') : Sm (tFor (iRng1 ta) g t) ρ K := fun c A σ H D R0 f dk =>
  h c A σ H _ R0 f fun vs A1 H1 R1 f1 S1 o1 => by
    obtain ⟨v, rfl, o⟩ := eds_one (c := c) (A := A) (H := H) o1
    obtain rfl := int_v o
    refine ⟨n, rfl, small.1, small.2, for_range (lo := 0) (n := n.toNat) (fun j σ' H' => Stp (c.to (vw c.Z A1 H1)) (R j) σ' H') ⟨ρ1, A1, h0, R1.refr, f1⟩ ?_ ?_⟩
    · rintro j σ' H' hj ⟨ρ', A', r, R', f'⟩
      rw [Int.zero_add]
      exact (hs j ρ' (by omega) r).run R' f' (.int _) R1.old dk
    · rintro σ' H' ⟨ρ', A', r, R', f'⟩
      exact dk.nx _ _ _ _ (hd _ r) (R'.unfr R1.old) f'
theorem sm_forRange2 {ta : TA} {lo n : Int} (h : Eds ta ρ [.int lo, .int n] ρ1) (small : (-(2 ^ 62) ≤ lo ∧ lo < 2 ^ 62) ∧ -(2 ^ 62) ≤ n ∧ n < 2 ^ 62) (R : Nat → List Sl → Prop) (h0 : R 0 ρ1)
    (hs : ∀ (j : Nat) ρ', lo + (j : Int) < n → R j ρ' → Turn g t (.d (.int (lo + (j : Int)))) ρ' (R (j + 1)) K) (hd : ∀ ρ', R (n - lo).toNat ρ' → K.nx ρ') : Sm (tFor (iRng2 ta) g t) ρ K := fun c A σ H D R0 f dk =>
  h c A σ H _ R0 f fun vs A1 H1 R1 f1 S1 o1 => by
    obtain ⟨v, u, rfl, o, o'⟩ : ∃ v u, vs = [v, u] ∧ Dn _ v (.int lo) ∧ Dn _ u (.int n) := by
      cases o1 with
      | cons a b =>
        obtain ⟨u, rfl, o⟩ := eds_one (c := c) (A := A) (H := H) b
        exact ⟨_, _, rfl, a, o⟩
    obtain rfl := int_v o
    obtain rfl := int_v o'
    refine ⟨lo, n, rfl, ⟨small.1.1, small.1.2, small.2.1, small.2.2⟩, for_range (lo := lo) (n := (n - lo).toNat) (fun j σ' H' => Stp (c.to (vw c.Z A1 H1)) (R j) σ' H') ⟨ρ1, A1, h0, R1.refr, f1⟩ ?_ ?_⟩
    · rintro j σ' H' hj ⟨ρ', A', r, R', f'⟩
      exact (hs j ρ' (by omega) r).run R' f' (.int _) R1.old dk
    · rintro σ' H' ⟨ρ', A', r, R', f'⟩
      exact dk.nx _ _ _ _ (hd _ r) (R'.unfr R1.old) f'
theorem sm_forL (h : Ev te ρ (.d (.list xs)) ρ1) (R : Nat → List Sl → Prop) (h0 : R 0 ρ1) (hs : ∀ (j : Nat) x ρ', xs[j]? = some x → R j ρ' → Turn g t (.d x) ρ' (R (j + 1)) K) (hd : ∀ ρ', R xs.length ρ' → K.nx ρ') : Sm (tFor (iList KF te) g t) ρ K := fun c A σ H D R0 f dk =>
  h c A σ H _ R0 f fun v A1 H1 R1 f1 S1 o1 => by
    obtain ⟨a, vs, rfl, e, dx⟩ := lst_v o1
    refine ⟨a, rfl, ⟨_, SqL.of (vw_sub _ _ e)⟩, for_list (xs := vs) (fun j σ' H' => Stp (c.to (vw c.Z A1 H1)) (R j) σ' H') ⟨ρ1, A1, h0, R1.refr, f1⟩ ?_ ?_ ?_⟩
    · rintro j σ' H' _ ⟨ρ', A', r, R', f'⟩
      exact SqL.of (vw_sub _ _ (R'.old _ _ e))
    · rintro j w σ' H' hj ⟨ρ', A', r, R', f'⟩
      obtain ⟨x, hx, dn⟩ := dn_at (DnAll.mono R'.old dx) hj
      exact (hs j x ρ' hx r).run R' f' dn R1.old dk
    · rintro σ' H' ⟨ρ', A', r, R', f'⟩
      rw [dx.length] at r
      exact dk.nx _ _ _ _ (hd _ r) (R'.unfr R1.old) f'
theorem sm_forT (h : Ev te ρ (.d (.tuple xs)) ρ1) (R : Nat → List Sl → Prop) (h0 : R 0 ρ1) (hs : ∀ (j : Nat) x ρ', xs[j]? = some x → R j ρ' → Turn g t (.d x) ρ' (R (j + 1)) K) (hd : ∀ ρ', R xs.length ρ' → K.nx ρ') : Sm (tFor (iTup KF te) g t) ρ K := fun c A σ H D R0 f dk =>
  h c A σ H _ R0 f fun v A1 H1 R1 f1 S1 o1 => by
    obtain ⟨a, vs, rfl, e, dx⟩ := tup_v o1
    refine ⟨a, rfl, ⟨_, SqT.of (vw_sub _ _ e)⟩, for_tup (xs := vs) (fun j σ' H' => Stp (c.to (vw c.Z A1 H1)) (R j) σ' H') ⟨ρ1, A1, h0, R1.refr, f1⟩ ?_ ?_ ?_⟩
    · rintro j σ' H' _ ⟨ρ', A', r, R', f'⟩
      exact SqT.of (vw_sub _ _ (R'.old _ _ e))
    · rintro j w σ' H' hj ⟨ρ', A', r, R', f'⟩
      obtain ⟨x, hx, dn⟩ := dn_at (DnAll.mono R'.old dx) hj
      exact (hs j x ρ' hx r).run R' f' dn R1.old dk
    · rintro σ' H' ⟨ρ', A', r, R', f'⟩
      rw [dx.length] at r
      exact dk.nx _ _ _ _ (hd _ r) (R'.unfr R1.old) f'
theorem sm_while {tt : TT} (W : Nat → List Sl → Prop) (h0 : ∃ m, W m ρ) (hs : ∀ m ρ', W m ρ' → ∃ b ρ2, Et tt ρ' b ρ2 ∧ (b = true → Sm t ρ2 { nx := fun ρ3 => ∃ m', m' < m ∧ W m' ρ3, ct := fun ρ3 => ∃ m', m' < m ∧ W m' ρ3, bk := K.nx, rt := K.rt }) ∧ (b = false → K.nx ρ2)) : Sm (tWhile tt t) ρ K := fun c A σ H D R f dk => by
  obtain ⟨m0, h0⟩ := h0
  refine ⟨fun m σ' H' => Stp c (W m) σ' H', ⟨m0, ρ, A, h0, R, f⟩, ?_⟩
  rintro m σ' H' ⟨ρ', A', r, R', f'⟩
  obtain ⟨b, ρ2, ht, h1, h2⟩ := hs m ρ' r
  refine ht c A' σ' H' _ R' f' fun A2 H2 R2 f2 S2 => ?_
  cases b with
  | true =>
    refine ⟨fun σ3 H3 => ∃ m', m' < m ∧ Stp c (W m') σ3 H3, fun σ3 H3 z => z, h1 rfl c A2 σ' H2 _ R2 f2 ⟨?_, dk.rt, dk.nx, ?_⟩⟩
    · rintro ρ3 A3 σ3 H3 ⟨m', lt, w⟩ R3 f3
      exact ⟨m', lt, ρ3, A3, w, R3, f3⟩
    · rintro ρ3 A3 σ3 H3 ⟨m', lt, w⟩ R3 f3
      exact ⟨m', lt, ρ3, A3, w, R3, f3⟩
  | false => exact dk.nx _ _ _ _ (h2 rfl) R2 f2
end
end OW
set_option Elab.async false
set_option linter.unusedVariables false
set_option linter.unusedSectionVars false
set_option maxRecDepth 100000
set_option maxHeartbeats 1000000
namespace OW
open PySem PySem.Spec PyProof.Rows L2 KA
variable [Tbs]
/-! ### defs -/
section
variable {P : Program} {w : World} {K : PySem.W.Frag} {mg : Str → Option Value} {base : Heap} {c : Fr} {A : Am} {ρ ρ' : List Sl} {σ : L2.St} {H H' : Hp}
theorem arAll_at {W : Hp} : ∀ {vs : List V} {ss : List Sl} {i : Nat} {s : Sl}, ArAll W vs ss → ss[i]? = some s → ∃ v, vs[i]? = some v ∧ ArOk W v s
  | v :: vs, t :: ss, 0, s, h, e => by
    cases e
    exact ⟨v, rfl, h.1⟩
  | v :: vs, t :: ss, i + 1, s, h, e => arAll_at (i := i) h.2 e
  | [], [], _, _, _, e => by cases e
  | [], _ :: _, _, _, h, _ => h.elim
  | _ :: _, [], _, _, h, _ => h.elim
theorem start_len {N : List Str} {vs : List V} {n : Nat} (h : vs.length = n) : (start N vs).length = n + (N.length - n) := by
  unfold L2.start
  rw [List.length_append, List.length_map, List.length_replicate, h]
theorem start_arg {N : List Str} {vs : List V} {i : Nat} {v : V} (h : vs[i]? = some v) : (start N vs)[i]? = some (some v) := by
  unfold L2.start
  have lt := (List.getElem?_eq_some_iff.mp h).1
  rw [List.getElem?_append_left (by rw [List.length_map]; exact lt), List.getElem?_map, h]
  rfl
theorem start_un {N : List Str} {vs : List V} {i : Nat} (h : vs.length ≤ i) (h' : i < vs.length + (N.length - vs.length)) : (start N vs)[i]? = some none := by
  unfold L2.start
  rw [List.getElem?_append_right (by rw [List.length_map]; exact h), List.getElem?_replicate, List.length_map, if_pos (by omega)]
theorem rp_start {N : List Str} {vs : List V} {as : List Sl} {n : Nat} {Z : Addr → Prop} (hN : n + N.length < fl) (hZ : ZOk Z H) (ha : ArAll (hz Z H) vs as) (hl : as.length = n) :
    Rp ⟨Z, none, H, hz Z H⟩ (fun _ => none) (as ++ uns (N.length - n)) (start N vs) H where
  len := by
    have := ha.length
    rw [start_len (this.trans hl), List.length_append, hl, uns, List.length_replicate]
  sz := by
    rw [List.length_append, hl, uns, List.length_replicate]
    omega
  inj i j a e := by cases e
  off i a e := by cases e
  live i a e := by cases e
  keep a z _ := ⟨hZ.there a z, rfl⟩
  old := Same.refl _
  tz := hZ.tz
  tb := hZ.tb
  bor p e := by cases e
  sl i s e := by
    have len := ha.length
    by_cases q : i < as.length
    · rw [List.getElem?_append_left q] at e
      obtain ⟨v, e1, o⟩ := arAll_at ha e
      rw [start_arg e1]
      exact o.sl
    · rw [List.getElem?_append_right (by omega), uns, List.getElem?_replicate] at e
      split at e
      · rename_i lt
        cases e
        rw [start_un (by omega) (by omega)]
        exact ⟨rfl, rfl⟩
      · cases e
theorem rv_out {r : Rv} {v : V} {Z : Addr → Prop} (hF : ∀ b o, H b = some o → ¬ Z b → (c.B ≠ some b) → vw c.Z A H' b = some o) (hZ : ∀ b, Z b → c.Z b ∨ ∃ i, i ≠ fl ∧ A i = some b) (hinj : ∀ i j a, A i = some a → A j = some a → i = j) (hoff : ∀ i a, A i = some a → ¬ c.Z a) (hB : ∀ p, c.B = some p → A 0 = some p) (o : RvAt c A H' v r) : RvOk Z H H' v r := by
  have up : Same (vw c.Z A H') (hz Z H') := fun b o e => by
    obtain ⟨h1, h2, h3⟩ := vw_some e
    refine hz_mk (fun z => ?_) h3
    rcases hZ b z with z | ⟨i, _, z⟩
    · exact h1 z
    · exact h2 i z
  cases r with
  | d x => exact Dn.mono up o.2
  | p P => exact P.mono up o.2
  | l xs =>
    obtain ⟨a, vs, f, rfl, e, dx⟩ := o
    refine ⟨a, vs, rfl, ?_, e, DnAll.mono (fun b o z => ?_) dx⟩
    · cases q : H a with
      | none => rfl
      | some u =>
        have nZ : ¬ Z a := fun z => by
          rcases hZ a z with z | ⟨i, n, z⟩
          · exact hoff _ _ f z
          · exact n (hinj _ _ _ z f)
        have nB : c.B ≠ some a := fun z => by
          have := hinj _ _ _ (hB _ z) f
          exact absurd this (by decide)
        exact absurd f ((vw_some (hF a u q nZ nB)).2.1 fl)
    · rw [hid_ne]
      · exact up _ _ z
      · intro q
        exact (vw_some z).2.1 fl (by rw [q]; exact f)
theorem rp_aft {Z : Addr → Prop} (R : Rp ⟨Z, none, H, hz Z H⟩ A ρ σ H') : Aft Z H H' := ⟨fun b o e t => by
    by_cases z : Z b
    · rw [(R.keep b z t).2]
      exact e
    · exact (vw_some (R.old _ _ (hz_mk z e))).2.2, R.tb.mono (fun b o e => hz_mk (vw_some e).1 (vw_some e).2.2) fun _ _ => rfl⟩
theorem fn_d {x qual : Str} {st : Stmt} {f : Addr} {fd : FuncData} {N ps : List Str} {k n : Nat} {T : List Sl → (Rv → Prop) → Prop} (F : Fun K x qual st f fd) (S : FnScope N ps (defScope st)) (hn : ps.length = n := by rfl) (hN : n + N.length < fl := by decide)
    (body : ∀ (cdv : Value) (A : Around) (outer : List Env) (s : Shared) (H : Hp) (E : XK), Room k (A.deeper (envOfC qual (defScope st) s.heap.objs.size f cdv)) →
      ∃ t, PSs (cxOf CX0 P w K mg base N qual (defScope st) f cdv A outer s H E).nox (defBody st) t ∧ ∀ as Kr, as.length = n → T as Kr → Sm t (as ++ uns (N.length - n)) { nx := fun _ => Kr (.d .none), rt := fun r _ => Kr r }) :
    FnOk P w K mg base CX0 (k + 1) f fd ps (spD n T) := by
  refine F.ok S (fun vs H Q E h => ?_) (fun cdv A outer s H vs Q E hr h => ?_)
  · obtain ⟨Z, as, Kr, hZ, ha, hl, _⟩ := h
    rw [ha.length, hl, hn]
  · obtain ⟨Z, as, Kr, hZ, ha, hl, hT, go⟩ := h
    obtain ⟨t, ht, hb⟩ := body cdv A outer s H E hr
    refine ⟨t, ht, hb as Kr hl hT ⟨Z, none, H, hz Z H⟩ _ _ H _ (rp_start hN hZ ha hl) rfl ?_⟩
    have same : ∀ {A' : Am} {ρ' : List Sl} {σ' : L2.St} {H' : Hp}, Rp ⟨Z, none, H, hz Z H⟩ A' ρ' σ' H' → Aft Z H H' := rp_aft
    refine ⟨fun ρ' A' σ' H' hk R f => go _ _ _ hk (same R) .non, fun r ρ' v A' σ' H' hk R o => go r v H' hk (same R) ?_, fun _ _ _ _ h => h.elim, fun _ _ _ _ h => h.elim⟩
    exact rv_out (fun b o e nz _ => R.old _ _ (hz_mk nz e)) (fun b z => Or.inl z) R.inj R.off R.bor o
theorem rp_startB {N : List Str} {ws cs : List V} {ct : List PyData} {as : List Sl} {n : Nat} {Z : Addr → Prop} {p : Addr} (hN : n + 1 + N.length < fl) (hp : Z p) (hZ : ZOk Z H) (ep : H p = some (.lst cs)) (dc : DnAll (hz Z H) cs ct) (ha : ArAll (hz Z H) ws as) (hl : as.length = n) :
    Rp ⟨fun a => Z a ∧ a ≠ p, some p, H, hz Z H⟩ (aset (fun _ => none) 0 (some p)) (.l ct :: (as ++ uns (N.length - (n + 1)))) (start N (.ref p :: ws)) H := by
  have hv : vw (fun a => Z a ∧ a ≠ p) (aset (fun _ => none) 0 (some p)) H = hz Z H := by
    funext b
    by_cases z : Z b
    · have e2 : hz Z H b = none := by unfold hz vw; rw [if_pos (Or.inl z)]
      rw [e2]
      unfold vw
      rw [if_pos]
      by_cases q : b = p
      · exact Or.inr ⟨0, by rw [q]; exact aset_at⟩
      · exact Or.inl ⟨z, q⟩
    · have e2 : hz Z H b = H b := by
        unfold hz vw
        rw [if_neg]
        rintro (q | ⟨i, q⟩)
        · exact z q
        · cases q
      rw [e2]
      unfold vw
      rw [if_neg]
      rintro (q | ⟨i, q⟩)
      · exact z q.1
      · by_cases i0 : i = 0
        · rw [i0, aset_at] at q
          cases q
          exact z hp
        · rw [aset_ne i0] at q
          cases q
  have one : ∀ {i : Nat} {a : Addr}, aset (fun _ => none) 0 (some p) i = some a → i = 0 ∧ a = p := fun {i a} q => by
    by_cases i0 : i = 0
    · rw [i0, aset_at] at q
      exact ⟨i0, (Option.some.inj q).symm⟩
    · rw [aset_ne i0] at q
      cases q
  have len := ha.length
  have tp : ∀ b, tabA b → b ≠ p := fun b t q => by
    obtain ⟨ps, g⟩ := hZ.tb.at_ t
    rw [q, ep] at g
    cases g
  refine ⟨?_, ?_, ?_, ?_, ?_, ?_, by rw [hv]; exact Same.refl _, ?_, ?_, fun b t => ⟨hZ.tz b t, tp b t⟩, by rw [hv]; exact hZ.tb⟩
  · rw [start_len (n := n + 1) (by rw [List.length_cons]; omega), List.length_cons, List.length_append, hl, uns, List.length_replicate]
    omega
  · rw [List.length_cons, List.length_append, hl, uns, List.length_replicate]
    omega
  · intro i j a e e'
    rw [(one e).1, (one e').1]
  · intro i a e z
    exact z.2 (one e).2
  · intro i a e
    rw [(one e).2, ep]
    simp
  · intro a z _
    exact ⟨hZ.there a z.1, rfl⟩
  · intro q e
    rw [aset_at]
    exact e
  · intro i s e
    rw [hv]
    cases i with
    | zero =>
      cases e
      exact ⟨p, cs, aset_at, start_arg rfl, ep, dc⟩
    | succ i =>
      rw [aset_ne (Nat.succ_ne_zero i)]
      rw [List.getElem?_cons_succ] at e
      by_cases q : i < as.length
      · rw [List.getElem?_append_left q] at e
        obtain ⟨v, e1, o⟩ := arAll_at ha e
        rw [start_arg (v := v) (by rw [List.getElem?_cons_succ]; exact e1)]
        exact o.sl
      · rw [List.getElem?_append_right (by omega), uns, List.getElem?_replicate] at e
        split at e
        · rename_i lt
          cases e
          rw [start_un (by rw [List.length_cons]; omega) (by rw [List.length_cons]; omega)]
          exact ⟨rfl, rfl⟩
        · cases e
theorem fn_b {x qual : Str} {st : Stmt} {f : Addr} {fd : FuncData} {N ps : List Str} {k n : Nat} {T : List PyData → List Sl → (Rv → List PyData → Prop) → Prop} (F : Fun K x qual st f fd) (S : FnScope N ps (defScope st)) (hn : ps.length = n + 1 := by rfl) (hN : n + 1 + N.length < fl := by decide)
    (body : ∀ (cdv : Value) (A : Around) (outer : List Env) (s : Shared) (H : Hp) (E : XK), Room k (A.deeper (envOfC qual (defScope st) s.heap.objs.size f cdv)) →
      ∃ t, PSs (cxOf CX0 P w K mg base N qual (defScope st) f cdv A outer s H E).nox (defBody st) t ∧ ∀ ct as Kr, as.length = n → T ct as Kr →
        Sm t (.l ct :: (as ++ uns (N.length - (n + 1)))) { nx := fun ρ => ∃ c', ρ[0]? = some (.l c') ∧ Kr (.d .none) c', rt := fun r ρ => ∃ c', ρ[0]? = some (.l c') ∧ Kr r c' }) :
    FnOk P w K mg base CX0 (k + 1) f fd ps (spB n T) := by
  refine F.ok S (fun vs H Q E h => ?_) (fun cdv A outer s H vs Q E hr h => ?_)
  · obtain ⟨Z, p, cs, ct, ws, as, Kr, rfl, hp, hZ, ep, dc, ha, hl, _⟩ := h
    rw [List.length_cons, ha.length, hl, hn]
  · obtain ⟨Z, p, cs, ct, ws, as, Kr, rfl, hp, hZ, ep, dc, ha, hl, hT, go⟩ := h
    obtain ⟨t, ht, hb⟩ := body cdv A outer s H E hr
    refine ⟨t, ht, hb ct as Kr hl hT ⟨fun a => Z a ∧ a ≠ p, some p, H, hz Z H⟩ _ _ H _ (rp_startB hN hp hZ ep dc ha hl) rfl ?_⟩
    have fin : ∀ {A' : Am} {ρ' : List Sl} {σ' : L2.St} {H' : Hp} {c' : List PyData} {r : Rv} {v : V}, Rp ⟨fun a => Z a ∧ a ≠ p, some p, H, hz Z H⟩ A' ρ' σ' H' → ρ'[0]? = some (.l c') → Kr r c' → RvAt ⟨fun a => Z a ∧ a ≠ p, some p, H, hz Z H⟩ A' H' v r → Q v H' := by
      intro A' ρ' σ' H' c' r v R h0 hk o
      obtain ⟨a, cs', e1, e2, e3, dc'⟩ := R.sl 0 _ h0
      have := R.bor p rfl
      rw [e1] at this
      cases this
      have up : Same (vw (fun b => Z b ∧ b ≠ p) A' H') (hz Z H') := fun b u e => by
        obtain ⟨h1, h2, h3⟩ := vw_some e
        refine hz_mk (fun z => h1 ⟨z, fun q => h2 0 (by rw [q]; exact e1)⟩) h3
      refine go r c' cs' v H' hk e3 (DnAll.mono up dc') ⟨fun b z n t => (R.keep b ⟨z, n⟩ t).2, R.tb.mono up fun _ _ => rfl⟩ (fun b u e => up _ _ (R.old _ _ e)) ?_
      refine rv_out (fun b u e nz _ => R.old _ _ (hz_mk nz e)) (fun b z => ?_) R.inj R.off R.bor o
      by_cases q : b = p
      · exact Or.inr ⟨0, by decide, by rw [q]; exact e1⟩
      · exact Or.inl ⟨z, q⟩
    refine ⟨fun ρ' A' σ' H' hk R f => ?_, fun r ρ' v A' σ' H' hk R o => ?_, fun _ _ _ _ h => h.elim, fun _ _ _ _ h => h.elim⟩
    · obtain ⟨c', h0, hk⟩ := hk
      exact fin R h0 hk ⟨f, .non⟩
    · obtain ⟨c', h0, hk⟩ := hk
      exact fin R h0 hk o
end
end OW
set_option Elab.async false
set_option linter.unusedVariables false
set_option linter.unusedSectionVars false
set_option maxRecDepth 100000
set_option maxHeartbeats 1000000
namespace OW
open PySem PySem.Spec PyProof.Rows L2 KA
variable [Tbs]
/-! ### walks -/
def Jk (W : Hp) (J : It) (xs : List PyData) : Prop :=
  (∀ (i : Nat) x H, xs[i]? = some x → Same W H → J.go i H ∧ ∀ v H', J.yld i H v H' → Same H H' ∧ ∀ W', Same W W' → (∀ b o, H b = none → H' b = some o → W' b = some o) → Dn W' v x) ∧ ∀ H, Same W H → J.stop xs.length H
theorem Jk.mono {W W' : Hp} {J : It} {xs : List PyData} (h : Jk W J xs) (S : Same W W') : Jk W' J xs := ⟨fun i x H e s => let ⟨a, b⟩ := h.1 i x H e (S.trans s); ⟨a, fun v H' y => let ⟨p, q⟩ := b v H' y; ⟨p, fun W2 s2 k => q W2 (S.trans s2) k⟩⟩, fun H s => h.2 H (S.trans s)⟩
def Fi (wi : TI) (ρ : List Sl) (xs : List PyData) (ρ1 : List Sl) : Prop := ∀ (c : Fr) (A : Am) (σ : L2.St) (H : Hp) (R : It → Hp → Prop), Rp c A ρ σ H → A fl = none →
  (∀ J A' H', Rp c A' ρ1 σ H' → A' fl = none → Same (vw c.Z A H) (vw c.Z A' H') → Jk (vw c.Z A' H') J xs → R J H') → wi σ H R
section
variable {ρ ρ' ρ1 ρ2 : List Sl} {te ta tb : TE} {s s' : Sl} {x y : PyData} {i : Nat} {tr : TA} {xs ys : List PyData} {ss : List Sl} {t u : TS} {K : KK} {g : TG} {gs : TGs} {KF : PySem.W.Frag} {wi : TI}
theorem sm_for (h : Fi wi ρ xs ρ1) (R : Nat → List Sl → Prop) (h0 : R 0 ρ1) (hs : ∀ (j : Nat) x ρ', xs[j]? = some x → R j ρ' → Turn g t (.d x) ρ' (R (j + 1)) K) (hd : ∀ ρ', R xs.length ρ' → K.nx ρ') : Sm (tFor wi g t) ρ K := fun c A σ H D R0 f dk =>
  h c A σ H _ R0 f fun J A1 H1 R1 f1 S1 jk => by
    refine ⟨fun j m σ' H' => m = xs.length - j ∧ j ≤ xs.length ∧ Stp (c.to (vw c.Z A1 H1)) (R j) σ' H', ⟨xs.length, by simp, Nat.zero_le _, ρ1, A1, h0, R1.refr, f1⟩, ?_⟩
    rintro j m σ' H' ⟨rfl, hj, ρ', A', r, R', f'⟩
    have S' : Same (vw c.Z A1 H1) H' := R'.old.trans vw_sub
    by_cases lt : j < xs.length
    · have e := List.getElem?_eq_getElem lt
      obtain ⟨go, yl⟩ := jk.1 j _ H' e S'
      refine Or.inr ⟨go, Stp (c.to (vw c.Z A1 H1)) (R (j + 1)), fun σ2 H2 p => ⟨xs.length - (j + 1), by omega, rfl, lt, p⟩, fun v H2 y => ?_⟩
      obtain ⟨S2, dn⟩ := yl v H2 y
      exact (hs j _ ρ' e r).run (R'.up S2) f' (dn _ (R'.old.trans (vw_up S2)) fun b o n e => new_view R' n e) R1.old dk
    · have e : j = xs.length := by omega
      subst e
      exact Or.inl ⟨jk.2 H' S', dk.nx _ _ _ _ (hd _ r) (R'.unfr R1.old) f'⟩
theorem fi_list (h : Ev te ρ (.d (.list xs)) ρ1) : Fi (iList KF te) ρ xs ρ1 := fun c A σ H R R0 f k => h c A σ H _ R0 f fun v A1 H1 R1 f1 S1 o1 => by
  obtain ⟨a, vs, rfl, e, dx⟩ := lst_v o1
  refine ⟨a, rfl, ⟨_, SqL.of (vw_sub _ _ e)⟩, k _ _ _ R1 f1 S1 ⟨fun i x H2 ex S => ?_, fun H2 S => ?_⟩⟩
  · have lt : i < vs.length := by rw [dx.length]; exact (List.getElem?_eq_some_iff.mp ex).1
    refine ⟨⟨vs, vs[i], SqL.of (S _ _ e), List.getElem?_eq_getElem lt⟩, fun v H3 ⟨q1, q2⟩ => ?_⟩
    subst q1
    refine ⟨Same.refl _, fun W' S' _ => ?_⟩
    obtain ⟨x', e', dn⟩ := dn_at dx (q2 vs (SqL.of (S _ _ e)))
    rw [ex] at e'
    cases e'
    exact Dn.mono S' dn
  · exact ⟨vs, SqL.of (S _ _ e), by rw [dx.length]; exact Nat.le_refl _⟩
theorem fi_tup (h : Ev te ρ (.d (.tuple xs)) ρ1) : Fi (iTup KF te) ρ xs ρ1 := fun c A σ H R R0 f k => h c A σ H _ R0 f fun v A1 H1 R1 f1 S1 o1 => by
  obtain ⟨a, vs, rfl, e, dx⟩ := tup_v o1
  refine ⟨a, rfl, ⟨_, SqT.of (vw_sub _ _ e)⟩, k _ _ _ R1 f1 S1 ⟨fun i x H2 ex S => ?_, fun H2 S => ?_⟩⟩
  · have lt : i < vs.length := by rw [dx.length]; exact (List.getElem?_eq_some_iff.mp ex).1
    refine ⟨⟨vs, vs[i], SqT.of (S _ _ e), List.getElem?_eq_getElem lt⟩, fun v H3 ⟨q1, q2⟩ => ?_⟩
    subst q1
    refine ⟨Same.refl _, fun W' S' _ => ?_⟩
    obtain ⟨x', e', dn⟩ := dn_at dx (q2 vs (SqT.of (S _ _ e)))
    rw [ex] at e'
    cases e'
    exact Dn.mono S' dn
  · exact ⟨vs, SqT.of (S _ _ e), by rw [dx.length]; exact Nat.le_refl _⟩
def rngD (n : Nat) : List PyData := (List.range n).map fun i : Nat => .int (i : Int)
theorem rngD_at {n i : Nat} (h : (rngD n)[i]? = some x) : i < n ∧ x = .int (i : Int) := by
  unfold rngD at h
  rw [List.getElem?_map] at h
  by_cases q : i < n
  · rw [List.getElem?_range q] at h
    exact ⟨q, (Option.some.inj h).symm⟩
  · rw [List.getElem?_eq_none (by rw [List.length_range]; omega)] at h
    cases h
theorem rngD_len (n : Nat) : (rngD n).length = n := by unfold rngD; rw [List.length_map, List.length_range]
theorem dn_one {W : Hp} {vs : List V} (h : DnAll W vs [x]) : ∃ v, vs = [v] ∧ Dn W v x := by
  cases h with
  | cons a b =>
    cases b
    exact ⟨_, rfl, a⟩
theorem dn_two {W : Hp} {vs : List V} (h : DnAll W vs [x, y]) : ∃ v u, vs = [v, u] ∧ Dn W v x ∧ Dn W u y := by
  cases h with
  | cons a b =>
    obtain ⟨u, rfl, o⟩ := dn_one b
    exact ⟨_, _, rfl, a, o⟩
theorem fi_rng1 {n : Int} (h : Eds tr ρ [.int n] ρ1) (small : -(2 ^ 62) ≤ n ∧ n < 2 ^ 62) : Fi (iRng1 tr) ρ (rngD n.toNat) ρ1 := fun c A σ H R R0 f k => h c A σ H _ R0 f fun vs A1 H1 R1 f1 S1 o1 => by
  obtain ⟨v, rfl, o⟩ := dn_one o1
  obtain rfl := int_v o
  refine ⟨n, rfl, small.1, small.2, k _ _ _ R1 f1 S1 ⟨fun i x H2 ex S => ?_, fun H2 S => ?_⟩⟩
  · obtain ⟨lt, rfl⟩ := rngD_at ex
    refine ⟨lt, fun v H3 ⟨q1, q2⟩ => ?_⟩
    subst q1
    subst q2
    rw [Int.zero_add]
    exact ⟨Same.refl _, fun W' _ _ => .int _⟩
  · rw [rngD_len]
    exact Nat.le_refl n.toNat
theorem fi_rng2 {lo n : Int} (h : Eds tr ρ [.int lo, .int n] ρ1) (small : (-(2 ^ 62) ≤ lo ∧ lo < 2 ^ 62) ∧ -(2 ^ 62) ≤ n ∧ n < 2 ^ 62) : Fi (iRng2 tr) ρ ((List.range (n - lo).toNat).map fun i : Nat => .int (lo + (i : Int))) ρ1 := fun c A σ H R R0 f k => h c A σ H _ R0 f fun vs A1 H1 R1 f1 S1 o1 => by
  obtain ⟨v, u, rfl, o, o'⟩ := dn_two o1
  obtain rfl := int_v o
  obtain rfl := int_v o'
  refine ⟨lo, n, rfl, ⟨small.1.1, small.1.2, small.2.1, small.2.2⟩, k _ _ _ R1 f1 S1 ⟨fun i x H2 ex S => ?_, fun H2 S => ?_⟩⟩
  · rw [List.getElem?_map] at ex
    by_cases q : i < (n - lo).toNat
    · rw [List.getElem?_range q] at ex
      obtain rfl := Option.some.inj ex
      refine ⟨q, fun v H3 ⟨q1, q2⟩ => ?_⟩
      subst q1
      subst q2
      exact ⟨Same.refl _, fun W' _ _ => .int _⟩
    · rw [List.getElem?_eq_none (by rw [List.length_range]; omega)] at ex
      cases ex
  · rw [List.length_map, List.length_range]
    exact Nat.le_refl (n - lo).toNat
/-- reversed(range(n)) -/
theorem fi_revR {n : Int} (h : Ev te ρ (.d (.int n)) ρ1) (small : -(2 ^ 62) ≤ n ∧ n < 2 ^ 62) : Fi (iRevR (tRg1 te)) ρ (rngD n.toNat).reverse ρ1 := fun c A σ H R R0 f k => h c A σ H _ R0 f fun v A1 H1 R1 f1 S1 o1 => by
  obtain rfl := int_v o1
  refine ⟨n, rfl, by decide, by decide, small.1, small.2, k _ _ _ R1 f1 S1 ⟨fun i x H2 ex S => ?_, fun H2 S => ?_⟩⟩
  · have lt : i < n.toNat := by
      have := (List.getElem?_eq_some_iff.mp ex).1
      rw [List.length_reverse, rngD_len] at this
      exact this
    rw [List.getElem?_reverse (by rw [rngD_len]; exact lt), rngD_len] at ex
    obtain ⟨_, rfl⟩ := rngD_at ex
    refine ⟨by rw [Int.sub_zero]; exact lt, fun v H3 ⟨q1, q2⟩ => ?_⟩
    subst q1
    subst q2
    refine ⟨Same.refl _, fun W' _ _ => ?_⟩
    have e : (0 : Int) + (((n - 0).toNat : Nat) : Int) - 1 + ((i : Nat) : Int) * (-1) = ((n.toNat - 1 - i : Nat) : Int) := by
      rw [Int.sub_zero]
      omega
    show Dn W' (V.int ((0 : Int) + (((n - 0).toNat : Nat) : Int) - 1 + ((i : Nat) : Int) * (-1))) _
    rw [e]
    exact .int _
  · rw [List.length_reverse, rngD_len, Int.sub_zero]
    exact Nat.le_refl n.toNat
theorem fi_revA_l (h : Ev te ρ (.d (.list xs)) ρ1) : Fi (RT.iRevA KF te) ρ xs.reverse ρ1 := fun c A σ H R R0 f k => h c A σ H _ R0 f fun v A1 H1 R1 f1 S1 o1 => by
  obtain ⟨a, vs, rfl, e, dx⟩ := lst_v o1
  refine ⟨a, vs, rfl, Or.inl ⟨SqL.of (vw_sub _ _ e), k _ _ _ R1 f1 S1 ⟨fun i x H2 ex S => ?_, fun H2 S => ?_⟩⟩⟩
  · have lt : i < vs.length := by rw [dx.length, ← List.length_reverse]; exact (List.getElem?_eq_some_iff.mp ex).1
    refine ⟨⟨lt, vs, vs[vs.length - 1 - i], SqL.of (S _ _ e), List.getElem?_eq_getElem (by omega)⟩, fun v H3 ⟨q1, q2⟩ => ?_⟩
    subst q1
    refine ⟨Same.refl _, fun W' S' _ => ?_⟩
    obtain ⟨x', e', dn⟩ := dn_at dx (q2 vs (SqL.of (S _ _ e)))
    rw [List.getElem?_reverse (by rw [← dx.length]; exact lt), ← dx.length] at ex
    rw [ex] at e'
    cases e'
    exact Dn.mono S' dn
  · rw [List.length_reverse]
    show vs.length ≤ xs.length
    rw [dx.length]
    exact Nat.le_refl _
theorem fi_revA_t (h : Ev te ρ (.d (.tuple xs)) ρ1) : Fi (RT.iRevA KF te) ρ xs.reverse ρ1 := fun c A σ H R R0 f k => h c A σ H _ R0 f fun v A1 H1 R1 f1 S1 o1 => by
  obtain ⟨a, vs, rfl, e, dx⟩ := tup_v o1
  refine ⟨a, vs, rfl, Or.inr ⟨SqT.of (vw_sub _ _ e), k _ _ _ R1 f1 S1 ⟨fun i x H2 ex S => ?_, fun H2 S => ?_⟩⟩⟩
  · have lt : i < vs.length := by rw [dx.length, ← List.length_reverse]; exact (List.getElem?_eq_some_iff.mp ex).1
    refine ⟨⟨lt, vs, vs[vs.length - 1 - i], SqT.of (S _ _ e), List.getElem?_eq_getElem (by omega)⟩, fun v H3 ⟨q1, q2⟩ => ?_⟩
    subst q1
    refine ⟨Same.refl _, fun W' S' _ => ?_⟩
    obtain ⟨x', e', dn⟩ := dn_at dx (q2 vs (SqT.of (S _ _ e)))
    rw [List.getElem?_reverse (by rw [← dx.length]; exact lt), ← dx.length] at ex
    rw [ex] at e'
    cases e'
    exact Dn.mono S' dn
  · rw [List.length_reverse]
    show vs.length ≤ xs.length
    rw [dx.length]
    exact Nat.le_refl _
def enumD : Nat → List PyData → List PyData
  | _, [] => []
  | n, x :: xs => .tuple [.int (n : Int), x] :: enumD (n + 1) xs
theorem enumD_len : ∀ (n : Nat) (xs : List PyData), (enumD n xs).length = xs.length
  | _, [] => rfl
  | n, _ :: xs => congrArg (· + 1) (enumD_len (n + 1) xs)
theorem enumD_at : ∀ {n i : Nat} {xs : List PyData} {y : PyData}, (enumD n xs)[i]? = some y → ∃ x, xs[i]? = some x ∧ y = .tuple [.int ((n + i : Nat) : Int), x]
  | n, 0, x :: xs, y, h => by
    cases h
    exact ⟨x, rfl, rfl⟩
  | n, i + 1, x :: xs, y, h => by
    obtain ⟨z, e1, e2⟩ := enumD_at (n := n + 1) (i := i) (xs := xs) h
    refine ⟨z, e1, ?_⟩
    rw [e2, show n + 1 + i = n + (i + 1) by omega]
  | _, _, [], _, h => by cases h
theorem fi_enum (h : Eds tr ρ [.list xs] ρ1) : Fi (iEnum KF tr) ρ (enumD 0 xs) ρ1 := fun c A σ H R R0 f k => h c A σ H _ R0 f fun vs A1 H1 R1 f1 S1 o1 => by
  obtain ⟨v, rfl, o⟩ := dn_one o1
  obtain ⟨a, vs, rfl, e, dx⟩ := lst_v o
  refine ⟨a, vs, rfl, SqL.of (vw_sub _ _ e), k _ _ _ R1 f1 S1 ⟨fun i x H2 ex S => ?_, fun H2 S => ?_⟩⟩
  · have lt : i < vs.length := by rw [dx.length, ← enumD_len 0 xs]; exact (List.getElem?_eq_some_iff.mp ex).1
    refine ⟨⟨vs, vs[i], SqL.of (S _ _ e), List.getElem?_eq_getElem lt⟩, fun v H3 ⟨T, y, q1, q2, q3, q4⟩ => ?_⟩
    subst q1
    subst q3
    refine ⟨Same.new q2, fun W' S' nw => ?_⟩
    obtain ⟨x', e', dn⟩ := dn_at dx (q4 vs (SqL.of (S _ _ e)))
    obtain ⟨x2, e2, rfl⟩ := enumD_at ex
    rw [e2] at e'
    cases e'
    rw [Nat.zero_add]
    exact .tup (nw _ _ q2 upd_same) (.cons (.int _) (.one (Dn.mono S' dn)))
  · exact ⟨vs, SqL.of (S _ _ e), by rw [dx.length, enumD_len]; exact Nat.le_refl _⟩
def zipD (xs ys : List PyData) : List PyData := (xs.zip ys).map fun p => .tuple [p.1, p.2]
theorem zipD_at {i : Nat} {z : PyData} (h : (zipD xs ys)[i]? = some z) : ∃ x y, xs[i]? = some x ∧ ys[i]? = some y ∧ z = .tuple [x, y] := by
  unfold zipD at h
  rw [List.getElem?_map] at h
  cases e : (xs.zip ys)[i]? with
  | none => rw [e] at h; cases h
  | some p =>
    rw [e] at h
    obtain ⟨e1, e2⟩ := List.getElem?_zip_eq_some.mp e
    exact ⟨_, _, e1, e2, (Option.some.inj h).symm⟩
theorem zipD_len : (zipD xs ys).length = min xs.length ys.length := by unfold zipD; rw [List.length_map, List.length_zip]
theorem fi_zip (h : Eds tr ρ [.list xs, .list ys] ρ1) : Fi (iZip KF tr) ρ (zipD xs ys) ρ1 := fun c A σ H R R0 f k => h c A σ H _ R0 f fun vs A1 H1 R1 f1 S1 o1 => by
  obtain ⟨v, u, rfl, o, o'⟩ := dn_two o1
  obtain ⟨a, vs, rfl, e, dx⟩ := lst_v o
  obtain ⟨b, us, rfl, e', dy⟩ := lst_v o'
  refine ⟨a, b, vs, us, rfl, SqL.of (vw_sub _ _ e), SqL.of (vw_sub _ _ e'), k _ _ _ R1 f1 S1 ⟨fun i x H2 ex S => ?_, fun H2 S => ?_⟩⟩
  · obtain ⟨x1, y1, ex1, ey1, rfl⟩ := zipD_at ex
    have lt : i < vs.length := by rw [dx.length]; exact (List.getElem?_eq_some_iff.mp ex1).1
    have lt' : i < us.length := by rw [dy.length]; exact (List.getElem?_eq_some_iff.mp ey1).1
    refine ⟨⟨vs, us, vs[i], us[i], SqL.of (S _ _ e), SqL.of (S _ _ e'), List.getElem?_eq_getElem lt, List.getElem?_eq_getElem lt'⟩, fun v H3 ⟨T, x, y, q1, q2, q3, q4, q5⟩ => ?_⟩
    subst q1
    subst q3
    refine ⟨Same.new q2, fun W' S' nw => ?_⟩
    obtain ⟨x', e1, d1⟩ := dn_at dx (q4 vs (SqL.of (S _ _ e)))
    obtain ⟨y', e2, d2⟩ := dn_at dy (q5 us (SqL.of (S _ _ e')))
    rw [ex1] at e1
    rw [ey1] at e2
    cases e1
    cases e2
    exact .tup (nw _ _ q2 upd_same) (.cons (Dn.mono S' d1) (.one (Dn.mono S' d2)))
  · refine ⟨vs, us, SqL.of (S _ _ e), SqL.of (S _ _ e'), ?_⟩
    rw [dx.length, dy.length, zipD_len]
    omega
theorem fi_str {z : Str} (h : Ev te ρ (.d (.str z)) ρ1) : Fi (iStr te) ρ (z.cps.toList.map fun c => .str ⟨#[c]⟩) ρ1 := fun c A σ H R R0 f k => h c A σ H _ R0 f fun v A1 H1 R1 f1 S1 o1 => by
  obtain rfl := str_v o1
  refine ⟨z, rfl, k _ _ _ R1 f1 S1 ⟨fun i x H2 ex S => ?_, fun H2 S => ?_⟩⟩
  · rw [List.getElem?_map] at ex
    cases e : z.cps.toList[i]? with
    | none => rw [e] at ex; cases ex
    | some cc =>
      rw [e] at ex
      obtain rfl := Option.some.inj ex
      have lt := (List.getElem?_eq_some_iff.mp e).1
      refine ⟨(by show i < z.cps.size; simpa using lt), fun v H3 ⟨q1, c1, q2, q3⟩ => ?_⟩
      subst q1
      subst q3
      have : z.cps.toList[i]? = some c1 := by simpa using q2
      rw [e] at this
      cases this
      exact ⟨Same.refl _, fun W' _ _ => .str _⟩
  · show z.cps.size ≤ _
    rw [List.length_map]
    simp
end
end OW
set_option Elab.async false
set_option linter.unusedVariables false
set_option linter.unusedSectionVars false
set_option maxRecDepth 100000
set_option maxHeartbeats 1000000
namespace OW
open PySem PySem.Spec PyProof.Rows L2 KA
variable [Tbs]
/-! ### operators, built-ins, methods -/
def isV (v : V) : Mo := ⟨fun u _ => u = v, fun _ h => h⟩
section
variable {ρ ρ' ρ1 ρ2 : List Sl} {te ta tb ti : TE} {s s' : Sl} {x y : PyData} {i j k : Nat} {tr : TA} {xs ys : List PyData} {ss : List Sl} {t u : TS} {K : KK} {g : TG} {KF : PySem.W.Frag} {tl th : TO}
theorem ev_cv {v : V} : Ev (tC v) ρ (.p (isV v)) ρ := ev_c fun _ => rfl
theorem isv_v {W : Hp} {v u : V} (h : ArOk W u (.p (isV v))) : u = v := h
/-- results that are the same in every heap -/
theorem fv2_s {r : R2} {z : V} (hz : ∀ W, ArOk W z s) {p q : Sl} (h : ∀ (W H : Hp) (v w : V) (Q : VK), Same W H → ArOk W v p → ArOk W w q → Q z H → r v w H Q) : FV2 r p q s := fun W H v w Q S a b k => h W H v w Q S a b (k z H (Same.refl _) fun W' _ _ => hz W')
theorem fv_s {r : List V → Hp → VK → Prop} {z : V} (hz : ∀ W, ArOk W z s) (h : ∀ (W H : Hp) (vs : List V) (Q : VK), Same W H → ArAll W vs ss → Q z H → r vs H Q) : FV r ss s := fun W H vs Q S a k => h W H vs Q S a (k z H (Same.refl _) fun W' _ _ => hz W')
theorem dI (i : Int) : ∀ W, ArOk W (.int i) (.d (.int i)) := fun _ => Dn.int _
theorem dB (i : Bool) : ∀ W, ArOk W (.bl i) (.d (.bool i)) := fun _ => Dn.bl _
theorem dS (i : Str) : ∀ W, ArOk W (.str i) (.d (.str i)) := fun _ => Dn.str _
theorem fv_int {f : Int → Int → Int} {m n : Int} : FV2 (rI0 fun i j => .int (f i j)) (.d (.int m)) (.d (.int n)) (.d (.int (f m n))) := fv2_s (dI (f m n)) fun W H v w Q S a b q => ⟨m, n, int_v a, int_v b, q⟩
theorem fv_intC {C : Int → Int → Prop} {f : Int → Int → Int} {m n : Int} (h : C m n) : FV2 (rI C fun i j => .int (f i j)) (.d (.int m)) (.d (.int n)) (.d (.int (f m n))) := fv2_s (dI (f m n)) fun W H v w Q S a b q => ⟨m, n, int_v a, int_v b, h, q⟩
theorem fv_cmpI {f : Int → Int → Bool} {m n : Int} : FV2 (rI0 fun i j => .bl (f i j)) (.d (.int m)) (.d (.int n)) (.d (.bool (f m n))) := fv2_s (dB (f m n)) fun W H v w Q S a b q => ⟨m, n, int_v a, int_v b, q⟩
theorem fv_eqS {a b : Str} : FV2 rEq (.d (.str a)) (.d (.str b)) (.d (.bool (decide (a = b)))) := fv2_s (dB (decide (a = b))) fun W H v w Q S o o' q => by
  obtain rfl := str_v o
  obtain rfl := str_v o'
  refine ⟨rfl, ?_⟩
  rw [show decide (V.str a = V.str b) = decide (a = b) from by simp]
  exact q
theorem fv_neS {a b : Str} : FV2 rNe (.d (.str a)) (.d (.str b)) (.d (.bool (!decide (a = b)))) := fv2_s (dB (!decide (a = b))) fun W H v w Q S o o' q => by
  obtain rfl := str_v o
  obtain rfl := str_v o'
  refine ⟨rfl, ?_⟩
  rw [show decide (V.str a = V.str b) = decide (a = b) from by simp]
  exact q
theorem fv_eqI {a b : Int} : FV2 rEq (.d (.int a)) (.d (.int b)) (.d (.bool (decide (a = b)))) := fv2_s (dB (decide (a = b))) fun W H v w Q S o o' q => by
  obtain rfl := int_v o
  obtain rfl := int_v o'
  refine ⟨rfl, ?_⟩
  rw [show decide (V.int a = V.int b) = decide (a = b) from by simp]
  exact q
theorem fv_neI {a b : Int} : FV2 rNe (.d (.int a)) (.d (.int b)) (.d (.bool (!decide (a = b)))) := fv2_s (dB (!decide (a = b))) fun W H v w Q S o o' q => by
  obtain rfl := int_v o
  obtain rfl := int_v o'
  refine ⟨rfl, ?_⟩
  rw [show decide (V.int a = V.int b) = decide (a = b) from by simp]
  exact q
theorem fv_eqD (sx : SeqAt.shaped x = true) (sy : SeqAt.shaped y = true) : FV2 rEqD (.d x) (.d y) (.d (.bool (PyData.eqv x y))) := fv2_s (dB (PyData.eqv x y)) fun W H v w Q S o o' q => ⟨x, y, Dn.mono S o, Dn.mono S o', sx, sy, q⟩
theorem fv_neD (sx : SeqAt.shaped x = true) (sy : SeqAt.shaped y = true) : FV2 rNeD (.d x) (.d y) (.d (.bool (!PyData.eqv x y))) := fv2_s (dB (!PyData.eqv x y)) fun W H v w Q S o o' q => ⟨x, y, Dn.mono S o, Dn.mono S o', sx, sy, q⟩
def noneD : PyData → Bool | .none => true | _ => false
theorem dn_non {W : Hp} {v : V} (h : Dn W v x) : decide (v = .non) = noneD x := by
  cases h <;> first | rfl | (exact decide_eq_false (by simp))
theorem fv_isN : FV2 (fun x y H Q => y = .non ∧ Q (.bl (decide (x = .non))) H) (.d x) (.d .none) (.d (.bool (noneD x))) := fv2_s (dB (noneD x)) fun W H v w Q S o o' q => by
  refine ⟨non_v o', ?_⟩
  rw [dn_non o]
  exact q
theorem fv_notN : FV2 (fun x y H Q => y = .non ∧ Q (.bl (!decide (x = .non))) H) (.d x) (.d .none) (.d (.bool (!noneD x))) := fv2_s (dB (!noneD x)) fun W H v w Q S o o' q => by
  refine ⟨non_v o', ?_⟩
  rw [dn_non o]
  exact q
theorem atI_dn {W : Hp} {vs : List V} {n : Int} (dx : DnAll W vs xs) (h : atI xs n = some x) : ∃ v, atI vs n = some v ∧ Dn W v x := by
  unfold atI at h ⊢
  rw [dx.length]
  cases e : ixN xs.length n with
  | none => rw [e] at h; cases h
  | some j =>
    rw [e] at h
    exact dx.get h
theorem fv_ixT {n : Int} (h : atI xs n = some x) : FV2 (rIxT KF) (.d (.tuple xs)) (.d (.int n)) (.d x) := fun W H v w Q S o o' q => by
  obtain rfl := int_v o'
  obtain ⟨a, vs, rfl, e, dx⟩ := tup_v o
  obtain ⟨u, e1, dn⟩ := atI_dn dx h
  exact ⟨a, vs, n, u, rfl, rfl, SqT.of (S _ _ e), e1, q u H (Same.refl _) fun W' S' _ => Dn.mono S' dn⟩
theorem fv_ixL {n : Int} (h : atI xs n = some x) : FV2 (rIxL KF) (.d (.list xs)) (.d (.int n)) (.d x) := fun W H v w Q S o o' q => by
  obtain rfl := int_v o'
  obtain ⟨a, vs, rfl, e, dx⟩ := lst_v o
  obtain ⟨u, e1, dn⟩ := atI_dn dx h
  exact ⟨a, vs, n, u, rfl, rfl, SqL.of (S _ _ e), e1, q u H (Same.refl _) fun W' S' _ => Dn.mono S' dn⟩
theorem fv_ixS {z : Str} {n : Int} {c : Nat} (hz : z.length ≤ sizeLine) (h : atI z.cps.toList n = some c) : FV2 rIxS (.d (.str z)) (.d (.int n)) (.d (.str ⟨#[c]⟩)) := fv2_s (dS ⟨#[c]⟩) fun W H v w Q S o o' q => ⟨z, n, c, str_v o, int_v o', hz, h, q⟩
theorem at_nat {α : Type} {xs : List α} {v : α} {j : Nat} (h : xs[j]? = some v) : atI xs (j : Int) = some v := by
  have lt := (List.getElem?_eq_some_iff.mp h).1
  unfold atI ixN
  rw [if_pos (Int.natCast_nonneg j), if_pos (by omega)]
  show xs[((j : Nat) : Int).toNat]? = some v
  rw [Int.toNat_natCast]
  exact h
theorem at0 {α : Type} {x : α} {xs : List α} : atI (x :: xs) 0 = some x := at_nat (j := 0) rfl
theorem at1 {α : Type} {x y : α} {xs : List α} : atI (x :: y :: xs) 1 = some y := at_nat (j := 1) rfl
theorem at2 {α : Type} {x y z : α} {xs : List α} : atI (x :: y :: z :: xs) 2 = some z := at_nat (j := 2) rfl
theorem at3 {α : Type} {x y z u : α} {xs : List α} : atI (x :: y :: z :: u :: xs) 3 = some u := at_nat (j := 3) rfl
/-- an owned list's item, length -/
theorem ev_ixO {n : Int} (h0 : ρ[k]? = some (.l ys)) (h : Ev ti ρ (.d (.int n)) ρ1) (h1 : ρ1[k]? = some (.l xs)) (e : atI xs n = some x) : Ev (tOp (rIxL KF) (tVar k) ti) ρ (.d x) ρ1 := fun c A σ H Q R f q => by
  obtain ⟨a, _, _, e1, _, _⟩ := R.sl k _ h0
  refine ⟨_, e1, h c A σ H _ R f fun w A1 H1 R1 f1 S1 o1 => ?_⟩
  obtain rfl := int_v o1
  obtain ⟨b, vs, _, e2, e3, dx⟩ := R1.sl k _ h1
  rw [e1] at e2
  cases e2
  obtain ⟨v, e4, dn⟩ := atI_dn dx e
  exact ⟨a, vs, n, v, rfl, rfl, SqL.of e3, e4, q v A1 H1 R1 f1 S1 dn⟩
theorem fv_lenL : FV (fun xs H Q => ∃ p ys, xs = [.ref p] ∧ (SqL KF H p ys ∨ SqT KF H p ys) ∧ Q (.int ys.length) H) [.d (.list xs)] (.d (.int (xs.length : Int))) := fv_s (dI (xs.length : Int)) fun W H vs Q S o q => by
  match vs, o with
  | [v], o =>
    obtain ⟨a, ws, rfl, e, dx⟩ := lst_v o.1
    exact ⟨a, ws, rfl, Or.inl (SqL.of (S _ _ e)), by rw [dx.length]; exact q⟩
theorem fv_lenT : FV (fun xs H Q => ∃ p ys, xs = [.ref p] ∧ (SqL KF H p ys ∨ SqT KF H p ys) ∧ Q (.int ys.length) H) [.d (.tuple xs)] (.d (.int (xs.length : Int))) := fv_s (dI (xs.length : Int)) fun W H vs Q S o q => by
  match vs, o with
  | [v], o =>
    obtain ⟨a, ws, rfl, e, dx⟩ := tup_v o.1
    exact ⟨a, ws, rfl, Or.inr (SqT.of (S _ _ e)), by rw [dx.length]; exact q⟩
theorem ev_lenO (h : ρ[k]? = some (.l xs)) : Ev (tCB (fun xs H Q => ∃ p ys, xs = [.ref p] ∧ (SqL KF H p ys ∨ SqT KF H p ys) ∧ Q (.int ys.length) H) (tCons (tVar k) tNil)) ρ (.d (.int (xs.length : Int))) ρ := fun c A σ H Q R f q => by
  obtain ⟨a, vs, _, e2, e3, dx⟩ := R.sl k _ h
  exact ⟨_, e2, a, vs, rfl, Or.inl (SqL.of e3), by rw [dx.length]; exact q _ A H R f (Same.refl _) (.int _)⟩
theorem et_truO (h : ρ[k]? = some (.l xs)) : Et (fun σ H Q => tVar k σ H fun x H' => ∃ k, TruV KF x H' k ∧ Q k H') ρ (!xs.isEmpty) ρ := fun c A σ H Q R f q => by
  obtain ⟨a, vs, _, e2, e3, dx⟩ := R.sl k _ h
  refine ⟨_, e2, _, Or.inl ⟨vs, SqL.of e3, rfl⟩, ?_⟩
  have e : vs.isEmpty = xs.isEmpty := by cases dx <;> rfl
  rw [e]
  exact q A H R f (Same.refl _)
theorem et_truL (h : Ev te ρ (.d (.list xs)) ρ1) : Et (fun σ H Q => te σ H fun x H' => ∃ k, TruV KF x H' k ∧ Q k H') ρ (!xs.isEmpty) ρ1 := fun c A σ H Q R f q =>
  h c A σ H _ R f fun v A1 H1 R1 f1 S1 o1 => by
    obtain ⟨a, vs, rfl, e, dx⟩ := lst_v o1
    refine ⟨_, Or.inl ⟨vs, SqL.of (vw_sub _ _ e), rfl⟩, ?_⟩
    have e : vs.isEmpty = xs.isEmpty := by cases dx <;> rfl
    rw [e]
    exact q A1 H1 R1 f1 S1
theorem et_truT (h : Ev te ρ (.d (.tuple xs)) ρ1) : Et (fun σ H Q => te σ H fun x H' => ∃ k, TruV KF x H' k ∧ Q k H') ρ (!xs.isEmpty) ρ1 := fun c A σ H Q R f q =>
  h c A σ H _ R f fun v A1 H1 R1 f1 S1 o1 => by
    obtain ⟨a, vs, rfl, e, dx⟩ := tup_v o1
    refine ⟨_, Or.inr (Or.inl ⟨vs, SqT.of (vw_sub _ _ e), rfl⟩), ?_⟩
    have e : vs.isEmpty = xs.isEmpty := by cases dx <;> rfl
    rw [e]
    exact q A1 H1 R1 f1 S1
/-! stars in a display -/
theorem eds_star (h : Ev te ρ (.d (.tuple xs)) ρ1) (h' : Eds tr ρ1 ys ρ2) : Eds (StX.tStar KF te tr) ρ (xs ++ ys) ρ2 := fun c A σ H Q R f q =>
  h c A σ H _ R f fun v A1 H1 R1 f1 S1 o1 => by
    obtain ⟨a, vs, rfl, e, dx⟩ := tup_v o1
    exact ⟨a, vs, rfl, Or.inl (SqT.of (vw_sub _ _ e)), h' c A1 σ H1 _ R1 f1 fun ws A2 H2 R2 f2 S2 o2 => q _ A2 H2 R2 f2 (S1.trans S2) ((DnAll.mono S2 dx).append o2)⟩
theorem eds_starL (h : Ev te ρ (.d (.list xs)) ρ1) (h' : Eds tr ρ1 ys ρ2) : Eds (StX.tStar KF te tr) ρ (xs ++ ys) ρ2 := fun c A σ H Q R f q =>
  h c A σ H _ R f fun v A1 H1 R1 f1 S1 o1 => by
    obtain ⟨a, vs, rfl, e, dx⟩ := lst_v o1
    exact ⟨a, vs, rfl, Or.inr (SqL.of (vw_sub _ _ e)), h' c A1 σ H1 _ R1 f1 fun ws A2 H2 R2 f2 S2 o2 => q _ A2 H2 R2 f2 (S1.trans S2) ((DnAll.mono S2 dx).append o2)⟩
/-! slices -/
def cutD (xs : List PyData) (lo hi : Option Int) : List PyData := (xs.drop (HT.sIx xs.length 0 lo)).take (HT.sIx xs.length xs.length hi - HT.sIx xs.length 0 lo)
theorem dn_cut {W : Hp} {vs : List V} {lo hi : Option Int} (dx : DnAll W vs xs) : DnAll W (cutV vs lo hi) (cutD xs lo hi) := by
  unfold cutV cutD
  rw [dx.length]
  exact (dx.drop _).take _
theorem cutD_from {n : Nat} (h : n ≤ xs.length) : cutD xs (some (n : Int)) none = xs.drop n := by
  unfold cutD
  rw [HT.sIx_none, HT.sIx_nat, Nat.min_eq_left h, List.take_of_length_le]
  rw [List.length_drop]
  exact Nat.le_refl _
theorem cutD_to {n : Nat} (h : n ≤ xs.length) : cutD xs none (some (n : Int)) = xs.take n := by
  unfold cutD
  rw [HT.sIx_none, HT.sIx_nat, List.drop_zero, Nat.sub_zero, Nat.min_eq_left h]
theorem cutD_to' {n : Nat} : cutD xs none (some (n : Int)) = xs.take n := by
  unfold cutD
  rw [HT.sIx_none, HT.sIx_nat, List.drop_zero, Nat.sub_zero]
  by_cases h : n ≤ xs.length
  · rw [Nat.min_eq_left h]
  · rw [Nat.min_eq_right (by omega), List.take_of_length_le (Nat.le_refl _), List.take_of_length_le (by omega)]
theorem cutD_from' {n : Nat} : cutD xs (some (n : Int)) none = xs.drop n := by
  by_cases h : n ≤ xs.length
  · exact cutD_from h
  · unfold cutD
    rw [HT.sIx_none, HT.sIx_nat, Nat.min_eq_right (by omega), Nat.sub_self, List.take_zero, List.drop_of_length_le (by omega)]
theorem ev_slA {lo hi : Option Int} (h : Ev te ρ (.d (.tuple xs)) ρ') (h1 : Eo tl ρ' lo ρ1) (h2 : Eo th ρ1 hi ρ2) : Ev (tSl (rSlA KF) te tl th) ρ (.d (.tuple (cutD xs lo hi))) ρ2 := fun c A σ H Q R f q =>
  h c A σ H _ R f fun v A1 H1 R1 f1 S1 o1 => h1 c A1 σ H1 _ R1 f1 fun A2 H2 R2 f2 S2 => h2 c A2 σ H2 _ R2 f2 fun A3 H3 R3 f3 S3 => by
    obtain ⟨a, vs, rfl, e, dx⟩ := tup_v (o1.mono (S2.trans S3))
    refine ⟨a, vs, rfl, SqT.of (vw_sub _ _ e), fun z => ?_, fun _ b hb => ?_⟩
    · refine q _ A3 H3 R3 f3 ((S1.trans S2).trans S3) ?_
      have e' : cutD xs lo hi = xs := by
        unfold cutD
        rw [← dx.length, z.1, z.2, List.drop_zero, Nat.sub_zero, dx.length, List.take_length]
      rw [e']
      exact .tup e dx
    · exact q _ A3 _ (R3.up (Same.new hb)) f3 (((S1.trans S2).trans S3).trans (vw_up (Same.new hb))) (.tup (new_view R3 hb upd_same) (DnAll.mono (vw_up (Same.new hb)) (dn_cut dx)))
theorem el_slL {lo hi : Option Int} (h : Ev te ρ (.d (.list xs)) ρ') (h1 : Eo tl ρ' lo ρ1) (h2 : Eo th ρ1 hi ρ2) : El (tSl (rSlL KF) te tl th) ρ (cutD xs lo hi) ρ2 := fun c A σ H Q R f q =>
  h c A σ H _ R f fun v A1 H1 R1 f1 S1 o1 => h1 c A1 σ H1 _ R1 f1 fun A2 H2 R2 f2 S2 => h2 c A2 σ H2 _ R2 f2 fun A3 H3 R3 f3 S3 => by
    obtain ⟨a, vs, rfl, e, dx⟩ := lst_v (o1.mono (S2.trans S3))
    exact ⟨a, vs, rfl, SqL.of (vw_sub _ _ e), fun b hb => q b _ _ _ (R3.fly hb) aset_at (((S1.trans S2).trans S3).trans (vw_fly hb)) upd_same (DnAll.mono (vw_fly hb) (dn_cut dx))⟩
theorem el_slO {lo hi : Option Int} (h0 : ρ[k]? = some (.l ys)) (h1 : Eo tl ρ lo ρ1) (h2 : Eo th ρ1 hi ρ2) (h3 : ρ2[k]? = some (.l xs)) : El (tSl (rSlL KF) (tVar k) tl th) ρ (cutD xs lo hi) ρ2 := fun c A σ H Q R f q => by
  obtain ⟨a, _, _, e1, _, _⟩ := R.sl k _ h0
  refine ⟨_, e1, h1 c A σ H _ R f fun A2 H2 R2 f2 S2 => h2 c A2 σ H2 _ R2 f2 fun A3 H3 R3 f3 S3 => ?_⟩
  obtain ⟨b, vs, _, e2, e3, dx⟩ := R3.sl k _ h3
  rw [e1] at e2
  cases e2
  exact ⟨a, vs, rfl, SqL.of e3, fun b hb => q b _ _ _ (R3.fly hb) aset_at ((S2.trans S3).trans (vw_fly hb)) upd_same (DnAll.mono (vw_fly hb) (dn_cut dx))⟩
/-! sums -/
theorem fl_cat (len : xs.length + ys.length ≤ sizeLine) : FL2 rCat (.d (.list xs)) (.d (.list ys)) (xs ++ ys) := fun W H v w Q S o o' q => by
  obtain ⟨a, vs, rfl, e, dx⟩ := lst_v o
  obtain ⟨b, ws, rfl, e', dy⟩ := lst_v o'
  exact ⟨a, b, vs, ws, rfl, rfl, S _ _ e, S _ _ e', by rw [dx.length, dy.length]; exact len, fun p hp => q p _ hp (dx.append dy)⟩
theorem fv_catA (len : xs.length + ys.length ≤ sizeLine) : FV2 (rCatA KF) (.d (.tuple xs)) (.d (.tuple ys)) (.d (.tuple (xs ++ ys))) := fun W H v w Q S o o' q => by
  obtain ⟨a, vs, rfl, e, dx⟩ := tup_v o
  obtain ⟨b, ws, rfl, e', dy⟩ := tup_v o'
  refine ⟨a, b, vs, ws, rfl, rfl, SqT.of (S _ _ e), SqT.of (S _ _ e'), by rw [dx.length, dy.length]; exact len, fun z => ?_, fun _ z => ?_, fun _ _ p hp => ?_⟩
  · subst z
    cases dx
    exact q _ H (Same.refl _) fun W' S' _ => .tup (S' _ _ e') (DnAll.mono S' dy)
  · subst z
    cases dy
    rw [List.append_nil] at q
    exact q _ H (Same.refl _) fun W' S' _ => .tup (S' _ _ e) (DnAll.mono S' dx)
  · exact q _ _ (Same.new hp) fun W' S' nw => .tup (nw _ _ hp upd_same) (DnAll.mono S' (dx.append dy))
theorem fv_repT {n : Int} (h : xs ≠ [] ∧ 2 ≤ n ∧ n ≤ 1000 ∧ xs.length ≤ 1000) : FV2 (rRepT KF) (.d (.tuple xs)) (.d (.int n)) (.d (.tuple (List.replicate n.toNat xs).flatten)) := fun W H v w Q S o o' q => by
  obtain rfl := int_v o'
  obtain ⟨a, vs, rfl, e, dx⟩ := tup_v o
  refine ⟨a, n, vs, rfl, rfl, SqT.of (S _ _ e), fun z => ?_, h.2.1, h.2.2.1, by rw [dx.length]; exact h.2.2.2, fun p hp => ?_⟩
  · subst z
    cases dx
    exact h.1 rfl
  · refine q _ _ (Same.new hp) fun W' S' nw => .tup (nw _ _ hp upd_same) (DnAll.mono S' ?_)
    have : ∀ m : Nat, DnAll W (List.replicate m vs).flatten (List.replicate m xs).flatten := fun m => by
      induction m with
      | zero => exact .nil
      | succ m ih => exact dx.append ih
    exact this _
/-! built-ins -/
theorem fv_isD {T : String} {f : PyData → Bool} : FV (rIsD T f) [.d x, .p (isV (.ty T))] (.d (.bool (f x))) := fv_s (dB (f x)) fun W H vs Q S o q => by
  match vs, o with
  | [v, w], o =>
    obtain rfl := isv_v o.2.1
    exact ⟨v, x, rfl, Dn.mono S o.1, q⟩
theorem inV_str {W : Hp} (a : Str) : ∀ {vs : List V} {bs : List Str}, DnAll W vs (bs.map .str) → vs.all flatV = true ∧ inV (.str a) vs = bs.any fun b => b == a
  | [], [], _ => ⟨rfl, rfl⟩
  | v :: vs, b :: bs, h => by
    cases h with
    | cons h t =>
      cases h
      obtain ⟨p, q⟩ := inV_str a t
      refine ⟨by rw [List.all_cons, p]; rfl, ?_⟩
      unfold inV at q ⊢
      rw [List.any_cons, List.any_cons, q]
      rfl
theorem fv_inT {a : Str} {bs : List Str} : FV2 (rIn KF false) (.d (.str a)) (.d (.tuple (bs.map .str))) (.d (.bool (bs.any fun b => b == a))) := fv2_s (dB (bs.any fun b => b == a)) fun W H v w Q S o o' q => by
  obtain rfl := str_v o
  obtain ⟨p, vs, rfl, e, dx⟩ := tup_v o'
  obtain ⟨h1, h2⟩ := inV_str a dx
  exact ⟨p, vs, rfl, Or.inr (SqT.of (S _ _ e)), rfl, h1, by rw [h2]; exact q⟩
theorem fv_intB {b : Bool} : FV (fun xs H Q => (∃ i, xs = [.int i] ∧ Q (.int i) H) ∨ ∃ k, xs = [.bl k] ∧ Q (.int (if k then 1 else 0)) H) [.d (.bool b)] (.d (.int (if b then 1 else 0))) := fv_s (dI (if b then 1 else 0)) fun W H vs Q S o q => by
  match vs, o with
  | [v], o =>
    obtain rfl := bool_v o.1
    exact Or.inr ⟨b, rfl, q⟩
theorem fv_max2 {m n : Int} : FV (fun xs H Q => ∃ i j, xs = [.int i, .int j] ∧ Q (.int (if j > i then j else i)) H) [.d (.int m), .d (.int n)] (.d (.int (if n > m then n else m))) := fv_s (dI (if n > m then n else m)) fun W H vs Q S o q => by
  match vs, o with
  | [v, w], o =>
    obtain rfl := int_v o.1
    obtain rfl := int_v o.2.1
    exact ⟨m, n, rfl, q⟩
theorem fv_min2 {m n : Int} : FV (fun xs H Q => ∃ i j, xs = [.int i, .int j] ∧ Q (.int (if j < i then j else i)) H) [.d (.int m), .d (.int n)] (.d (.int (if n < m then n else m))) := fv_s (dI (if n < m then n else m)) fun W H vs Q S o q => by
  match vs, o with
  | [v, w], o =>
    obtain rfl := int_v o.1
    obtain rfl := int_v o.2.1
    exact ⟨m, n, rfl, q⟩
theorem dn_bools {W : Hp} : ∀ {vs : List V} {bs : List Bool}, DnAll W vs (bs.map .bool) → vs = bs.map V.bl
  | [], [], _ => rfl
  | v :: vs, b :: bs, h => by
    cases h with
    | cons h t =>
      cases h
      rw [dn_bools t]
      rfl
theorem fv_all {bs : List Bool} : FV (rAll KF) [.d (.list (bs.map .bool))] (.d (.bool (bs.all id))) := fv_s (dB (bs.all id)) fun W H vs Q S o q => by
  match vs, o with
  | [v], o =>
    obtain ⟨a, ws, rfl, e, dx⟩ := lst_v o.1
    obtain rfl := dn_bools dx
    exact ⟨a, bs, rfl, SqL.of (S _ _ e), q⟩
theorem fv_any {bs : List Bool} : FV (rAny KF) [.d (.list (bs.map .bool))] (.d (.bool (bs.any id))) := fv_s (dB (bs.any id)) fun W H vs Q S o q => by
  match vs, o with
  | [v], o =>
    obtain ⟨a, ws, rfl, e, dx⟩ := lst_v o.1
    obtain rfl := dn_bools dx
    exact ⟨a, bs, rfl, SqL.of (S _ _ e), q⟩
theorem fl_listL : FL (fun xs H Q => ∃ p ys, xs = [.ref p] ∧ (SqL KF H p ys ∨ SqT KF H p ys) ∧ ∀ l, H l = none → Q (.ref l) (upd H l (.lst ys))) [.d (.list xs)] xs := fun W H vs Q S o q => by
  match vs, o with
  | [v], o =>
    obtain ⟨a, ws, rfl, e, dx⟩ := lst_v o.1
    exact ⟨a, ws, rfl, Or.inl (SqL.of (S _ _ e)), fun l hl => q l ws hl dx⟩
theorem fl_listT : FL (fun xs H Q => ∃ p ys, xs = [.ref p] ∧ (SqL KF H p ys ∨ SqT KF H p ys) ∧ ∀ l, H l = none → Q (.ref l) (upd H l (.lst ys))) [.d (.tuple xs)] xs := fun W H vs Q S o q => by
  match vs, o with
  | [v], o =>
    obtain ⟨a, ws, rfl, e, dx⟩ := tup_v o.1
    exact ⟨a, ws, rfl, Or.inr (SqT.of (S _ _ e)), fun l hl => q l ws hl dx⟩
theorem fv_tupL : FV (fun xs H Q => ∃ p ys, xs = [.ref p] ∧ ((SqL KF H p ys ∧ ∀ l, H l = none → Q (.ref l) (upd H l (.tup ys))) ∨ (SqT KF H p ys ∧ Q (.ref p) H))) [.d (.list xs)] (.d (.tuple xs)) := fun W H vs Q S o q => by
  match vs, o with
  | [v], o =>
    obtain ⟨a, ws, rfl, e, dx⟩ := lst_v o.1
    exact ⟨a, ws, rfl, Or.inl ⟨SqL.of (S _ _ e), fun l hl => q _ _ (Same.new hl) fun W' S' nw => .tup (nw _ _ hl upd_same) (DnAll.mono S' dx)⟩⟩
theorem fv_tupT : FV (fun xs H Q => ∃ p ys, xs = [.ref p] ∧ ((SqL KF H p ys ∧ ∀ l, H l = none → Q (.ref l) (upd H l (.tup ys))) ∨ (SqT KF H p ys ∧ Q (.ref p) H))) [.d (.tuple xs)] (.d (.tuple xs)) := fun W H vs Q S o q => by
  match vs, o with
  | [v], o =>
    obtain ⟨a, ws, rfl, e, dx⟩ := tup_v o.1
    exact ⟨a, ws, rfl, Or.inr ⟨SqT.of (S _ _ e), q _ H (Same.refl _) fun W' S' _ => .tup (S' _ _ e) (DnAll.mono S' dx)⟩⟩
theorem fv_repr (h1 : x.showable = true) (h2 : x.shown.length ≤ sizeLine) (h3 : x.depth ≤ 100) : FV rRepr [.d x] (.d (.str x.shown)) := fv_s (dS x.shown) fun W H vs Q S o q => by
  match vs, o with
  | [v], o => exact ⟨v, x, rfl, Dn.mono S o.1, h1, h2, h3, q⟩
/-! methods of owned lists -/
theorem sm_app (h0 : ρ[k]? = some (.l ys)) (h : Ev te ρ (.d x) ρ1) (h1 : ρ1[k]? = some (.l xs)) (len : xs.length < sizeLine) (q : K.nx (ρ1.set k (.l (xs ++ [x])))) : Sm (tDrop (tBM KF "list" rAppend (tVar k) (tCons te tNil))) ρ K := fun c A σ H D R f dk => by
  obtain ⟨a, vs0, _, e1, e2, _⟩ := R.sl k _ h0
  refine ⟨_, e1, Or.inl ⟨rfl, vs0, SqL.of e2⟩, h c A σ H _ R f fun w A1 H1 R1 f1 S1 o1 => ?_⟩
  obtain ⟨b, vs, ea, e3, e4, dx⟩ := R1.sl k _ h1
  rw [e1] at e3
  cases e3
  refine ⟨a, vs, w, rfl, rfl, e4, by rw [dx.length]; exact len, dk.nx _ _ _ _ q (R1.mut h1 ea (dx.snoc o1)) f1⟩
theorem dn_unsnoc {W : Hp} : ∀ {xs : List PyData} {x : PyData} {vs : List V}, DnAll W vs (xs ++ [x]) → ∃ ws v, vs = ws ++ [v] ∧ DnAll W ws xs ∧ Dn W v x
  | [], x, vs, h => by
    obtain ⟨v, rfl, d⟩ := dn_one h
    exact ⟨[], v, rfl, .nil, d⟩
  | y :: xs, x, vs, h => by
    cases h with
    | cons a b =>
      obtain ⟨ws, v, rfl, d1, d2⟩ := dn_unsnoc b
      exact ⟨_ :: ws, v, rfl, .cons a d1, d2⟩
theorem ev_pop (h0 : ρ[k]? = some (.l (xs ++ [x]))) : Ev (tBM0 KF "list" rPop (tVar k)) ρ (.d x) (ρ.set k (.l xs)) := fun c A σ H Q R f q => by
  obtain ⟨a, vs0, ea, e1, e2, dx⟩ := R.sl k _ h0
  obtain ⟨ws, v, rfl, d1, d2⟩ := dn_unsnoc dx
  refine ⟨_, e1, Or.inl ⟨rfl, _, SqL.of e2⟩, a, _, v, rfl, rfl, e2, ?_, ?_⟩
  · rw [List.length_append, List.length_singleton, Nat.add_sub_cancel, List.getElem?_append_right (Nat.le_refl _), Nat.sub_self]
    rfl
  · rw [List.dropLast_concat]
    have hv : vw c.Z A (upd H a (.lst ws)) = vw c.Z A H := vw_mut ea
    exact q v A _ (R.mut h0 ea d1) f (by rw [hv]; exact Same.refl _) (by rw [hv]; exact d2)
theorem sm_rev (h0 : ρ[k]? = some (.l xs)) (q : K.nx (ρ.set k (.l xs.reverse))) : Sm (tDrop (tBM0 KF "list" rReverse (tVar k))) ρ K := fun c A σ H D R f dk => by
  obtain ⟨a, vs, ea, e1, e2, dx⟩ := R.sl k _ h0
  have rv : ∀ {vs : List V} {xs : List PyData}, DnAll (vw c.Z A H) vs xs → DnAll (vw c.Z A H) vs.reverse xs.reverse := fun {vs xs} h => by
    induction h using DnAll.rec (motive_1 := fun _ _ _ => True) with
    | nil => exact .nil
    | cons a b _ ih =>
      rw [List.reverse_cons, List.reverse_cons]
      exact ih.snoc a
    | _ => trivial
  exact ⟨_, e1, Or.inl ⟨rfl, _, SqL.of e2⟩, a, vs, rfl, rfl, e2, dk.nx _ _ _ _ q (R.mut h0 ea (rv dx)) f⟩
theorem dn_set {W : Hp} : ∀ {vs : List V} {xs : List PyData} {v : V} {x : PyData} (n : Nat), DnAll W vs xs → Dn W v x → DnAll W (vs.set n v) (xs.set n x)
  | _, _, _, _, _, .nil, _ => .nil
  | _, _, _, _, 0, .cons a b, d => .cons d b
  | _, _, _, _, n + 1, .cons a b, d => .cons a (dn_set n b d)
theorem sm_setI {m : Nat} {z : Int} (h0 : ρ1[k]? = some (.l ys)) (h : Ev te ρ (.d x) ρ1) (hi : Ev ti ρ1 (.d (.int z)) ρ2) (h1 : ρ2[k]? = some (.l xs)) (e : ixN xs.length z = some m) (q : K.nx (ρ2.set k (.l (xs.set m x)))) : Sm (tAsg te (gSub (tVar k) ti rSetL)) ρ K := fun c A σ H D R f dk =>
  h c A σ H _ R f fun w A1 H1 R1 f1 S1 o1 => by
    obtain ⟨a, vs0, _, e1, e2, _⟩ := R1.sl k _ h0
    refine ⟨_, e1, hi c A1 σ H1 _ R1 f1 fun u A2 H2 R2 f2 S2 o2 => ?_⟩
    obtain rfl := int_v o2
    obtain ⟨b, vs, ea, e3, e4, dx⟩ := R2.sl k _ h1
    rw [e1] at e3
    cases e3
    exact ⟨a, vs, z, m, rfl, rfl, e4, by rw [dx.length]; exact e, dk.nx _ _ _ _ q (R2.mut h1 ea (dn_set m dx (o1.mono S2))) f2⟩
end
end OW
set_option Elab.async false
set_option linter.unusedVariables false
set_option linter.unusedSectionVars false
set_option maxRecDepth 100000
set_option maxHeartbeats 1000000
namespace OW
open PySem PySem.Spec PyProof.Rows L2 KA
variable [Tbs]
/-! ### comprehensions -/
section
variable {c : Fr} {A A' : Am} {ρ ρ' : List Sl} {σ : L2.St} {H H' : Hp}
theorem Rp.mutFl (R : Rp c A ρ σ H) {a : Addr} {o : HO} (e : A fl = some a) : Rp c A ρ σ (upd H a o) := by
  have hv : vw c.Z A (upd H a o) = vw c.Z A H := vw_mut e
  refine ⟨R.len, R.sz, R.inj, R.off, ?_, ?_, by rw [hv]; exact R.old, R.bor, ?_, R.tz, by rw [hv]; exact R.tb.mono (Same.refl _) (R.tb.upd_ (R.nt e))⟩
  · intro j b z
    by_cases q : b = a
    · rw [q, upd_same]
      simp
    · rw [upd_ne q]
      exact R.live _ _ z
  · intro b z t
    have nb : b ≠ a := fun q => R.off _ _ e (q ▸ z)
    rw [upd_ne nb]
    exact R.keep b z t
  · intro j t z
    rw [hv]
    refine (R.sl j t z).mono (Same.refl _) fun b ws e' hb => ?_
    have nb : b ≠ a := fun q => idx_small R.sz z (R.inj _ _ _ e' (q ▸ e))
    rw [upd_ne nb]
    exact hb
/-- the new list D counts as another's while the rest goes on -/
def Fr.park (c : Fr) (D : Addr) (H : Hp) (F : Hp) : Fr := ⟨fun b => c.Z b ∨ b = D, c.B, H, F⟩
theorem vw_park {D : Addr} (e : A fl = some D) (inj : ∀ i j a, A i = some a → A j = some a → i = j) : vw (fun b => c.Z b ∨ b = D) (aset A fl none) H = vw c.Z A H := by
  funext b
  unfold vw
  have : ((c.Z b ∨ b = D) ∨ ∃ i, aset A fl none i = some b) ↔ (c.Z b ∨ ∃ i, A i = some b) := by
    constructor
    · rintro ((z | z) | ⟨i, z⟩)
      · exact Or.inl z
      · exact Or.inr ⟨fl, by rw [z]; exact e⟩
      · by_cases q : i = fl
        · rw [q, aset_at] at z
          cases z
        · rw [aset_ne q] at z
          exact Or.inr ⟨i, z⟩
    · rintro (z | ⟨i, z⟩)
      · exact Or.inl (Or.inl z)
      · by_cases q : i = fl
        · rw [q, e] at z
          cases z
          exact Or.inl (Or.inr rfl)
        · exact Or.inr ⟨i, by rw [aset_ne q]; exact z⟩
  by_cases q : c.Z b ∨ ∃ i, A i = some b
  · rw [if_pos q, if_pos (this.mpr q)]
  · rw [if_neg q, if_neg fun z => q (this.mp z)]
theorem Rp.park (R : Rp c A ρ σ H) {D : Addr} (e : A fl = some D) : Rp (c.park D H (vw c.Z A H)) (aset A fl none) ρ σ H := by
  have back : ∀ {i a}, aset A fl none i = some a → i ≠ fl ∧ A i = some a := fun {i a} z => by
    by_cases q : i = fl
    · rw [q, aset_at] at z
      cases z
    · rw [aset_ne q] at z
      exact ⟨q, z⟩
  have hv := vw_park (c := c) (H := H) e R.inj
  refine ⟨R.len, R.sz, fun i j a z z' => R.inj _ _ _ (back z).2 (back z').2, ?_, fun i a z => R.live _ _ (back z).2, ?_, ?_, ?_, ?_, fun b t => Or.inl (R.tz b t), ?_⟩
  · rintro i a z (w | w)
    · exact R.off _ _ (back z).2 w
    · exact (back z).1 (R.inj _ _ _ (back z).2 (w ▸ e))
  · rintro a (z | z) _
    · exact ⟨R.there z, rfl⟩
    · exact ⟨by show H a ≠ none; rw [z]; exact R.live _ _ e, rfl⟩
  · show Same (vw c.Z A H) (vw (fun b => c.Z b ∨ b = D) (aset A fl none) H)
    rw [hv]
    exact Same.refl _
  · intro p z
    rw [aset_ne (by decide)]
    exact R.bor p z
  · intro i s z
    show SlOk (vw (fun b => c.Z b ∨ b = D) (aset A fl none) H) H σ[i]? (aset A fl none i) s
    rw [hv, aset_ne (idx_small R.sz z)]
    exact R.sl i s z
  · show Tb (vw (fun b => c.Z b ∨ b = D) (aset A fl none) H) H
    rw [hv]
    exact R.tb
theorem vw_unpark {D : Addr} (f : A fl = none) : vw c.Z (aset A fl (some D)) H = vw (fun b => c.Z b ∨ b = D) A H := by
  funext b
  unfold vw
  have : (c.Z b ∨ ∃ i, aset A fl (some D) i = some b) ↔ ((c.Z b ∨ b = D) ∨ ∃ i, A i = some b) := by
    constructor
    · rintro (z | ⟨i, z⟩)
      · exact Or.inl (Or.inl z)
      · by_cases q : i = fl
        · rw [q, aset_at] at z
          exact Or.inl (Or.inr (Option.some.inj z).symm)
        · rw [aset_ne q] at z
          exact Or.inr ⟨i, z⟩
    · rintro ((z | z) | ⟨i, z⟩)
      · exact Or.inl z
      · exact Or.inr ⟨fl, by rw [z]; exact aset_at⟩
      · have q : i ≠ fl := fun q => by rw [q, f] at z; cases z
        exact Or.inr ⟨i, by rw [aset_ne q]; exact z⟩
  by_cases q : (c.Z b ∨ b = D) ∨ ∃ i, A i = some b
  · rw [if_pos q, if_pos (this.mpr q)]
  · rw [if_neg q, if_neg fun z => q (this.mp z)]
theorem Rp.unpark {c0 : Fr} {D : Addr} {H0 F : Hp} (R : Rp (c0.park D H0 F) A ρ σ H) (f : A fl = none) (nZ : ¬ c0.Z D) (htz : ∀ b, tabA b → c0.Z b) (hk : ∀ a, c0.Z a → ¬ tabA a → c0.G a ≠ none ∧ H0 a = c0.G a) (hF : Same c0.F F) : Rp c0 (aset A fl (some D)) ρ σ H := by
  have nD : ∀ i, A i ≠ some D := fun i z => R.off _ _ z (Or.inr rfl)
  have hv := vw_unpark (c := c0) (H := H) (D := D) f
  refine ⟨R.len, R.sz, ?_, ?_, ?_, ?_, ?_, ?_, ?_, htz, by rw [hv]; exact R.tb⟩
  · intro i j a z z'
    by_cases q : i = fl
    · by_cases q' : j = fl
      · rw [q, q']
      · rw [q, aset_at] at z
        rw [aset_ne q'] at z'
        cases z
        exact absurd z' (nD j)
    · rw [aset_ne q] at z
      by_cases q' : j = fl
      · rw [q', aset_at] at z'
        cases z'
        exact absurd z (nD i)
      · rw [aset_ne q'] at z'
        exact R.inj _ _ _ z z'
  · intro i a z w
    by_cases q : i = fl
    · rw [q, aset_at] at z
      cases z
      exact nZ w
    · rw [aset_ne q] at z
      exact R.off _ _ z (Or.inl w)
  · intro i a z
    by_cases q : i = fl
    · rw [q, aset_at] at z
      cases z
      exact R.there (Or.inr rfl)
    · rw [aset_ne q] at z
      exact R.live _ _ z
  · intro a z t
    have := R.keep a (Or.inl z) t
    exact ⟨(hk a z t).1, this.2.trans (hk a z t).2⟩
  · rw [hv]
    exact hF.trans R.old
  · intro p z
    rw [aset_ne (by decide)]
    exact R.bor p z
  · intro i s z
    rw [hv, aset_ne (idx_small R.sz z)]
    exact R.sl i s z
/-- the one slot of a comprehension -/
theorem rp_wipe (R : Rp c A ρ σ H) {v : Nat} (h : ρ[v]? = some .any) : Rp c A (ρ.set v .un) (wipe σ [v]) H := by
  refine ⟨?_, by rw [List.length_set]; exact R.sz, R.inj, R.off, R.live, R.keep, R.old, R.bor, ?_, R.tz, R.tb⟩
  · rw [wipe_length, List.length_set, R.len]
  · intro i s z
    show SlOk _ _ (σ.set v none)[i]? _ _
    by_cases q : i = v
    · subst q
      have lt := (List.getElem?_eq_some_iff.mp h).1
      rw [List.getElem?_set_self lt] at z
      cases z
      rw [List.getElem?_set_self (by rw [R.len]; exact lt)]
      exact ⟨rfl, R.sl i _ h⟩
    · rw [List.getElem?_set_ne (Ne.symm q)] at z ⊢
      exact R.sl i s z
@[reducible] def Sl.free : Sl → Prop
  | .un | .any | .d _ | .p _ => True
  | _ => False
theorem rp_unwipe {σ2 : L2.St} (R : Rp c A ρ σ2 H) {v : Nat} (e : wipe σ2 [v] = wipe σ [v]) {s : Sl} (h : ρ[v]? = some s) (hs : s.free) : Rp c A (ρ.set v .any) σ H := by
  have len : σ2.length = σ.length := by
    have := congrArg List.length e
    rw [wipe_length, wipe_length] at this
    exact this
  refine ⟨by rw [List.length_set, ← len, R.len], by rw [List.length_set]; exact R.sz, R.inj, R.off, R.live, R.keep, R.old, R.bor, ?_, R.tz, R.tb⟩
  intro i t z
  by_cases q : i = v
  · subst q
    have lt := (List.getElem?_eq_some_iff.mp h).1
    rw [List.getElem?_set_self lt] at z
    cases z
    have o := R.sl i _ h
    show A i = none
    cases s with
    | un => exact o.2
    | any => exact o
    | d x => exact o.1
    | p P => exact o.1
    | l xs => exact hs.elim
    | la a xs => exact hs.elim
    | wa a xs => exact hs.elim
    | dk _ => exact hs.elim
    | lm _ => exact hs.elim
  · rw [List.getElem?_set_ne (Ne.symm q)] at z
    have e' : σ2[i]? = σ[i]? := by
      have := congrArg (fun l : L2.St => l[i]?) e
      show σ2[i]? = σ[i]?
      have h1 : (wipe σ2 [v])[i]? = σ2[i]? := List.getElem?_set_ne (Ne.symm q)
      have h2 : (wipe σ [v])[i]? = σ[i]? := List.getElem?_set_ne (Ne.symm q)
      rw [← h1, ← h2]
      exact this
    rw [← e']
    exact R.sl i t z
end
section
variable {ρ ρ0 : List Sl} {te : TE} {xs : List PyData} {wi : TI} {v : Nat}
/-- [te for v in xs]: R j, what stands ahead of turn j (the slot v is any), acc j what is made so far -/
theorem el_lc (h : Fi wi ρ xs ρ0) (R : Nat → List Sl) (acc : Nat → List PyData) (h0 : R 0 = ρ0.set v .any) (hv : ∃ s, ρ0[v]? = some s ∧ s.free) (ha : acc 0 = []) (v0 : v ≠ 0 := by decide)
    (len : ∀ j, j < xs.length → (acc j).length < sizeLine)
    (hs : ∀ j x, xs[j]? = some x → (R j)[v]? = some .any → ∃ y ρ4, Ev te ((R j).set v (.d x)) (.d y) ρ4 ∧ acc (j + 1) = acc j ++ [y] ∧ ρ4.set v .any = R (j + 1) ∧ ∃ s, ρ4[v]? = some s ∧ s.free) :
    El (tLc wi (gName v) tYes te [v]) ρ (acc xs.length) (R xs.length) := fun c A σ H Q R0 f q =>
  h c A σ H _ R0 f fun J A1 H1 R1 f1 S1 jk => fun D hD => by
    obtain ⟨s0, hs0, ns0⟩ := hv
    have any0 : Rp c A1 (ρ0.set v .any) σ H1 := rp_unwipe R1 rfl hs0 ns0
    have lt0 := (List.getElem?_eq_some_iff.mp hs0).1
    refine ⟨fun j m H' => m = xs.length - j ∧ j ≤ xs.length ∧ ∃ A' vs, Rp c A' (R j) σ H' ∧ (R j)[v]? = some .any ∧ A' fl = some D ∧ H' D = some (.lst vs) ∧ DnAll (vw c.Z A' H') vs (acc j) ∧ Same (vw c.Z A1 H1) (vw c.Z A' H'), ⟨xs.length, by simp, Nat.zero_le _, _, [], by rw [h0]; exact any0.fly hD, ?_, aset_at, upd_same, by rw [ha]; exact .nil, vw_fly hD⟩, ?_⟩
    · rw [h0, List.getElem?_set_self lt0]
    rintro j m H' ⟨rfl, hj, A', vs, R', an, f', eD, dx, S'⟩
    have SJ : Same (vw c.Z A1 H1) H' := S'.trans vw_sub
    by_cases lt : j < xs.length
    · have e := List.getElem?_eq_getElem lt
      obtain ⟨go, yl⟩ := jk.1 j _ H' e SJ
      refine Or.inr ⟨go, fun H2 => j + 1 ≤ xs.length ∧ ∃ A' vs, Rp c A' (R (j + 1)) σ H2 ∧ (R (j + 1))[v]? = some .any ∧ A' fl = some D ∧ H2 D = some (.lst vs) ∧ DnAll (vw c.Z A' H2) vs (acc (j + 1)) ∧ Same (vw c.Z A1 H1) (vw c.Z A' H2), fun H2 p => ⟨xs.length - (j + 1), by omega, rfl, p.1, p.2⟩, fun w H2 y => ?_⟩
      obtain ⟨S2, dn⟩ := yl w H2 y
      have R2 := R'.up S2
      have eD2 := S2 _ _ eD
      have dx2 : DnAll (vw c.Z A' H2) vs (acc j) := DnAll.mono (vw_up S2) dx
      have dw : Dn (vw c.Z A' H2) w xs[j] := dn _ (S'.trans (vw_up S2)) fun b o n e => new_view R' n e
      have P := R2.park f'
      have hvp := vw_park (c := c) (H := H2) f' R2.inj
      have PW := rp_wipe P an
      have PS := PW.set (i := v) (v := w) (s := .d xs[j]) v0 ⟨rfl, w, rfl, by
        show Dn (vw (fun b => c.Z b ∨ b = D) (aset A' fl none) H2) w xs[j]
        rw [hvp]
        exact dw⟩
      obtain ⟨y, ρ4, ev, ea, eR, s4, hs4, ns4⟩ := hs j _ e an
      rw [List.set_set] at PS
      have wip : wipe ((wipe σ [v]).set v (some w)) [v] = wipe σ [v] := by
        show ((σ.set v none).set v (some w)).set v none = σ.set v none
        rw [List.set_set, List.set_set]
      refine ⟨wip, ?_⟩
      have vfl : fl ≠ v := (idx_small R'.sz an).symm
      refine ev (c.park D H2 (vw c.Z A' H2)) _ _ H2 _ PS (by rw [aset_ne vfl]; exact aset_at) fun u A3 H3 R3 f3 S3 o3 => ?_
      have nZ : ¬ c.Z D := R2.off _ _ f'
      have U := R3.unpark f3 nZ R2.tz (fun a z => R2.keep a z) R2.old
      have U1 := rp_unwipe U wip hs4 ns4
      have kD := (R3.keep D (Or.inr rfl) (R2.nt f')).2
      have eD3 : H3 D = some (.lst vs) := kD.trans eD2
      have hv3 := vw_unpark (c := c) (H := H3) (D := D) f3
      have o3' : Dn (vw c.Z (aset A3 fl (some D)) H3) u y := by
        rw [hv3]
        exact o3
      have SS : Same (vw c.Z A' H2) (vw c.Z (aset A3 fl (some D)) H3) := by
        rw [hv3]
        exact R3.old
      rw [eR] at U1
      refine ⟨vs, eD3, by rw [dx.length]; exact len j lt, lt, aset A3 fl (some D), vs ++ [u], U1.mutFl aset_at, ?_, aset_at, upd_same, ?_, ?_⟩
      · rw [← eR, List.getElem?_set_self (List.getElem?_eq_some_iff.mp hs4).1]
      · rw [vw_mut (A := aset A3 fl (some D)) (i := fl) aset_at, ea]
        exact (DnAll.mono SS dx2).snoc o3'
      · rw [vw_mut (A := aset A3 fl (some D)) (i := fl) aset_at]
        exact (S'.trans (vw_up S2)).trans SS
    · have e : j = xs.length := by omega
      subst e
      exact Or.inl ⟨jk.2 H' SJ, q D vs A' H' R' f' (S1.trans S') eD dx⟩
/-- .. where the element changes nothing -/
theorem el_lcP {f : PyData → PyData} (h : Fi wi ρ xs ρ0) (hv : ∃ s, ρ0[v]? = some s ∧ s.free) (len : xs.length ≤ sizeLine) (hs : ∀ x, x ∈ xs → Ev te (ρ0.set v (.d x)) (.d (f x)) (ρ0.set v (.d x))) (v0 : v ≠ 0 := by decide) :
    El (tLc wi (gName v) tYes te [v]) ρ (xs.map f) (ρ0.set v .any) := by
  obtain ⟨s0, hs0, ns0⟩ := hv
  have lt0 := (List.getElem?_eq_some_iff.mp hs0).1
  have := el_lc (te := te) h (fun _ => ρ0.set v .any) (fun j => (xs.take j).map f) rfl ⟨s0, hs0, ns0⟩ rfl v0 (fun j hj => by rw [List.length_map, List.length_take]; omega) fun j x e _ => by
    refine ⟨f x, ρ0.set v (.d x), ?_, ?_, by rw [List.set_set], .d x, List.getElem?_set_self lt0, trivial⟩
    · show Ev te ((ρ0.set v .any).set v (.d x)) _ _
      rw [List.set_set]
      exact hs x (List.mem_of_getElem? e)
    · show (xs.take (j + 1)).map f = (xs.take j).map f ++ [f x]
      rw [take_snoc e, List.map_append]
      rfl
  have e2 : (xs.take xs.length).map f = xs.map f := by rw [List.take_length]
  rw [← e2]
  exact this
end
end OW
set_option Elab.async false
set_option linter.unusedVariables false
set_option linter.unusedSectionVars false
set_option maxRecDepth 100000
set_option maxHeartbeats 1000000
namespace OW
open PySem PySem.Spec PyProof.Rows L2 KA
variable [Tbs]
/-! ### comprehensions with targets of several names, and with a test -/
def anys (ρ : List Sl) : List Nat → List Sl
  | [] => ρ
  | v :: vs => (anys ρ vs).set v .any
def unsA (ρ : List Sl) : List Nat → List Sl
  | [] => ρ
  | v :: vs => (unsA ρ vs).set v .un
def freeAt (ρ : List Sl) : List Nat → Prop
  | [] => True
  | v :: vs => (∃ s, ρ[v]? = some s ∧ s.free) ∧ freeAt ρ vs
theorem freeAt_mem {ρ : List Sl} : ∀ {vs : List Nat} {v : Nat}, freeAt ρ vs → v ∈ vs → ∃ s, ρ[v]? = some s ∧ s.free
  | u :: vs, v, h, m => by
    rcases List.mem_cons.mp m with rfl | m
    · exact h.1
    · exact freeAt_mem h.2 m
theorem anys_length (ρ : List Sl) : ∀ vs : List Nat, (anys ρ vs).length = ρ.length
  | [] => rfl
  | v :: vs => by show ((anys ρ vs).set v .any).length = _; rw [List.length_set, anys_length ρ vs]
theorem unsA_length (ρ : List Sl) : ∀ vs : List Nat, (unsA ρ vs).length = ρ.length
  | [] => rfl
  | v :: vs => by show ((unsA ρ vs).set v .un).length = _; rw [List.length_set, unsA_length ρ vs]
theorem anys_in {ρ : List Sl} {i : Nat} : ∀ {vs : List Nat}, i ∈ vs → i < ρ.length → (anys ρ vs)[i]? = some .any
  | v :: vs, h, lt => by
    show ((anys ρ vs).set v .any)[i]? = _
    by_cases e : v = i
    · subst e
      exact List.getElem?_set_self (by rw [anys_length]; exact lt)
    · rw [List.getElem?_set_ne e]
      exact anys_in ((List.mem_cons.mp h).resolve_left (Ne.symm e)) lt
theorem anys_out {ρ : List Sl} {i : Nat} : ∀ {vs : List Nat}, i ∉ vs → (anys ρ vs)[i]? = ρ[i]?
  | [], _ => rfl
  | v :: vs, h => by
    show ((anys ρ vs).set v .any)[i]? = _
    rw [List.getElem?_set_ne fun e => h (by rw [e]; exact List.mem_cons_self)]
    exact anys_out fun m => h (List.mem_cons_of_mem _ m)
theorem unsA_in {ρ : List Sl} {i : Nat} : ∀ {vs : List Nat}, i ∈ vs → i < ρ.length → (unsA ρ vs)[i]? = some .un
  | v :: vs, h, lt => by
    show ((unsA ρ vs).set v .un)[i]? = _
    by_cases e : v = i
    · subst e
      exact List.getElem?_set_self (by rw [unsA_length]; exact lt)
    · rw [List.getElem?_set_ne e]
      exact unsA_in ((List.mem_cons.mp h).resolve_left (Ne.symm e)) lt
theorem unsA_out {ρ : List Sl} {i : Nat} : ∀ {vs : List Nat}, i ∉ vs → (unsA ρ vs)[i]? = ρ[i]?
  | [], _ => rfl
  | v :: vs, h => by
    show ((unsA ρ vs).set v .un)[i]? = _
    rw [List.getElem?_set_ne fun e => h (by rw [e]; exact List.mem_cons_self)]
    exact unsA_out fun m => h (List.mem_cons_of_mem _ m)
theorem anys_ext {ρ ρ' : List Sl} {vs : List Nat} (len : ρ'.length = ρ.length) (h : ∀ i, i ∉ vs → ρ'[i]? = ρ[i]?) : anys ρ' vs = anys ρ vs := by
  apply List.ext_getElem?
  intro i
  by_cases m : i ∈ vs
  · by_cases lt : i < ρ.length
    · rw [anys_in m lt, anys_in m (by rw [len]; exact lt)]
    · rw [List.getElem?_eq_none (by rw [anys_length]; omega), List.getElem?_eq_none (by rw [anys_length]; omega)]
  · rw [anys_out m, anys_out m]
    exact h i m
theorem anys_set {ρ : List Sl} {vs : List Nat} {i : Nat} {s : Sl} (m : i ∈ vs) : anys (ρ.set i s) vs = anys ρ vs := anys_ext (List.length_set ..) fun j n => List.getElem?_set_ne fun e => n (by rw [← e]; exact m)
theorem anys_uns {ρ : List Sl} {vs : List Nat} : anys (unsA ρ vs) vs = anys ρ vs := anys_ext (unsA_length ..) fun i n => unsA_out n
theorem anys_anys {ρ : List Sl} {vs : List Nat} : anys (anys ρ vs) vs = anys ρ vs := anys_ext (anys_length ..) fun i n => anys_out n
theorem wipe_in {σ : L2.St} {i : Nat} : ∀ {vs : List Nat}, i ∈ vs → i < σ.length → (wipe σ vs)[i]? = some none
  | v :: vs, h, lt => by
    show ((wipe σ vs).set v none)[i]? = _
    by_cases e : v = i
    · subst e
      exact List.getElem?_set_self (by rw [wipe_length]; exact lt)
    · rw [List.getElem?_set_ne e]
      exact wipe_in ((List.mem_cons.mp h).resolve_left (Ne.symm e)) lt
theorem wipe_ext {σ σ' : L2.St} {vs : List Nat} (len : σ'.length = σ.length) (h : ∀ i, i ∉ vs → σ'[i]? = σ[i]?) : wipe σ' vs = wipe σ vs := by
  apply List.ext_getElem?
  intro i
  by_cases m : i ∈ vs
  · by_cases lt : i < σ.length
    · rw [wipe_in m lt, wipe_in m (by rw [len]; exact lt)]
    · rw [List.getElem?_eq_none (by rw [wipe_length]; omega), List.getElem?_eq_none (by rw [wipe_length]; omega)]
  · rw [wipe_out m, wipe_out m]
    exact h i m
theorem wipe_set {σ : L2.St} {vs : List Nat} {i : Nat} {x : Option V} (m : i ∈ vs) : wipe (σ.set i x) vs = wipe σ vs := wipe_ext (List.length_set ..) fun j n => List.getElem?_set_ne fun e => n (by rw [← e]; exact m)
theorem wipe_wipe {σ : L2.St} {vs : List Nat} : wipe (wipe σ vs) vs = wipe σ vs := wipe_ext (wipe_length ..) fun i n => wipe_out n
section
variable {c : Fr} {A A' : Am} {ρ ρ' : List Sl} {σ : L2.St} {H H' : Hp}
theorem rp_wipes (R : Rp c A ρ σ H) {vs : List Nat} (h : ∀ v ∈ vs, ρ[v]? = some .any) : Rp c A (unsA ρ vs) (wipe σ vs) H := by
  refine ⟨by rw [wipe_length, unsA_length, R.len], by rw [unsA_length]; exact R.sz, R.inj, R.off, R.live, R.keep, R.old, R.bor, ?_, R.tz, R.tb⟩
  intro i s z
  by_cases m : i ∈ vs
  · have lt := (List.getElem?_eq_some_iff.mp (h i m)).1
    rw [unsA_in m lt] at z
    cases z
    rw [wipe_in m (by rw [R.len]; exact lt)]
    exact ⟨rfl, R.sl i _ (h i m)⟩
  · rw [unsA_out m] at z
    rw [wipe_out m]
    exact R.sl i s z
theorem rp_unwipes {σ2 : L2.St} (R : Rp c A ρ σ2 H) {vs : List Nat} (e : wipe σ2 vs = wipe σ vs) (h : freeAt ρ vs) : Rp c A (anys ρ vs) σ H := by
  have len : σ2.length = σ.length := by
    have := congrArg List.length e
    rw [wipe_length, wipe_length] at this
    exact this
  refine ⟨by rw [anys_length, ← len, R.len], by rw [anys_length]; exact R.sz, R.inj, R.off, R.live, R.keep, R.old, R.bor, ?_, R.tz, R.tb⟩
  intro i t z
  by_cases m : i ∈ vs
  · obtain ⟨s, hs, fs⟩ := freeAt_mem h m
    have lt := (List.getElem?_eq_some_iff.mp hs).1
    rw [anys_in m lt] at z
    cases z
    have o := R.sl i _ hs
    show A i = none
    cases s with
    | un => exact o.2
    | any => exact o
    | d x => exact o.1
    | p P => exact o.1
    | l xs => exact fs.elim
    | la a xs => exact fs.elim
    | wa a xs => exact fs.elim
    | dk _ => exact fs.elim
    | lm _ => exact fs.elim
  · rw [anys_out m] at z
    have e' : σ2[i]? = σ[i]? := by
      rw [← wipe_out (σ := σ2) m, e, wipe_out m]
    rw [← e']
    exact R.sl i t z
end
/-- a target that changes no slot but vs -/
def TgW (vs : List Nat) (g : TG) (s : Sl) (ρ ρ' : List Sl) : Prop := ∀ (c : Fr) (A : Am) (σ : L2.St) (H : Hp) (v : V) (Q : L2.St → Hp → Prop), Rp c A ρ σ H → A fl = none → ArOk (vw c.Z A H) v s →
  (∀ A' σ' H', Rp c A' ρ' σ' H' → A' fl = none → Same (vw c.Z A H) (vw c.Z A' H') → wipe σ' vs = wipe σ vs → Q σ' H') → g v σ H Q
def TgsW (vs : List Nat) (g : TGs) (ss : List Sl) (ρ ρ' : List Sl) : Prop := ∀ (c : Fr) (A : Am) (σ : L2.St) (H : Hp) (ws : List V) (Q : L2.St → Hp → Prop), Rp c A ρ σ H → A fl = none → ArAll (vw c.Z A H) ws ss →
  (∀ A' σ' H', Rp c A' ρ' σ' H' → A' fl = none → Same (vw c.Z A H) (vw c.Z A' H') → wipe σ' vs = wipe σ vs → Q σ' H') → g ws σ H Q
section
variable {ρ ρ' ρ0 ρ1 ρ2 : List Sl} {te ta tb tc : TE} {s s' : Sl} {x y : PyData} {i k : Nat} {tr : TA} {xs ys : List PyData} {ss : List Sl} {g : TG} {gs : TGs} {KF : PySem.W.Frag} {vs : List Nat} {wi : TI} {tt : TT}
theorem tgw_name (m : i ∈ vs := by decide) (i0 : i ≠ 0 := by decide) (i1 : i ≠ fl := by decide) : TgW vs (gName i) s ρ (ρ.set i s) := fun c A σ H v Q R f o q =>
  q _ _ H (R.set i0 o.sl) (by rw [aset_ne i1.symm]; exact f) vw_land (wipe_set m)
theorem tgsw_nil : TgsW vs gNil [] ρ ρ := fun c A σ H ws Q R f o q => by
  cases ws with
  | nil => exact ⟨rfl, q A σ H R f (Same.refl _) rfl⟩
  | cons _ _ => exact o.elim
theorem tgsw_cons (h : TgW vs g s ρ ρ1) (k : TgsW vs gs ss ρ1 ρ2) : TgsW vs (gCons g gs) (s :: ss) ρ ρ2 := fun c A σ H ws Q R f o q => by
  cases ws with
  | nil => exact o.elim
  | cons v ws => exact ⟨v, ws, rfl, h c A σ H v _ R f o.1 fun A1 σ1 H1 R1 f1 S1 w1 => k c A1 σ1 H1 ws _ R1 f1 (o.2.mono S1) fun A2 σ2 H2 R2 f2 S2 w2 => q A2 σ2 H2 R2 f2 (S1.trans S2) (w2.trans w1)⟩
theorem tgw_tup {n : Nat} (h : TgsW vs gs (xs.map Sl.d) ρ ρ1) (len : xs.length = n := by rfl) : TgW vs (gTup KF n gs) (.d (.tuple xs)) ρ ρ1 := fun c A σ H v Q R f o q => by
  obtain ⟨a, ws, rfl, e, dx⟩ := tup_v o
  exact ⟨a, ws, rfl, SqT.of (vw_sub _ _ e), dx.length.trans len, h c A σ H ws _ R f (arAll_d dx) q⟩
/-- a walk whose list may be owned, as long as each turn keeps it -/
def FiR (wi : TI) (ρ : List Sl) (xs : List PyData) (ρ0 : List Sl) (R : Nat → List Sl) : Prop := ∀ (c : Fr) (A : Am) (σ : L2.St) (H : Hp) (R0 : It → Hp → Prop), Rp c A ρ σ H → A fl = none →
  (∀ J A1 H1, Rp c A1 ρ0 σ H1 → A1 fl = none → Same (vw c.Z A H) (vw c.Z A1 H1) →
    (∀ (j : Nat) A' H', j ≤ xs.length → Rp c A' (R j) σ H' → Same (vw c.Z A1 H1) (vw c.Z A' H') → (∀ x, xs[j]? = some x → J.go j H' ∧ ∀ v H2, J.yld j H' v H2 → Same H' H2 ∧ Dn (vw c.Z A' H2) v x) ∧ (j = xs.length → J.stop j H')) → R0 J H1) → wi σ H R0
theorem fiR {R : Nat → List Sl} (h : Fi wi ρ xs ρ0) : FiR wi ρ xs ρ0 R := fun c A σ H R0 RR f k => h c A σ H R0 RR f fun J A1 H1 R1 f1 S1 jk => k J A1 H1 R1 f1 S1 fun j A' H' hj R' S' => by
  refine ⟨fun x e => ?_, fun e => ?_⟩
  · obtain ⟨go, yl⟩ := jk.1 j x H' e (S'.trans vw_sub)
    refine ⟨go, fun v H2 y => ?_⟩
    obtain ⟨S2, dn⟩ := yl v H2 y
    exact ⟨S2, dn _ (S'.trans (vw_up S2)) fun b o n e => new_view R' n e⟩
  · subst e
    exact jk.2 H' (S'.trans vw_sub)
theorem fiR_own {R : Nat → List Sl} (h : ρ[k]? = some (.l xs)) (hR : ∀ j, j ≤ xs.length → (R j)[k]? = some (.l xs)) : FiR (iList KF (tVar k)) ρ xs ρ R := fun c A σ H R0 RR f kk => by
  obtain ⟨a, us, e, e1, e2, dx⟩ := RR.sl k _ h
  refine ⟨_, e1, a, rfl, ⟨us, SqL.of e2⟩, kk _ A H RR f (Same.refl _) fun j A' H' hj R' S' => ?_⟩
  obtain ⟨b, ws, e3, e4, e5, dy⟩ := R'.sl k _ (hR j hj)
  rw [e1] at e4
  cases e4
  refine ⟨fun x ex => ?_, fun ej => ?_⟩
  · have lt : j < ws.length := by rw [dy.length]; exact (List.getElem?_eq_some_iff.mp ex).1
    refine ⟨⟨ws, ws[j], SqL.of e5, List.getElem?_eq_getElem lt⟩, fun v H3 ⟨q1, q2⟩ => ?_⟩
    subst q1
    refine ⟨Same.refl _, ?_⟩
    obtain ⟨x', e', dn⟩ := dn_at dy (q2 ws (SqL.of e5))
    rw [ex] at e'
    cases e'
    exact dn
  · subst ej
    exact ⟨ws, SqL.of e5, by rw [dy.length]; exact Nat.le_refl _⟩
theorem el_lcR (R : Nat → List Sl) (h : FiR wi ρ xs ρ0 R) (acc : Nat → List PyData) (h0 : R 0 = anys ρ0 vs) (hv : freeAt ρ0 vs) (ha : acc 0 = [])
    (len : ∀ j, j < xs.length → (acc j).length < sizeLine)
    (hs : ∀ j x, xs[j]? = some x → (∀ v ∈ vs, (R j)[v]? = some .any) → ∃ ρ2 ρ3 b, TgW vs g (.d x) (unsA (R j) vs) ρ2 ∧ Et tt ρ2 b ρ3 ∧
      (b = true → ∃ y ρ4, Ev te ρ3 (.d y) ρ4 ∧ acc (j + 1) = acc j ++ [y] ∧ anys ρ4 vs = R (j + 1) ∧ freeAt ρ4 vs) ∧ (b = false → acc (j + 1) = acc j ∧ anys ρ3 vs = R (j + 1) ∧ freeAt ρ3 vs)) :
    El (tLc wi g tt te vs) ρ (acc xs.length) (R xs.length) := fun c A σ H Q R0 f q =>
  h c A σ H _ R0 f fun J A1 H1 R1 f1 S1 jk => fun D hD => by
    have any0 : Rp c A1 (anys ρ0 vs) σ H1 := rp_unwipes R1 rfl hv
    have lts : ∀ v ∈ vs, v < ρ0.length := fun v m => by
      obtain ⟨s, hs, _⟩ := freeAt_mem hv m
      exact (List.getElem?_eq_some_iff.mp hs).1
    refine ⟨fun j m H' => m = xs.length - j ∧ j ≤ xs.length ∧ ∃ A' us, Rp c A' (R j) σ H' ∧ (∀ v ∈ vs, (R j)[v]? = some .any) ∧ A' fl = some D ∧ H' D = some (.lst us) ∧ DnAll (vw c.Z A' H') us (acc j) ∧ Same (vw c.Z A1 H1) (vw c.Z A' H'), ⟨xs.length, by simp, Nat.zero_le _, _, [], by rw [h0]; exact any0.fly hD, ?_, aset_at, upd_same, by rw [ha]; exact .nil, vw_fly hD⟩, ?_⟩
    · intro v m
      rw [h0]
      exact anys_in m (lts v m)
    rintro j m H' ⟨rfl, hj, A', us, R', an, f', eD, dx, S'⟩
    by_cases lt : j < xs.length
    · have e := List.getElem?_eq_getElem lt
      obtain ⟨go, yl⟩ := (jk j A' H' hj R' S').1 _ e
      refine Or.inr ⟨go, fun H2 => j + 1 ≤ xs.length ∧ ∃ A' us, Rp c A' (R (j + 1)) σ H2 ∧ (∀ v ∈ vs, (R (j + 1))[v]? = some .any) ∧ A' fl = some D ∧ H2 D = some (.lst us) ∧ DnAll (vw c.Z A' H2) us (acc (j + 1)) ∧ Same (vw c.Z A1 H1) (vw c.Z A' H2), fun H2 p => ⟨xs.length - (j + 1), by omega, rfl, p.1, p.2⟩, fun w H2 y => ?_⟩
      obtain ⟨S2, dn⟩ := yl w H2 y
      have R2 := R'.up S2
      have eD2 := S2 _ _ eD
      have dx2 : DnAll (vw c.Z A' H2) us (acc j) := DnAll.mono (vw_up S2) dx
      have dw : Dn (vw c.Z A' H2) w xs[j] := dn
      have P := R2.park f'
      have hvp := vw_park (c := c) (H := H2) f' R2.inj
      have PW := rp_wipes P an
      obtain ⟨ρ2, ρ3, b, tg, et, yes, no⟩ := hs j _ e an
      refine tg (c.park D H2 (vw c.Z A' H2)) _ _ H2 w _ PW aset_at (by
        show Dn (vw (fun b => c.Z b ∨ b = D) (aset A' fl none) H2) w xs[j]
        rw [hvp]
        exact dw) fun A3 σ3 H3 R3 f3 S3 w3 => ⟨w3.trans wipe_wipe, ?_⟩
      have wip : wipe σ3 vs = wipe σ vs := w3.trans wipe_wipe
      refine et (c.park D H2 (vw c.Z A' H2)) A3 σ3 H3 _ R3 f3 fun A4 H4 R4 f4 S4 => ?_
      have nZ : ¬ c.Z D := R2.off _ _ f'
      have back : ∀ {A5 : Am} {ρ5 : List Sl} {H5 : Hp}, Rp (c.park D H2 (vw c.Z A' H2)) A5 ρ5 σ3 H5 → A5 fl = none → freeAt ρ5 vs → Rp c (aset A5 fl (some D)) (anys ρ5 vs) σ H5 ∧ H5 D = some (.lst us) ∧ Same (vw c.Z A' H2) (vw c.Z (aset A5 fl (some D)) H5) := by
        intro A5 ρ5 H5 R5 f5 fr5
        have U := R5.unpark f5 nZ R2.tz (fun a z => R2.keep a z) R2.old
        refine ⟨rp_unwipes U wip fr5, ((R5.keep D (Or.inr rfl) (R2.nt f')).2).trans eD2, ?_⟩
        rw [vw_unpark (c := c) (H := H5) (D := D) f5]
        exact R5.old
      have lts2 : ∀ {ρ5 : List Sl}, freeAt ρ5 vs → ∀ v ∈ vs, (anys ρ5 vs)[v]? = some .any := fun fr v m => by
        obtain ⟨s, hs, _⟩ := freeAt_mem fr m
        exact anys_in m (List.getElem?_eq_some_iff.mp hs).1
      cases b with
      | true =>
        obtain ⟨y, ρ4, ev, ea, eR, fr⟩ := yes rfl
        show te σ3 H4 _
        refine ev (c.park D H2 (vw c.Z A' H2)) A4 σ3 H4 _ R4 f4 fun u A5 H5 R5 f5 S5 o5 => ?_
        obtain ⟨U1, eD3, SS⟩ := back R5 f5 fr
        have o5' : Dn (vw c.Z (aset A5 fl (some D)) H5) u y := by
          rw [vw_unpark (c := c) (H := H5) (D := D) f5]
          exact o5
        have an2 := lts2 fr
        rw [eR] at U1 an2
        refine ⟨us, eD3, by rw [dx.length]; exact len j lt, lt, aset A5 fl (some D), us ++ [u], U1.mutFl aset_at, an2, aset_at, upd_same, ?_, ?_⟩
        · rw [vw_mut (A := aset A5 fl (some D)) (i := fl) aset_at, ea]
          exact (DnAll.mono SS dx2).snoc o5'
        · rw [vw_mut (A := aset A5 fl (some D)) (i := fl) aset_at]
          exact (S'.trans (vw_up S2)).trans SS
      | false =>
        obtain ⟨ea, eR, fr⟩ := no rfl
        obtain ⟨U1, eD3, SS⟩ := back R4 f4 fr
        have an2 := lts2 fr
        rw [eR] at U1 an2
        show j + 1 ≤ xs.length ∧ _
        refine ⟨lt, aset A4 fl (some D), us, U1, an2, aset_at, eD3, ?_, (S'.trans (vw_up S2)).trans SS⟩
        rw [ea]
        exact DnAll.mono SS dx2
    · have e : j = xs.length := by omega
      subst e
      exact Or.inl ⟨(jk _ A' H' hj R' S').2 rfl, q D us A' H' R' f' (S1.trans S') eD dx⟩
theorem el_lcG (h : Fi wi ρ xs ρ0) (R : Nat → List Sl) (acc : Nat → List PyData) (h0 : R 0 = anys ρ0 vs) (hv : freeAt ρ0 vs) (ha : acc 0 = [])
    (len : ∀ j, j < xs.length → (acc j).length < sizeLine)
    (hs : ∀ j x, xs[j]? = some x → (∀ v ∈ vs, (R j)[v]? = some .any) → ∃ ρ2 ρ3 b, TgW vs g (.d x) (unsA (R j) vs) ρ2 ∧ Et tt ρ2 b ρ3 ∧
      (b = true → ∃ y ρ4, Ev te ρ3 (.d y) ρ4 ∧ acc (j + 1) = acc j ++ [y] ∧ anys ρ4 vs = R (j + 1) ∧ freeAt ρ4 vs) ∧ (b = false → acc (j + 1) = acc j ∧ anys ρ3 vs = R (j + 1) ∧ freeAt ρ3 vs)) :
    El (tLc wi g tt te vs) ρ (acc xs.length) (R xs.length) := el_lcR R (fiR h) acc h0 hv ha len hs
theorem et_yes : Et tYes ρ true ρ := fun c A σ H Q R f q => q A H R f (Same.refl _)
/-- .. where nothing is changed: mapped and sieved -/
theorem el_lcF {f : PyData → PyData} {p : PyData → Bool} (h : Fi wi ρ xs ρ0) (hv : freeAt ρ0 vs) (len : xs.length ≤ sizeLine)
    (hs : ∀ x, x ∈ xs → ∃ ρ2, TgW vs g (.d x) (unsA (anys ρ0 vs) vs) ρ2 ∧ Et tt ρ2 (p x) ρ2 ∧ (p x = true → Ev te ρ2 (.d (f x)) ρ2) ∧ anys ρ2 vs = anys ρ0 vs ∧ freeAt ρ2 vs) :
    El (tLc wi g tt te vs) ρ ((xs.filter p).map f) (anys ρ0 vs) := by
  have lf : ∀ j, ((xs.take j).filter p).length ≤ j := fun j => Nat.le_trans (List.length_filter_le _ _) (by rw [List.length_take]; omega)
  have := el_lcG (g := g) (tt := tt) (te := te) (vs := vs) h (fun _ => anys ρ0 vs) (fun j => ((xs.take j).filter p).map f) rfl hv rfl (fun j hj => by rw [List.length_map]; exact Nat.lt_of_le_of_lt (lf j) (by omega)) fun j x e _ => by
    obtain ⟨ρ2, a, b, c, d, fr⟩ := hs x (List.mem_of_getElem? e)
    refine ⟨ρ2, ρ2, p x, a, b, fun hp => ⟨f x, ρ2, c hp, ?_, d, fr⟩, fun hp => ⟨?_, d, fr⟩⟩
    · show ((xs.take (j + 1)).filter p).map f = ((xs.take j).filter p).map f ++ [f x]
      rw [take_snoc e, List.filter_append, List.map_append, List.filter_cons_of_pos hp]
      rfl
    · show ((xs.take (j + 1)).filter p).map f = ((xs.take j).filter p).map f
      rw [take_snoc e, List.filter_append, List.filter_cons_of_neg (by rw [hp]; decide), List.filter_nil, List.append_nil]
  rw [List.take_length] at this
  exact this
/-- .. place by place -/
theorem el_lcYR (h : FiR wi ρ xs ρ0 fun _ => anys ρ0 vs) (hv : freeAt ρ0 vs) (len : xs.length ≤ sizeLine) (hl : ys.length = xs.length)
    (hs : ∀ (j : Nat) x y, xs[j]? = some x → ys[j]? = some y → ∃ ρ2, TgW vs g (.d x) (unsA (anys ρ0 vs) vs) ρ2 ∧ Ev te ρ2 (.d y) ρ2 ∧ anys ρ2 vs = anys ρ0 vs ∧ freeAt ρ2 vs) :
    El (tLc wi g tYes te vs) ρ ys (anys ρ0 vs) := by
  have := el_lcR (g := g) (tt := tYes) (te := te) (vs := vs) (fun _ => anys ρ0 vs) h (fun j => ys.take j) rfl hv rfl (fun j hj => by rw [List.length_take]; omega) fun j x e _ => by
    have lt : j < ys.length := by rw [hl]; exact (List.getElem?_eq_some_iff.mp e).1
    have ey := List.getElem?_eq_getElem lt
    obtain ⟨ρ2, a, b, c, d⟩ := hs j x _ e ey
    exact ⟨ρ2, ρ2, true, a, et_yes, fun _ => ⟨_, ρ2, b, take_snoc ey, c, d⟩, fun z => by cases z⟩
  rw [← hl, List.take_length] at this
  exact this
theorem el_lcY (h : Fi wi ρ xs ρ0) (hv : freeAt ρ0 vs) (len : xs.length ≤ sizeLine) (hl : ys.length = xs.length)
    (hs : ∀ (j : Nat) x y, xs[j]? = some x → ys[j]? = some y → ∃ ρ2, TgW vs g (.d x) (unsA (anys ρ0 vs) vs) ρ2 ∧ Ev te ρ2 (.d y) ρ2 ∧ anys ρ2 vs = anys ρ0 vs ∧ freeAt ρ2 vs) :
    El (tLc wi g tYes te vs) ρ ys (anys ρ0 vs) := el_lcYR (fiR h) hv len hl hs
/-- .. mapped -/
theorem el_lcM {f : PyData → PyData} (h : Fi wi ρ xs ρ0) (hv : freeAt ρ0 vs) (len : xs.length ≤ sizeLine)
    (hs : ∀ x, x ∈ xs → ∃ ρ2, TgW vs g (.d x) (unsA (anys ρ0 vs) vs) ρ2 ∧ Ev te ρ2 (.d (f x)) ρ2 ∧ anys ρ2 vs = anys ρ0 vs ∧ freeAt ρ2 vs) :
    El (tLc wi g tYes te vs) ρ (xs.map f) (anys ρ0 vs) := by
  have := el_lcF (f := f) (p := fun _ => true) (g := g) (tt := tYes) (te := te) h hv len fun x hx => by
    obtain ⟨ρ2, a, b, c, d⟩ := hs x hx
    exact ⟨ρ2, a, et_yes, fun _ => b, c, d⟩
  rw [List.filter_eq_self.mpr fun _ _ => rfl] at this
  exact this
theorem sm_seqI {t u : TS} {K : KK} (I : List Sl → Prop) (h : Sm t ρ { K with nx := I }) (k : ∀ ρ', I ρ' → Sm u ρ' K) : Sm (tSeq t u) ρ K :=
  sm_seq (sm_mono h k (fun _ _ z => z) (fun _ z => z) fun _ z => z)
theorem sm_par {i j : Nat} {ta : TA} {s t : Sl} {K : KK} (h : Es ta ρ [s, t] ρ1) (k : K.nx ((ρ1.set i s).set j t)) (i0 : i ≠ 0 := by decide) (i1 : i ≠ fl := by decide) (j0 : j ≠ 0 := by decide) (j1 : j ≠ fl := by decide) : Sm (tPar i j ta) ρ K := fun c A σ H D R f dk =>
  h c A σ H _ R f fun vs A1 H1 R1 f1 S1 o1 => by
    cases vs with
    | nil => exact o1.elim
    | cons v vs => cases vs with
      | nil => exact o1.2.elim
      | cons w vs => cases vs with
        | cons u vs => exact o1.2.2.elim
        | nil =>
          have o2 : ArOk (vw c.Z (aset A1 i none) H1) w t := o1.2.1.mono vw_land
          exact ⟨v, w, rfl, dk.nx _ _ _ _ k ((R1.set i0 o1.1.sl).set j0 o2.sl) (by rw [aset_ne j1.symm, aset_ne i1.symm]; exact f1)⟩
/-- slots of comprehensions: nothing is known of them -/
theorem sm_any {t : TS} {K : KK} (vs : List Nat) (hv : freeAt ρ vs) (g : Sm t (anys ρ vs) K) : Sm t ρ K := fun c A σ H D R f dk => g c A σ H D (rp_unwipes R rfl hv) f dk
theorem sm_freeze {t : TS} {K : KK} (k : Nat) (h : ρ[k]? = some (.l xs)) (g : Sm t (ρ.set k (.d (.list xs))) K) (k0 : k ≠ 0 := by decide) : Sm t ρ K := fun c A σ H D R f dk => by
  obtain ⟨a, e, e1, dn, R'⟩ := R.freeze k0 h
  exact g c _ σ H D R' (by rw [aset_ne (idx_small R.sz h).symm]; exact f) dk
/-! ### in a comprehension: the frame's K by an equation -/
section
variable {X : Cx} {K : PySem.W.Frag}
theorem op_in_seqK (e : X.K = K) : OpR X (compareOp .In) (rIn K false) := by subst e; exact op_in_seq
theorem op_notIn_seqK (e : X.K = K) : OpR X (compareOp .NotIn) (rIn K true) := by subst e; exact op_notIn_seq
theorem pg_tupK {es : List Expr} {k : Nat} {t : TGs} {n : Nat} {pos : Pos} (e : X.K = K) (hc : X.calm = true) (h : PGs X es t)
    (hn : (assignEach es X.env).length = n := by rfl) (hst : (assignEach es X.env).findIdx? (·.1) = none := by rfl) : PG X (.Tuple es k pos) (gTup K n t) := by subst e; exact pg_tup hc h hn hst
theorem ix_tupK (e : X.K = K) : IxR X (rIxT K) := by subst e; exact ix_tup
theorem ix_listK (e : X.K = K) : IxR X (rIxL K) := by subst e; exact ix_list
theorem sl_tupAK (e : X.K = K) : SlR X (rSlA K) := by subst e; exact sl_tupA
theorem sl_listK (e : X.K = K) : SlR X (rSlL K) := by subst e; exact sl_list
theorem op_catAK (e : X.K = K) : OpR X (binaryOp .Add) (rCatA K) := by subst e; exact op_catA
theorem call_len_seqK (e : X.K = K) : CallR X (.builtin "len") (fun xs H Q => ∃ p ys, xs = [.ref p] ∧ (SqL K H p ys ∨ SqT K H p ys) ∧ Q (.int ys.length) H) := by subst e; exact call_len_seq
end
/-! ### more operators -/
theorem ev_chain {r r' : R2} {a b c : Int} {f f' : Int → Int → Bool} (ha : Ev ta ρ (.d (.int a)) ρ1) (hb : Ev tb ρ1 (.d (.int b)) ρ2) (hc : f a b = true → Ev tc ρ2 (.d (.int c)) ρ2) (hr : FV2 r (.d (.int a)) (.d (.int b)) (.d (.bool (f a b)))) (hr' : FV2 r' (.d (.int b)) (.d (.int c)) (.d (.bool (f' b c)))) :
    Ev (tChain r r' ta tb tc) ρ (.d (.bool (f a b && f' b c))) ρ2 := fun cc A σ H Q R fl0 q =>
  ha cc A σ H _ R fl0 fun u A1 H1 R1 f1 S1 o1 => hb cc A1 σ H1 _ R1 f1 fun v A2 H2 R2 f2 S2 o2 => hr _ H2 u v _ vw_sub (o1.mono S2) o2 fun z H3 S3 o3 => by
    have R3 := R2.up S3
    have z0 := o3 _ (vw_up S3) fun b o n e => new_view R2 n e
    refine ⟨f a b, bool_v z0, ?_⟩
    cases e : f a b with
    | true =>
      rw [if_pos rfl]
      refine hc e cc A2 σ H3 _ R3 f2 fun w A4 H4 R4 f4 S4 o4 => hr' _ H4 v w Q vw_sub ((o2.mono (vw_up S3)).mono S4) o4 fun z' H5 S5 o5 => ?_
      rw [e, Bool.true_and] at q
      exact q z' A4 H5 (R4.up S5) f4 ((((S1.trans S2).trans (vw_up S3)).trans S4).trans (vw_up S5)) (o5 _ (vw_up S5) fun b o n e => new_view R4 n e)
    | false =>
      rw [if_neg (by decide)]
      rw [e, Bool.false_and] at q
      exact q _ A2 H3 R3 f2 ((S1.trans S2).trans (vw_up S3)) (.bl false)
theorem ev_negI {n : Int} (h : Ev te ρ (.d (.int n)) ρ1) : Ev (tUn (rU fun i => .int (-i)) te) ρ (.d (.int (-n))) ρ1 := fun c A σ H Q R f q => h c A σ H _ R f fun v A1 H1 R1 f1 S1 o1 => by
  obtain rfl := int_v o1
  exact ⟨n, rfl, q _ A1 H1 R1 f1 S1 (.int _)⟩
theorem ev_slS {tl th : TO} {z : Str} {lo hi : Option Int} (h : Ev te ρ (.d (.str z)) ρ') (h1 : Eo tl ρ' lo ρ1) (h2 : Eo th ρ1 hi ρ2) (len : z.length ≤ sizeLine) : Ev (tSl rSlS te tl th) ρ (.d (.str (cutS z lo hi))) ρ2 := fun c A σ H Q R f q =>
  h c A σ H _ R f fun v A1 H1 R1 f1 S1 o1 => h1 c A1 σ H1 _ R1 f1 fun A2 H2 R2 f2 S2 => h2 c A2 σ H2 _ R2 f2 fun A3 H3 R3 f3 S3 => by
    obtain rfl := str_v o1
    exact ⟨z, rfl, len, q _ A3 H3 R3 f3 ((S1.trans S2).trans S3) (.str _)⟩
theorem el_revL (h : Ev te ρ (.d (.list xs)) ρ1) : El (tRevL KF te) ρ xs.reverse ρ1 := fun c A σ H Q R f q =>
  h c A σ H _ R f fun v A1 H1 R1 f1 S1 o1 => by
    obtain ⟨a, us, rfl, e, dx⟩ := lst_v o1
    have rv : ∀ {us : List V} {xs : List PyData}, DnAll (vw c.Z A1 H1) us xs → DnAll (vw c.Z A1 H1) us.reverse xs.reverse := fun {us xs} h => by
      induction h using DnAll.rec (motive_1 := fun _ _ _ => True) with
      | nil => exact .nil
      | cons a b _ ih =>
        rw [List.reverse_cons, List.reverse_cons]
        exact ih.snoc a
      | _ => trivial
    exact ⟨a, us, rfl, SqL.of (vw_sub _ _ e), fun p hp => q p _ _ _ (R1.fly hp) aset_at (S1.trans (vw_fly hp)) upd_same (DnAll.mono (vw_fly hp) (rv dx))⟩
theorem fv_strI {n : Int} (h : n.natAbs.log2 < 1920) : FV (fun xs H Q => ∃ i, xs = [.int i] ∧ i.natAbs.log2 < 1920 ∧ Q (.str (toString i)) H) [.d (.int n)] (.d (.str (toString n))) := fv_s (dS (toString n)) fun W H vs Q S o q => by
  match vs, o with
  | [v], o =>
    obtain rfl := int_v o.1
    exact ⟨n, rfl, h, q⟩
theorem fv_sign {c : Nat} {z : Str} : FV2 (fun x y H Q => ∃ (c : Nat) (z : Str), x = .str ⟨#[c]⟩ ∧ y = .str z ∧ Q (.bl (decide (c ∈ z.cps.toList))) H) (.d (.str ⟨#[c]⟩)) (.d (.str z)) (.d (.bool (decide (c ∈ z.cps.toList)))) := fv2_s (dB (decide (c ∈ z.cps.toList))) fun W H v w Q S o o' q => ⟨c, z, str_v o, str_v o', q⟩
theorem fv_nsign {c : Nat} {z : Str} : FV2 (fun x y H Q => ∃ (c : Nat) (z : Str), x = .str ⟨#[c]⟩ ∧ y = .str z ∧ Q (.bl (!decide (c ∈ z.cps.toList))) H) (.d (.str ⟨#[c]⟩)) (.d (.str z)) (.d (.bool (!decide (c ∈ z.cps.toList)))) := fv2_s (dB (!decide (c ∈ z.cps.toList))) fun W H v w Q S o o' q => ⟨c, z, str_v o, str_v o', q⟩
theorem fv_notB {a b : Bool} : FV2 rNotB (.d (.bool a)) (.d (.bool b)) (.d (.bool (!decide (a = b)))) := fv2_s (dB (!decide (a = b))) fun W H v w Q S o o' q => ⟨a, b, bool_v o, bool_v o', q⟩
theorem fv_isB {a b : Bool} : FV2 rIsB (.d (.bool a)) (.d (.bool b)) (.d (.bool (decide (a = b)))) := fv2_s (dB (decide (a = b))) fun W H v w Q S o o' q => ⟨a, b, bool_v o, bool_v o', q⟩
theorem fv_lenS {z : Str} (h : z.length ≤ sizeLine) : FV (fun xs H Q => ∃ x, xs = [.str x] ∧ x.length ≤ sizeLine ∧ Q (.int x.length) H) [.d (.str z)] (.d (.int (z.length : Int))) := fv_s (dI (z.length : Int)) fun W H vs Q S o q => by
  match vs, o with
  | [v], o =>
    obtain rfl := str_v o.1
    exact ⟨z, rfl, h, q⟩
/-- t == (), xs == [] -/
theorem fv_eqET : FV2 rEqE (.d (.tuple xs)) (.d (.tuple [])) (.d (.bool xs.isEmpty)) := fv2_s (dB xs.isEmpty) fun W H v w Q S o o' q => by
  obtain ⟨a, us, rfl, e, dx⟩ := tup_v o
  obtain ⟨b, ws, rfl, e', dy⟩ := tup_v o'
  cases dy
  refine ⟨a, b, us, rfl, rfl, Or.inl ⟨S _ _ e, S _ _ e'⟩, ?_⟩
  have : us.isEmpty = xs.isEmpty := by cases dx <;> rfl
  rw [this]
  exact q
theorem fv_eqEL : FV2 rEqE (.d (.list xs)) (.d (.list [])) (.d (.bool xs.isEmpty)) := fv2_s (dB xs.isEmpty) fun W H v w Q S o o' q => by
  obtain ⟨a, us, rfl, e, dx⟩ := lst_v o
  obtain ⟨b, ws, rfl, e', dy⟩ := lst_v o'
  cases dy
  refine ⟨a, b, us, rfl, rfl, Or.inr ⟨S _ _ e, S _ _ e'⟩, ?_⟩
  have : us.isEmpty = xs.isEmpty := by cases dx <;> rfl
  rw [this]
  exact q
theorem fv_neET : FV2 rNeE (.d (.tuple xs)) (.d (.tuple [])) (.d (.bool (!xs.isEmpty))) := fv2_s (dB (!xs.isEmpty)) fun W H v w Q S o o' q => by
  obtain ⟨a, us, rfl, e, dx⟩ := tup_v o
  obtain ⟨b, ws, rfl, e', dy⟩ := tup_v o'
  cases dy
  refine ⟨a, b, us, rfl, rfl, S _ _ e, S _ _ e', ?_⟩
  have : us.isEmpty = xs.isEmpty := by cases dx <;> rfl
  rw [this]
  exact q
def rNeEL : R2 := fun x y H Q => ∃ a b xs, x = .ref a ∧ y = .ref b ∧ H a = some (.lst xs) ∧ H b = some (.lst []) ∧ Q (.bl (!xs.isEmpty)) H
theorem op_neEL {X : Cx} (hu : X.A.units + 1 < cLine) : OpR X (compareOp .NotEq) rNeEL := by
  intro pins s σ H x y v u Q I rx ry h
  obtain ⟨a, b, xs, rfl, rfl, ha, hb, q⟩ := h
  cases rx
  cases ry
  have fin : EP X pins σ Q (.bool (!xs.isEmpty)) s := ⟨.bl (!xs.isEmpty), H, I, rfl, q⟩
  obtain ⟨_, its, n, r, ho⟩ := I.hok _ _ ha
  obtain ⟨_, its2, n2, r2, ho2⟩ := I.hok _ _ hb
  cases r2
  cases r with
  | nil => exact SeqAt.RcNeAt.lists (e := fun _ => true) ⟨_, ho, rfl, _, rfl⟩ ⟨_, ho2, rfl, _, rfl⟩ rfl (by omega) (fun j h1 h2 => absurd h2 (by simp)) _ _ _ _ (by simpa using fin)
  | cons r t => exact SeqAt.RcNeAt.lists_lengths ⟨_, ho, rfl, _, rfl⟩ ⟨_, ho2, rfl, _, rfl⟩ (by simp) (by omega) _ _ _ _ (by simpa using fin)
theorem fv_neEL : FV2 rNeEL (.d (.list xs)) (.d (.list [])) (.d (.bool (!xs.isEmpty))) := fv2_s (dB (!xs.isEmpty)) fun W H v w Q S o o' q => by
  obtain ⟨a, us, rfl, e, dx⟩ := lst_v o
  obtain ⟨b, ws, rfl, e', dy⟩ := lst_v o'
  cases dy
  refine ⟨a, b, us, rfl, rfl, S _ _ e, S _ _ e', ?_⟩
  have : us.isEmpty = xs.isEmpty := by cases dx <;> rfl
  rw [this]
  exact q
theorem ev_dnew : Ev tDNewK ρ (.d (.dict [])) ρ := fun c A σ H Q R f q => fun p hp =>
  q _ A _ (R.up (Same.new hp)) f (vw_up (Same.new hp)) (.dic (kvs := []) (new_view R hp upd_same) .nil .nil)
/-- names.index(name): the first place -/
theorem eqV_str {a b : Str} : eqV (.str a) (.str b) = decide (a = b) := by
  show (a == b) = _
  by_cases h : a = b
  · subst h
    rw [decide_eq_true rfl]
    exact beq_self_eq_true _
  · rw [decide_eq_false h]
    exact beq_eq_false_iff_ne.mpr h
theorem ev_indexS {ns : List Str} {n : Str} {j : Nat} (h : Ev te ρ (.d (.list (ns.map .str))) ρ1) (g : Ev ta ρ1 (.d (.str n)) ρ1) (hj : ns[j]? = some n) (hno : ∀ m, m < j → ns[m]? ≠ some n) :
    Ev (tBM KF "list" (rIndex KF) te (tCons ta tNil)) ρ (.d (.int (j : Int))) ρ1 := fun c A σ H Q R f q =>
  h c A σ H _ R f fun v A1 H1 R1 f1 S1 o1 => by
    obtain ⟨a, us, rfl, e, dx⟩ := lst_v o1
    have hu : us = ns.map V.str := by
      clear h hj hno o1 e
      induction ns generalizing us with
      | nil => cases dx; rfl
      | cons b bs ih =>
        cases dx with
        | cons h t =>
          cases h
          rw [List.map_cons, ih _ t]
    subst hu
    refine ⟨Or.inl ⟨rfl, _, SqL.of (vw_sub _ _ e)⟩, g c A1 σ H1 _ R1 f1 fun w A2 H2 R2 f2 S2 o2 => ?_⟩
    obtain rfl := str_v o2
    refine ⟨a, ns.map V.str, .str n, j, .str n, rfl, rfl, SqL.of (vw_sub _ _ (S2 _ _ e)), rfl, ?_, by rw [List.getElem?_map, hj]; rfl, by rw [eqV_str]; simp, fun m z' hm hz => ?_, q _ A2 H2 R2 f2 (S1.trans S2) (.int _)⟩
    · rw [List.all_map]
      exact List.all_eq_true.mpr fun _ _ => rfl
    · rw [List.getElem?_map] at hz
      cases e1 : ns[m]? with
      | none => rw [e1] at hz; cases hz
      | some b =>
        rw [e1] at hz
        cases hz
        rw [eqV_str]
        exact decide_eq_false fun z => hno m hm (by rw [e1, z])
end
end OW
set_option Elab.async false
set_option linter.unusedVariables false
set_option linter.unusedSectionVars false
set_option maxRecDepth 100000
set_option maxHeartbeats 1000000
namespace OW
open PySem PySem.Spec PyProof.Rows L2 KA
variable [Tbs]
open PySem.SeqAt PySem.AutoSeq1 PySem.MeetsSeq
/-! ### any data == a text -/
theorem str_eq_declines_dict (b : Str) (u : Tok) (l : Addr) (c : Value) (dd : Option Addr) (es : Array DictEntry) (ep : Nat) (sl : Array (Option Value)) :
    Meets (Builtin.«str.__eq__» ⟨[.str b u, .ref l], []⟩) (fun _ R s => s.heap.get? l = some { cls := c, dict := dd, data := .dict es ep, slots := sl } ∧ R (.ok (.ret .notImplemented)) s) :=
  .of_wp fun prog w A R s h => by
    obtain ⟨hp, g, d, tk, os⟩ := s
    obtain ⟨hl, h⟩ := h
    wp_walk using wpAny_loadPart' hl, wpAny_load hl
    exact ⟨_, rfl, h⟩
def isS (d : PyData) (z : Str) : Bool := match d with | .str x => decide (x = z) | _ => false
def rEqDS : R2 := fun x y H Q => ∃ d z, Dn H x d ∧ y = .str z ∧ Q (.bl (isS d z)) H
theorem op_eqDS {X : Cx} (hu : X.A.units + 1 < cLine) : OpR X (compareOp .Eq) rEqDS := by
  intro pins s σ H x y v u Q I rx ry h
  obtain ⟨d, z, hd, rfl, q⟩ := h
  obtain ⟨tk, rfl⟩ := ry
  have hu' : X.A.units < cLine := by omega
  have fin : EP X pins σ Q (.bool (isS d z)) s := ⟨.bl (isS d z), H, I, rfl, q⟩
  cases hd with
  | non =>
    cases rx
    exact RcAt.none_str z tk _ _ _ _ fin
  | bl b =>
    cases rx
    exact RcAt.bool_str b z tk _ _ _ _ fin
  | int i =>
    obtain ⟨t, rfl⟩ := rx
    exact RcAt.int_str i t z tk _ _ _ _ fin
  | str x =>
    obtain ⟨t, rfl⟩ := rx
    refine RcAt.str_str x t z tk _ _ _ _ ?_
    have : (x == z) = isS (.str x) z := by
      show _ = decide (x = z)
      by_cases h : x = z
      · subst h
        rw [decide_eq_true rfl]
        exact beq_self_eq_true _
      · rw [decide_eq_false h]
        exact beq_eq_false_iff_ne.mpr h
    rw [this]
    exact fin
  | lst e r =>
    cases rx
    obtain ⟨_, its, n, rv, ho⟩ := I.hok _ _ e
    exact RcAt.list_str z tk ⟨_, ho, rfl, _, rfl⟩ hu' _ _ _ _ fin
  | tup e r =>
    cases rx
    obtain ⟨_, its, rv, o, ho, hc, n, hd⟩ := I.hok _ _ e
    exact RcAt.tuple_str z tk ⟨o, ho, hc, n, hd⟩ hu' _ _ _ _ fin
  | dic e r r' =>
    cases rx
    obtain ⟨_, _, vs, kv, dO⟩ := I.hok _ _ e
    obtain ⟨⟨cls, dd, data, sl⟩, es, ep, ho, ex, hd, c⟩ := id dO
    simp only at hd
    subst hd
    refine SeqAt.rc_eq_decline_or (k := false) dO.typeIs (typeIs_str s z tk) (by decide) F.sub_str_dict F.slot_dict_eq F.slot_str_eq_refl (fun Q' hq => ?_)
      (fun _ hq => call_meets F.slot_str_eq_refl (typeIs_str s z tk) F.entry_str_eq (F.args_str_eq_2 _ _) (str_eq_declines_dict z tk _ cls dd es ep sl) ⟨ho, hq⟩)
      (fun _ hq => wpAny_of_eq (rfl : isSame (.ref _) (.str z tk) = pure false) hq) (.inr hu') fin
    refine wpAny_call_entry F.slot_dict_eq dO.typeIs F.entry_dict_eq ?_ (F.args_dict_eq_2 _ _)
    show wpAny _ _ (Builtin.Dict.dictSlotArgs "__eq__" ⟨[.ref _, .str z tk], []⟩ >>= _) _ _ s
    refine wpAny_bind ?_
    unfold Builtin.Dict.dictSlotArgs
    refine wpAny_bind (wpAny_notOrdered_dict dO.typeIs ?_)
    show wpAny _ _ (pure (Value.ref _, Value.str z tk)) _ _ s
    refine wpAny_pure ?_
    refine wpAny_bind (wpAny_isInstance (T := "str") (typeIs_str s z tk) F.sub_str_dict ?_)
    show wpAny _ _ (rule _ >>= fun _ => ret Value.notImplemented) _ _ s
    refine wpAny_bind (wpAny_rule ?_)
    refine wpAny_pure ⟨_, rfl, ?_⟩
    exact hq
theorem fv_eqDS {x : PyData} {z : Str} : FV2 rEqDS (.d x) (.d (.str z)) (.d (.bool (isS x z))) := fv2_s (dB (isS x z)) fun W H v w Q S o o' q => by
  obtain rfl := str_v o'
  exact ⟨x, z, Dn.mono S o, rfl, q⟩
end OW
set_option Elab.async false
set_option linter.unusedVariables false
set_option linter.unusedSectionVars false
set_option maxRecDepth 100000
set_option maxHeartbeats 4000000
namespace OW
open PySem PySem.Spec PyProof.Rows L2 KA
variable [Tbs]
/-! ### a tuple so many times, also none or once -/
theorem tuple_mul1 (l : Addr) (items : Array Value) (n : Nat) (dd : Option Addr) (sl : Array (Option Value)) (u : Tok) :
    Meets (Builtin.«tuple.__mul__» ⟨[.ref l, .int 1 u], []⟩) (fun _ R s => s.heap.get? l = some { cls := .type "tuple", dict := dd, data := .seq items n, slots := sl } ∧ R (.ok (.ret (.ref l))) s) :=
  .of_wp fun prog w A R s h => by
    obtain ⟨hp, g, d, tk, os⟩ := s
    obtain ⟨hl, h⟩ := h
    have f1 := AutoSeq1.idx_int
    have c1 : (items.isEmpty || (1 : Int) == 1) = true := by rw [show ((1 : Int) == 1) = true from rfl, Bool.or_true]
    wp_walk using wpAny_loadPart' hl
    repeat (first
      | (refine wpAny_ite_false (decide_eq_false (by decide)) ?_; wp_walk using wpAny_loadPart' hl)
      | (refine wpAny_ite_true (decide_eq_true c1) ?_; wp_walk using wpAny_loadPart' hl))
    exact ⟨_, rfl, h⟩
theorem tuple_mul0 (l : Addr) (items : Array Value) (n : Nat) (dd : Option Addr) (sl : Array (Option Value)) (u : Tok) (hi : items.isEmpty = false) :
    Meets (Builtin.«tuple.__mul__» ⟨[.ref l, .int 0 u], []⟩) (fun _ R s => s.heap.get? l = some { cls := .type "tuple", dict := dd, data := .seq items n, slots := sl } ∧
      R (.ok (.ret (Value.ref s.heap.objs.size))) { s with heap := s.heap.push { cls := Value.type "tuple", data := Data.seq #[] }, toks := s.toks }) :=
  .of_wp fun prog w A R s h => by
    obtain ⟨hp, g, d, tk, os⟩ := s
    obtain ⟨hl, h⟩ := h
    have f1 := AutoSeq1.idx_int
    have c1 : (items.isEmpty || (0 : Int) == 1) = false := by rw [hi]; rfl
    have c2 : (decide ((0 : Int) ≤ 0) || items.isEmpty) = true := rfl
    wp_walk using wpAny_loadPart' hl
    repeat (first
      | (refine wpAny_ite_false (decide_eq_false (by decide)) ?_; wp_walk using wpAny_loadPart' hl)
      | (refine wpAny_ite_false (decide_eq_false (by rw [c1]; exact Bool.false_ne_true)) ?_; wp_walk using wpAny_loadPart' hl)
      | (refine wpAny_ite_true (decide_eq_true c2) ?_; wp_walk using wpAny_loadPart' hl))
    exact ⟨_, rfl, h⟩
def rRepA (K : PySem.W.Frag) : R2 := fun x y H Q => ∃ l k xs, x = .ref l ∧ y = .int k ∧ SqT K H l xs ∧ xs ≠ [] ∧ 0 ≤ k ∧ k ≤ 1000 ∧ xs.length ≤ 1000 ∧ (k = 1 → Q (.ref l) H) ∧ (k ≠ 1 → ∀ p, H p = none → Q (.ref p) (upd H p (.tup (List.replicate k.toNat xs).flatten)))
section
variable {X : Cx}
theorem op_repA : OpR X (binaryOp .Mult) (rRepA X.K) := by
  intro pins s σ H x y v u Q I rx ry h
  obtain ⟨l, k, xs, rfl, rfl, hT, hne, h1, h2, hz, q1, q2⟩ := h
  by_cases k2 : 2 ≤ k
  · exact op_repT pins s σ H _ _ v u Q I rx ry ⟨l, k, xs, rfl, rfl, hT, hne, k2, h2, hz, q2 (by omega)⟩
  cases rx
  obtain ⟨t, rfl⟩ := ry
  obtain ⟨its, r, ⟨⟨cls, dd, data, sl⟩, ho, hc, n, hd⟩, hs⟩ := I.tuple hT
  simp only at hc hd
  subst hc hd
  have hle : its.length = xs.length := r.length.symm
  have hn : its ≠ [] := fun e => hne (by
    rw [e] at hle
    exact List.eq_nil_of_length_eq_zero hle.symm)
  have hi : its.toArray.isEmpty = false := by
    cases its with
    | nil => exact absurd rfl hn
    | cons a b => rfl
  by_cases k1 : k = 1
  · subst k1
    refine wpAny_binaryOp_repeat_ref (T := "tuple") (U := "int") (by decide) ⟨_, ho, rfl⟩ (fun s' => typeIs_int s' 1 t) noFill_tuple_mul F.fills_int_mul F.slot_int_rmul repeat_tuple F.slot_int_index.lookup
      (call_meets F.slot_int_rmul (typeIs_int s 1 t) F.entry_int_rmul (F.args_int_rmul_2 _ _) (int_rmul_tuple 1 t l its.toArray n dd sl)
        ⟨ho, rfl, ⟨_, ho, rfl⟩, call_meets F.slot_tuple_mul ⟨_, ho, rfl⟩ F.entry_tuple_mul (F.args_tuple_mul_2 _ _) (tuple_mul1 l its.toArray n dd sl t) ⟨ho, ?_⟩⟩)
    exact ⟨.ref l, H, I, rfl, q1 rfl⟩
  · obtain rfl : k = 0 := by omega
    refine wpAny_binaryOp_repeat_ref (T := "tuple") (U := "int") (by decide) ⟨_, ho, rfl⟩ (fun s' => typeIs_int s' 0 t) noFill_tuple_mul F.fills_int_mul F.slot_int_rmul repeat_tuple F.slot_int_index.lookup
      (call_meets F.slot_int_rmul (typeIs_int s 0 t) F.entry_int_rmul (F.args_int_rmul_2 _ _) (int_rmul_tuple 0 t l its.toArray n dd sl)
        ⟨ho, rfl, ⟨_, ho, rfl⟩, call_meets F.slot_tuple_mul ⟨_, ho, rfl⟩ F.entry_tuple_mul (F.args_tuple_mul_2 _ _) (tuple_mul0 l its.toArray n dd sl t hi) ⟨ho, ?_⟩⟩)
    refine ⟨.ref s.heap.objs.size, _, I.laid (t' := s.toks) (o := .tup (List.replicate (0 : Int).toNat xs).flatten) (fun b ob q => Heap.get?_push_of_some _ q) (Nat.le_refl _) ?_, rfl, q2 (by decide) _ (I.hok.fresh (Nat.le_refl _))⟩
    exact ⟨by show 0 ≤ sizeLine; exact Nat.zero_le _, _, .nil, IsTup.new _ _⟩
end
section
variable {KF : PySem.W.Frag} {xs : List PyData}
theorem fv_repA {n : Int} (h : xs ≠ [] ∧ 0 ≤ n ∧ n ≤ 1000 ∧ xs.length ≤ 1000) : FV2 (rRepA KF) (.d (.tuple xs)) (.d (.int n)) (.d (.tuple (List.replicate n.toNat xs).flatten)) := fun W H v w Q S o o' q => by
  obtain rfl := int_v o'
  obtain ⟨a, vs, rfl, e, dx⟩ := tup_v o
  refine ⟨a, n, vs, rfl, rfl, SqT.of (S _ _ e), fun z => ?_, h.2.1, h.2.2.1, by rw [dx.length]; exact h.2.2.2, fun z => ?_, fun z p hp => ?_⟩
  · subst z
    cases dx
    exact h.1 rfl
  · subst z
    refine q _ _ (Same.refl _) fun W' S1 S2 => ?_
    have : (List.replicate (1 : Int).toNat xs).flatten = xs := by
      show xs ++ [] = xs
      rw [List.append_nil]
    rw [this]
    exact Dn.mono S1 o
  · refine q _ _ (Same.new hp) fun W' S' nw => .tup (nw _ _ hp upd_same) (DnAll.mono S' ?_)
    have : ∀ m : Nat, DnAll W (List.replicate m vs).flatten (List.replicate m xs).flatten := fun m => by
      induction m with
      | zero => exact .nil
      | succ m ih => exact dx.append ih
    exact this _
end
end OW
set_option Elab.async false
set_option linter.unusedVariables false
set_option linter.unusedSectionVars false
set_option maxRecDepth 100000
set_option maxHeartbeats 4000000
/-! ### a tuple, numbered -/
namespace OWT
open PySem
open PySem.Sem (wp)
open AutoSeq1 (wpAny_loadPart')
theorem enum_new_tup (t : Addr) (items : Array Value) (n : Nat) (dct : Option Addr) (sl : Array (Option Value)) :
    Meets (Builtin.«enumerate.__new__» ⟨[.type "enumerate", .ref t], []⟩) (fun _ R s => s.heap.get? t = some { cls := .type "tuple", dict := dct, data := .seq items n, slots := sl } ∧
      R (.ok (.ret (.ref (s.heap.push { cls := .type "tuple_iterator", data := .fields #[.ref t, .int 0 0] }).objs.size)))
        { s with heap := (s.heap.push { cls := .type "tuple_iterator", data := .fields #[.ref t, .int 0 0] }).push { cls := .type "enumerate", data := .fields #[.none, .bool false, .ref s.heap.objs.size, rawInt 0, .none, .none] } }) :=
  .of_wp fun prog w A R s h => by
    obtain ⟨hp, g, d, tk, os⟩ := s
    obtain ⟨ht, h⟩ := h
    have sub := sub_enumerate
    have isT : Heap.IsTuple (Shared.heap ⟨hp, g, d, tk, os⟩) t items := ⟨_, ht, rfl, n, rfl⟩
    wp_walk using wpAny_loadPart' ht
    refine wpAny_stack_any fun st => wpAny_pure ?_
    split
    · rename_i c _ _ _ _ _
      cases (c == Value.type "enumerate") <;> (wp_walk using wpAny_loadPart' ht, wpAny_pyIter_tuple isT; exact ⟨_, rfl, h⟩)
    · wp_walk using wpAny_loadPart' ht, wpAny_pyIter_tuple isT
      exact ⟨_, rfl, h⟩
section
variable {prog : Program} {w : World} {A : Around} {E : Value → Shared → Prop} {s : Shared}
theorem call_enum_tup {t : Addr} {items : Array Value} {Q : Value → Shared → Prop} (isT : s.heap.IsTuple t items)
    (h : ∀ h', IsEnum h' (s.heap.objs.size + 1) s.heap.objs.size 0 .none → h'.IsTupleIter s.heap.objs.size t 0 → h'.objs.size = s.heap.objs.size + 2 →
      (∀ b o, s.heap.get? b = some o → h'.get? b = some o) → Q (.ref (s.heap.objs.size + 1)) { s with heap := h' }) :
    wpAny (model prog w) A (call (.type "enumerate") [.ref t]) Q E s := by
  obtain ⟨⟨c, dct, dt, sl⟩, ht, hc, n, hd⟩ := isT
  obtain rfl : c = .type "tuple" := hc
  obtain rfl : dt = .seq items n := hd
  refine callType_new F.called_enumerate (by decide) (F.typeCall_enumerate_1 _) (F.newCall_enumerate_1 _) (fun obj => F.args_object_init_2 obj _) F.entry_enumerate_new (enum_new_tup t items n dct sl) ⟨ht, ?_⟩
  have hz : (s.heap.push { cls := .type "tuple_iterator", data := .fields #[.ref t, .int 0 0] }).objs.size = s.heap.objs.size + 1 := Heap.size_push ..
  show _ ∧ _
  rw [hz]
  have he : IsEnum ((s.heap.push { cls := .type "tuple_iterator", data := .fields #[.ref t, .int 0 0] }).push { cls := .type "enumerate", data := .fields #[.none, .bool false, .ref s.heap.objs.size, rawInt 0, .none, .none] }) (s.heap.objs.size + 1) s.heap.objs.size 0 .none := by
    have q := Heap.get?_push_size (s.heap.push { cls := .type "tuple_iterator", data := .fields #[.ref t, .int 0 0] }) (o := { cls := .type "enumerate", data := .fields #[.none, .bool false, .ref s.heap.objs.size, rawInt 0, .none, .none] }) rfl
    rw [hz] at q
    exact q
  exact ⟨⟨_, he, rfl⟩, h _ he ⟨_, Heap.get?_push_of_some _ (Heap.get?_push_size _ rfl), rfl, rfl⟩ (by rw [Heap.size_push, hz]) fun b o x => Heap.get?_push_of_some _ (Heap.get?_push_of_some _ x)⟩
theorem enum_tup_end {e it t : Addr} {i : Nat} {items : Array Value} {old : Value} {Q : Option Value → Shared → Prop} (hh : A.handled = none) (he : IsEnum s.heap e it i old) (hit : s.heap.IsTupleIter it t i) (isT : s.heap.IsTuple t items) (hx : items[i]? = none)
    (hQ : ∀ h', Heap.ExtBut it s.heap h' → Q none { s with heap := h' }) : wpAny (model prog w) A (pyNext (.ref e)) Q E s := by
  have isE : s.TypeIs (.ref e) "enumerate" := ⟨_, he, rfl⟩
  unfold pyNext
  refine wpAny_bind (wpAny_attempt (wpAny_callSpecial?_slot (name := Str.ofString "__next__") isE F.slot_enumerate_next (wpAny_call_entry F.slot_enumerate_next isE F.entry_enumerate_next ?_ (F.args_enumerate_next_1 _))))
  show wpAny _ _ (field (.ref e) 2 >>= _) _ _ s
  refine wpAny_bind (wpAny_field he rfl (x := .ref it) rfl (wpAny_bind (RZ.nextOf_tuple_end hh hit isT hx fun h' x he' hx' => ?_)))
  obtain ⟨o, ho, hc⟩ := hx'
  exact wpAny_bind (wpAny_isInstance (T := "StopIteration") (b := true) ⟨o, ho, hc⟩ isSubtype_stop (wpAny_pure (hQ _ he')))
end
end OWT
namespace OW
open PySem PySem.Spec PyProof.Rows L2 KA
variable [Tbs]
/-- the tuple at a, each item in a new pair -/
def Nut (K : PySem.W.Frag) (a : Addr) : It :=
  ⟨fun i H => ∃ (xs : List V) (x : V), SqT K H a xs ∧ xs[i]? = some x, fun i H v H' => ∃ T x, v = .ref T ∧ H T = none ∧ H' = upd H T (.tup [.int (i : Nat), x]) ∧ ∀ xs, SqT K H a xs → xs[i]? = some x, fun i H => ∃ xs : List V, SqT K H a xs ∧ xs.length ≤ i⟩
theorem turn_nut {P : Program} {w : World} {K : PySem.W.Frag} {elts : List Expr} {kk : Nat} {tpos : Pos} (a e it : Addr) :
    L2.Turn P w K (PySem.Expr.Tuple elts kk tpos) (Nut K a) [e, it] e (fun i h => (∃ old, IsEnum h e it ((i : Nat) : Int) old) ∧ h.IsTupleIter it a i ∧ e ≠ it) where
  mem := List.mem_cons_self
  obj := fun i h st b hb => by
    obtain ⟨⟨old, he⟩, ⟨o, ho, hc, hd⟩, _⟩ := st
    rcases List.mem_cons.mp hb with z | hb
    · exact z ▸ ⟨_, he, fun v q => nomatch q⟩
    · rw [List.mem_singleton.mp hb]
      exact ⟨o, ho, fun v q => by rw [hd] at q; cases q⟩
  keep := fun i h h' st k => ⟨st.1.imp fun old he => k e List.mem_cons_self _ he, st.2.1.at fun o q => k it (List.mem_cons_of_mem _ List.mem_cons_self) o q, st.2.2⟩
  item := by
    intro X hP hw hK hc i pins s σ H E I hf st hg
    subst hP hw hK
    obtain ⟨⟨old, he⟩, hit, hne⟩ := st
    obtain ⟨xs, x, hq, hx⟩ := hg
    obtain ⟨its, rv, p, hz⟩ := I.tuple hq
    obtain ⟨u, hu, ru⟩ := rv.get hx
    have pT : s.heap.IsTuple a its.toArray := p
    have hel : e < s.heap.objs.size := Heap.lt_size he
    have hil : it < s.heap.objs.size := Heap.lt_size hit.choose_spec.1
    have hea : e ≠ a := fun q => by
      obtain ⟨o, ho, hcl, _⟩ := pT
      rw [← q, he] at ho
      obtain rfl := Option.some.inj ho
      exact absurd (Value.type.inj hcl) (by decide)
    have hia : a ≠ it := fun q => by
      obtain ⟨o, ho, hcl, _⟩ := pT
      obtain ⟨o2, ho2, hcl2, _⟩ := hit
      rw [q, ho2] at ho
      obtain rfl := Option.some.inj ho
      exact absurd (Value.type.inj (hcl2.symm.trans hcl)) (by decide)
    have li : i < its.toArray.size := by rw [List.size_toArray]; exact (List.getElem?_eq_some_iff.mp hu).1
    refine wpAny_pyNext_enum_itemD (Draws.tuple (A := X.A.in1) (I.ok.hd hc) it a hia its.toArray) he ⟨hit, pT⟩ li hne (fun q => by
      rcases List.mem_cons.mp q with q | q
      · exact hne q
      · exact hea (List.mem_singleton.mp q)) fun x2 h' tk hx2 ho hit' hT hsz hk => ?_
    have ex2 : x2 = u := by
      have h2 : its.toArray[i]? = some x2 := hx2
      rw [List.getElem?_toArray, hu] at h2
      exact (Option.some.inj h2).symm
    subst ex2
    refine ⟨_, rfl, wpAny_letOwnedTupleGo_enum (s := { s with heap := h', toks := tk + 1 }) ho fun h'' he' sb => ?_⟩
    have hT2 : h''.get? s.heap.objs.size = some { cls := .type "tuple", data := .seq #[.int i tk, x2] } := (sb.2 _ (Nat.ne_of_gt hel)).trans hT
    have new : ObjOk X.prog X.w (upd H s.heap.objs.size (.tup [.int (i : Nat), x])) h'' s.heap.objs.size (.tup [.int (i : Nat), x]) :=
      ⟨by show 2 ≤ sizeLine; decide, [.int i tk, x2], .cons ⟨_, rfl⟩ (.cons ru .nil), ⟨_, hT2, rfl, _, rfl⟩⟩
    have keepE : ∀ b, b ∉ [e, it] → b ≠ e ∧ b ≠ it := fun b hb => ⟨fun z => hb (by simp [z]), fun z => hb (by simp [z])⟩
    have I1 : Inv X pins σ (upd H s.heap.objs.size (.tup [.int (i : Nat), x])) { s with heap := h'', toks := tk + 1 } :=
      I.turnedNew (ch := [e, it]) (fun b ob hb q => (sb.2 b (keepE b hb).1).trans (hk b ob (keepE b hb).1 (keepE b hb).2 q)) hf (Nat.le_refl _) new
    refine ⟨.ref s.heap.objs.size, _, I1, rfl, ⟨_, x, rfl, I.hok.fresh (Nat.le_refl _), rfl, fun ys hy => by rw [I.tuple_inj hy hq]; exact hx⟩, ⟨⟨x2, ?_⟩, hit'.1.at fun o q => (sb.2 it (Ne.symm hne)).trans q, hne⟩, fun b hb => ?_⟩
    · rw [show ((i + 1 : Nat) : Int) = (i : Int) + 1 by omega]
      exact he'
    · have hb' : b < s.heap.objs.size := by
        rcases List.mem_cons.mp hb with z | hb
        · exact z ▸ hel
        · rw [List.mem_singleton.mp hb]
          exact hil
      rw [upd_ne (Nat.ne_of_lt hb')]
      exact (hf b hb).1
  done := by
    intro X hP hw hK hc i pins s σ H E I hf st hg
    subst hP hw hK
    obtain ⟨⟨old, he⟩, hit, hne⟩ := st
    obtain ⟨xs, hq, hx⟩ := hg
    obtain ⟨its, rv, p, hz⟩ := I.tuple hq
    have pT : s.heap.IsTuple a its.toArray := p
    obtain ⟨f0, f1, f2, f3, f4, f5⟩ := hf it (by simp)
    have hl := rv.length
    exact OWT.enum_tup_end (I.ok.hd hc) he hit pT (by rw [List.getElem?_toArray]; exact List.getElem?_eq_none (by omega)) fun h' eb => ⟨rfl, I.turned (t' := s.toks) (fun b o hb q => eb b o hb q) f0 f1 f3 f4 f5⟩
  self := fun A i s Q E st h => st.1.elim fun _ he => wpAny_pyIter_enum he h
def iNut (K : PySem.W.Frag) (ta : TA) : TI := fun σ H R => ta σ H fun vs H1 => ∃ a xs, vs = [.ref a] ∧ SqT K H1 a xs ∧ R (Nut K a) H1
theorem pi_nut {X : Cx} {e : Expr} {ta : TA} {p pos tpos : Pos} {elts : List Expr} {kk : Nat} (hg : Gl X "enumerate") (hm : X.mg "enumerate" = none) (ha : PA X [e] ta) (hs : starEach [e] X.env = [(false, eval e X.env)] := by rfl) :
    PI X (.Tuple elts kk tpos) (.Call (.Name "enumerate" p) [e] [] pos) (iNut X.K ta) := by
  refine ⟨fun pins s σ H R I h => Call_ (ld_blt I hg hm boot_enumerate (PyProof.Rows.callWith_type1 (thn (ha.run pos pins s σ H _ I h) fun us s1 ⟨vs, H1, I1, r1, q1⟩ => ?_) hs rfl))⟩
  obtain ⟨a, xs, rfl, hq, q⟩ := q1
  cases r1 with
  | cons r rr =>
    cases rr
    cases r
    obtain ⟨its, rv, pt, hz⟩ := I1.tuple hq
    refine OWT.call_enum_tup (show s1.heap.IsTuple a its.toArray from pt) fun h' he hit hsz hk => wpAny_pyIter_enum he ?_
    have I2 : Inv X pins σ H1 { s1 with heap := h' } := I1.kept (t' := s1.toks) hk
    refine ⟨s1.heap.objs.size + 1, [s1.heap.objs.size + 1, s1.heap.objs.size], _, _, H1, rfl, I2, turn_nut a (s1.heap.objs.size + 1) s1.heap.objs.size, ⟨⟨.none, he⟩, hit, Nat.succ_ne_self _⟩, fun b hb => ?_, q⟩
    have hle : s1.heap.objs.size ≤ b := by
      rcases List.mem_cons.mp hb with z | hb
      · rw [z]
        exact Nat.le_succ _
      · rw [List.mem_singleton.mp hb]
        exact Nat.le_refl _
    exact I1.fpOk hle (I1.hok.fresh hle)
section
variable {ρ ρ1 : List Sl} {tr : TA} {xs : List PyData} {KF : PySem.W.Frag}
theorem fi_enumT (h : Eds tr ρ [.tuple xs] ρ1) : Fi (iNut KF tr) ρ (enumD 0 xs) ρ1 := fun c A σ H R R0 f k => h c A σ H _ R0 f fun vs A1 H1 R1 f1 S1 o1 => by
  obtain ⟨v, rfl, o⟩ := dn_one o1
  obtain ⟨a, vs, rfl, e, dx⟩ := tup_v o
  refine ⟨a, vs, rfl, SqT.of (vw_sub _ _ e), k _ _ _ R1 f1 S1 ⟨fun i x H2 ex S => ?_, fun H2 S => ?_⟩⟩
  · have lt : i < vs.length := by rw [dx.length, ← enumD_len 0 xs]; exact (List.getElem?_eq_some_iff.mp ex).1
    refine ⟨⟨vs, vs[i], SqT.of (S _ _ e), List.getElem?_eq_getElem lt⟩, fun v H3 ⟨T, y, q1, q2, q3, q4⟩ => ?_⟩
    subst q1 q3
    refine ⟨Same.new q2, fun W' S' nw => ?_⟩
    obtain ⟨x', e', dn⟩ := dn_at dx (q4 vs (SqT.of (S _ _ e)))
    obtain ⟨x2, e2, rfl⟩ := enumD_at ex
    obtain rfl : x2 = x' := Option.some.inj (e2.symm.trans e')
    rw [Nat.zero_add]
    exact .tup (nw _ _ q2 upd_same) (.cons (.int _) (.one (Dn.mono S' dn)))
  · exact ⟨vs, SqT.of (S _ _ e), by rw [dx.length, enumD_len]; exact Nat.le_refl _⟩
end
end OW
set_option Elab.async false
set_option linter.unusedVariables false
set_option linter.unusedSectionVars false
set_option maxRecDepth 100000
set_option maxHeartbeats 2000000
namespace OW
open PySem PySem.Spec PyProof.Rows L2 KA NdefX LamX
variable [Tbs]
/-! ### a def that is handed a def made in another def's body -/
abbrev SpS := List Env → Shared → Sp
structure FnOkS (P : Program) (w : World) (K : PySem.W.Frag) (mg : Str → Option Value) (base : Heap) (k : Nat) (f : Addr) (fd : FuncData) (ps : List Str) (sp : SpS) : Prop where
  len : ∀ o s vs H Q E, sp o s vs H Q E → vs.length = ps.length
  run : ∀ (A : Around) (outer : List Env) (s : Shared) (H : Hp) (args : Args) (us : List Value) (vs : List V) (Q : VK) (E : XK), Room k A → Env0 P w K mg base A outer s H → BindsTo s fd args (ps.zip us) → Vals vs us → sp outer s vs H Q E →
    codeAny (model P w) A (.call (.ref f) args) (CR CX0 outer P w H s Q E) s
section
variable {P : Program} {w : World} {K : PySem.W.Frag} {mg : Str → Option Value} {base : Heap} {k : Nat}
theorem fnS {x qual : Str} {st : Stmt} {f : Addr} {fd : FuncData} {N ps : List Str} {sp : SpS} (F : Fun K x qual st f fd) (S : FnScope N ps (defScope st)) (len : ∀ o s vs H Q E, sp o s vs H Q E → vs.length = ps.length)
    (body : ∀ (cdv : Value) (A : Around) (outer : List Env) (s : Shared) (H : Hp) (vs : List V) (Q : VK) (E : XK), Room k (A.deeper (envOfC qual (defScope st) s.heap.objs.size f cdv)) → sp outer s vs H Q E →
      ∃ t, PSs (cxOf CX0 P w K mg base N qual (defScope st) f cdv A outer s H E).nox (defBody st) t ∧ t { nx := fun _ H' => Q .non H', rt := Q } (start N vs) H) : FnOkS P w K mg base (k + 1) f fd ps sp :=
  ⟨len, fun A outer s H args us vs Q E hr e0 bt rv h => enter F S hr e0 bt rv (len _ _ _ _ _ _ h) fun cdv => let ⟨t, h1, h2⟩ := body cdv A outer s H vs Q E (hr.deeper _) h; ⟨t, h1.nox, h2⟩⟩
/-- of data and such a def -/
def spDS (n : Nat) (T : List Env → Shared → Hp → List Sl → (Rv → Prop) → Prop) : SpS := fun o s vs H Q E => spD n (T o s H) vs H Q E
theorem fn_dS {x qual : Str} {st : Stmt} {f : Addr} {fd : FuncData} {N ps : List Str} {n : Nat} {T : List Env → Shared → Hp → List Sl → (Rv → Prop) → Prop} (F : Fun K x qual st f fd) (S : FnScope N ps (defScope st)) (hn : ps.length = n := by rfl) (hN : n + N.length < fl := by decide)
    (body : ∀ (cdv : Value) (A : Around) (outer : List Env) (s : Shared) (H : Hp) (E : XK) (as : List Sl) (Kr : Rv → Prop), Room k (A.deeper (envOfC qual (defScope st) s.heap.objs.size f cdv)) → as.length = n → T outer s H as Kr →
      ∃ t, PSs (cxOf CX0 P w K mg base N qual (defScope st) f cdv A outer s H E).nox (defBody st) t ∧ Sm t (as ++ uns (N.length - n)) { nx := fun _ => Kr (.d .none), rt := fun r _ => Kr r }) :
    FnOkS P w K mg base (k + 1) f fd ps (spDS n T) := by
  refine fnS F S (fun o s vs H Q E h => ?_) (fun cdv A outer s H vs Q E hr h => ?_)
  · obtain ⟨Z, as, Kr, hZ, ha, hl, _⟩ := h
    rw [ha.length, hl, hn]
  · obtain ⟨Z, as, Kr, hZ, ha, hl, hT, go⟩ := h
    obtain ⟨t, ht, hb⟩ := body cdv A outer s H E as Kr hr hl hT
    refine ⟨t, ht, hb ⟨Z, none, H, hz Z H⟩ _ _ H _ (rp_start hN hZ ha hl) rfl ?_⟩
    have same : ∀ {A' : Am} {ρ' : List Sl} {σ' : L2.St} {H' : Hp}, Rp ⟨Z, none, H, hz Z H⟩ A' ρ' σ' H' → Aft Z H H' := rp_aft
    refine ⟨fun ρ' A' σ' H' hk R f => go _ _ _ hk (same R) .non, fun r ρ' v A' σ' H' hk R o => go r v H' hk (same R) ?_, fun _ _ _ _ h => h.elim, fun _ _ _ _ h => h.elim⟩
    exact rv_out (fun b o e nz _ => R.old _ _ (hz_mk nz e)) (fun b z => Or.inl z) R.inj R.off R.bor o
end
/-- the i-th slot holds the made def f, whose cells hold ws -/
def tHeld (f : Addr) (F : NF) (i : Nat) (sp : Sp) (t : TA) : TE := fun σ H Q => σ[i]? = some (some (.ref f)) ∧ H f = some (FnO f F) ∧ t σ H fun vs H1 => H1 f = some (FnO f F) ∧ H1 F.c = some (CodeO F.c F.qual) ∧ sp vs H1 Q E0
section
variable {X : Cx} {k i : Nat} {f : Addr} {F : NF} {ps fr : List Str} {ws : List (Option V)} {sp : List (Option V) → Sp} {x : Str} {e : Expr} {es : List Expr} {t : TA} {p pos : Pos}
theorem pe_held (Fn : NOk X.prog X.w X.K X.mg X.base CX0 k f F ps fr sp) (C : CellsAt F.cl fr ws X.s_0.heap X.H_0) (nf : ∀ y c, F.cl.lookup y = some c → c ∉ X.fs) (hx : X.ex = []) (hr : Room k X.A) (hN : X.N[i]? = some x) (hv : Vis X.env.scope x) (ha : PA X (e :: es) t)
    (hd : (x == ("__debug__" : Str)) = false := by decide) (hcd : (x == ("__classdict__" : Str)) = false := by decide)
    (he : starEach (e :: es) X.env = (false, eval e X.env) :: starEach es X.env := by rfl) (hpl : (backTo pos (starEach es X.env)).any (·.1) = false := by rfl) :
    PE X (.Call (.Name x p) (e :: es) [] pos) (tHeld f F i (sp ws) t) := by
  refine ⟨fun pins s σ H Q I h => ?_⟩
  obtain ⟨hs, hf, ht⟩ := h
  refine wpAny_Call_Name_kw (thn ((pe_var (pos := p) hN hv hd hcd).run pins s σ H (fun v H1 => v = .ref f ∧ H1 = H) I ⟨.ref f, hs, rfl, rfl⟩) fun u s1 ⟨v, H1, I1, r1, q1⟩ => ?_)
  obtain ⟨rfl, rfl⟩ := q1
  obtain rfl : u = Value.ref f := r1
  refine PySem.W.callWith_F (first := []) (fnAt_of I1 hf) (thn (ha.run pos pins s1 σ _ _ I1 ht) fun us s2 ⟨vs, H2, I2, r, h1, hc, q⟩ => ⟨fnAt_of I2 h1, ?_⟩) he hpl
  show wpAny _ _ (call (.ref f) us) _ _ _
  have C2 := C.later nf (fun y c _ z => by rw [hx] at z; cases z) I2
  refine wpAny_call (codeAny_mono (Fn.run X.A X.stack s2 H2 us vs _ Q E0 hr I2.env0 h1 hc C2 r q) fun r s' hq => ?_)
  cases r with
  | error e => exact hq.elim
  | ok fl =>
    cases fl with
    | ret u => exact I2.after hq
    | next => exact False.elim hq
    | brk => exact False.elim hq
    | cont => exact False.elim hq
end
end OW
set_option Elab.async false
set_option linter.unusedVariables false
set_option linter.unusedSectionVars false
set_option maxRecDepth 100000
set_option maxHeartbeats 2000000
namespace OW
open PySem PySem.Spec PyProof.Rows L2 KA NdefX LamX
variable [Tbs]
/-! ### the made def: its promise, how it is made, and the call that hands it on -/
/-- of data, in a frame whose cells hold ws0, which stand for cs -/
def spN (n : Nat) (ws0 : List V) (cs : List Sl) (T : List Sl → (Rv → Prop) → Prop) : List (Option V) → Sp := fun ws vs H Q _ => ws = ws0.map some ∧ ∃ (Z : Addr → Prop) (as : List Sl) (K : Rv → Prop), ZOk Z H ∧ ArAll (hz Z H) vs as ∧ ArAll (hz Z H) ws0 cs ∧ as.length = n ∧ T as K ∧
  ∀ r v H', K r → Aft Z H H' → RvOk Z H H' v r → Q v H'
/-- the slot of such a def -/
def madeMo (f : Addr) (F : NF) (ws0 : List V) (cs : List Sl) : Mo := ⟨fun v W => v = .ref f ∧ W f = some (FnO f F) ∧ W F.c = some (CodeO F.c F.qual) ∧ ArAll W ws0 cs, fun S ⟨a, b, g, d⟩ => ⟨a, S _ _ b, S _ _ g, d.mono S⟩⟩
section
variable {ρ ρ' : List Sl} {tr : TA} {ss cs : List Sl} {x : PyData} {f : Addr} {F : NF} {i n : Nat} {ws0 : List V}
theorem ev_made {T : List Sl → (Rv → Prop) → Prop} (h0 : ρ[i]? = some (.p (madeMo f F ws0 cs))) (h : Es tr ρ ss ρ') (h1 : ρ'[i]? = some (.p (madeMo f F ws0 cs))) (hn : ss.length = n) (g : T ss fun r => r = .d x) : Ev (tHeld f F i (spN n ws0 cs T (ws0.map some)) tr) ρ (.d x) ρ' := fun c A σ H Q R fA q => by
  obtain ⟨_, v, e1, rfl, e2, _⟩ := R.sl i _ h0
  refine ⟨e1, vw_sub _ _ e2, h c A σ H _ R fA fun vs A1 H1 R1 f1 S1 o1 => ?_⟩
  obtain ⟨_, v', e3, e4, e5, ec, e6⟩ := R1.sl i _ h1
  refine ⟨vw_sub _ _ e5, vw_sub _ _ ec, rfl, zz c.Z A1, ss, _, zz_ok R1, by rw [hz_eq]; exact o1, by rw [hz_eq]; exact e6, hn, g, fun r v H' hr S o => ?_⟩
  · subst hr
    have o : Dn (hz (zz c.Z A1) H') v x := o
    rw [hz_eq] at o
    exact q v A1 H' (R1.upA S) f1 (S1.trans (vw_upA R1 S)) o
end
section
variable {P : Program} {w : World} {K : PySem.W.Frag} {mg : Str → Option Value} {base : Heap} {k : Nat}
theorem fn_n {F : NF} {f : Addr} {N ps fr : List Str} {n m : Nat} {ws0 : List V} {cs : List Sl} {T : List Sl → (Rv → Prop) → Prop} (S : NScope N ps fr F.scope) (hb : ∀ (doc pm ctv : Value) (us : List Value), us.length = ps.length → bindArgs (F.fd doc pm ctv) ⟨us, []⟩ = pure (ps.zip us))
    (hn : ps.length = n) (hm : cs.length = m) (hN : n + m + N.length < fl)
    (body : ∀ (A : Around) (outer : List Env) (s : Shared) (H : Hp) (E : XK), Room k (A.deeper (envF F f s.heap.objs.size)) → ∃ t, PSs (ncx CX0 P w K mg base N F f A outer s H E).nox F.body t ∧ ∀ as Kr, as.length = n → T as Kr → Sm t ((as ++ cs) ++ uns (N.length - (n + m))) { nx := fun _ => Kr (.d .none), rt := fun r _ => Kr r }) :
    NOk P w K mg base CX0 (k + 1) f F ps fr (spN n ws0 cs T) := by
  refine nok_of S hb (fun ws vs H Q E h => ?_) (fun A outer s H vs ws Q E hr hf hcd hl h => ?_)
  · obtain ⟨_, Z, as, Kr, hZ, ha, hc, hl, _⟩ := h
    rw [ha.length, hl, hn]
  · obtain ⟨rfl, Z, as, Kr, hZ, ha, hc, hl, hT, go⟩ := h
    obtain ⟨t, ht, hbd⟩ := body A outer s H E hr
    refine ⟨t, ht.nox, ?_⟩
    have e0 : startF N vs (ws0.map some) = L2.start N (vs ++ ws0) := by
      unfold startF L2.start
      rw [List.map_append, List.append_assoc, List.length_append, List.length_map, Nat.sub_sub]
    rw [e0]
    refine hbd as Kr hl hT ⟨Z, none, H, hz Z H⟩ _ _ H _ (rp_start hN hZ (ha.append hc) (by rw [List.length_append, hl, hm])) rfl ?_
    have same : ∀ {A' : Am} {ρ' : List Sl} {σ' : L2.St} {H' : Hp}, Rp ⟨Z, none, H, hz Z H⟩ A' ρ' σ' H' → Aft Z H H' := rp_aft
    refine ⟨fun ρ' A' σ' H' hk R f => go _ _ _ hk (same R) .non, fun r ρ' v A' σ' H' hk R o => go r v H' hk (same R) ?_, fun _ _ _ _ h => h.elim, fun _ _ _ _ h => h.elim⟩
    exact rv_out (fun b o e nz _ => R.old _ _ (hz_mk nz e)) (fun b z => Or.inl z) R.inj R.off R.bor o
end
/-- just this value, which stands for x -/
def exactMo (v0 : V) (x : PyData) : Mo := ⟨fun v W => v = v0 ∧ Dn W v x, fun S ⟨a, b⟩ => ⟨a, Dn.mono S b⟩⟩
section
variable {c : Fr} {A : Am} {ρ : List Sl} {σ : L2.St} {H : Hp}
theorem Rp.exact {j : Nat} {x : PyData} (R : Rp c A ρ σ H) (h : ρ[j]? = some (.d x)) : ∃ v, σ[j]? = some (some v) ∧ Dn (vw c.Z A H) v x ∧ Rp c A (ρ.set j (.p (exactMo v x))) σ H := by
  obtain ⟨e0, v, e1, d1⟩ := R.sl j _ h
  refine ⟨v, e1, d1, by rw [List.length_set]; exact R.len, by rw [List.length_set]; exact R.sz, R.inj, R.off, R.live, R.keep, R.old, R.bor, fun i s hi => ?_, R.tz, R.tb⟩
  by_cases q : i = j
  · subst q
    rw [List.getElem?_set_self (List.getElem?_eq_some_iff.mp h).1] at hi
    obtain rfl := Option.some.inj hi
    exact ⟨e0, v, e1, rfl, d1⟩
  · rw [List.getElem?_set_ne (Ne.symm q)] at hi
    exact R.sl i s hi
end
/-! a def statement within a def: its table may grow -/
/-- the slot i holds the new function; Z: what is hidden -/
def tNdefT (i : Nat) (mk : Addr → NF) : TS := fun D σ H => ∃ Z, ZOk Z H ∧ ∀ (f cc : Addr) (H1 : Hp), Aft Z H H1 → H f = none → H1 f = some (FnO f (mk cc)) → hz Z H1 cc = some (CodeO cc (mk cc).qual) → D.nx (σ.set i (some (.ref f))) H1
section
variable {X : Cx}
theorem made_new {Z : Addr → Prop} {H : Hp} {f cc : Addr} {F : NF} {q : Str} (zo : ZOk Z H) (nf : H f = none) (hc : hz Z H cc = some (CodeO cc q)) : Aft Z H (upd H f (FnO f F)) ∧ hz Z (upd H f (FnO f F)) cc = some (CodeO cc q) := by
  refine ⟨Aft.of (Same.new nf) zo.tb, ?_⟩
  obtain ⟨z1, z2⟩ := hz_some hc
  exact hz_mk z1 (by rw [upd_ne (ne_of_none z2 nf)]; exact z2)
theorem code_no {cc : Addr} {q : Str} {ps : Array Value} (h : HO.tbl ps = CodeO cc q) : False := by
  unfold CodeO at h
  cases h
/-- the table tells a code object more -/
theorem made_code {Z : Addr → Prop} {H : Hp} {P cc : Addr} {ps : Array Value} {nm : Nat → Nat → Str} {pos : Pos} (zo : ZOk Z H) (hm : (P, nm) ∈ Tbs.T) (hu : ∀ p ∈ Tbs.T, p.1 = P → p.2 = nm) (eP : H P = some (.tbl ps)) (tr : TriplesOk ps.toList)
    (al : ∀ (pos : Pos) (cv : Value), codeAmong pos ps.toList = some cv → ∃ c, cv = .ref c ∧ hz Z H c = some (CodeO c (nm pos.line pos.col))) (nc : H cc = none) :
    ZOk Z (upd (upd H P (.tbl (ps ++ #[rawInt pos.line, rawInt pos.col, .ref cc]))) cc (CodeO cc (nm pos.line pos.col))) ∧ Aft Z H (upd (upd H P (.tbl (ps ++ #[rawInt pos.line, rawInt pos.col, .ref cc]))) cc (CodeO cc (nm pos.line pos.col))) ∧
      hz Z (upd (upd H P (.tbl (ps ++ #[rawInt pos.line, rawInt pos.col, .ref cc]))) cc (CodeO cc (nm pos.line pos.col))) cc = some (CodeO cc (nm pos.line pos.col)) := by
  have tP : tabA P := ⟨_, hm, rfl⟩
  have nPc : P ≠ cc := ne_of_none eP nc
  have nZ : ¬ Z cc := fun z => zo.there _ z nc
  have kp : ∀ b o, H b = some o → b ≠ P → upd (upd H P (.tbl (ps ++ #[rawInt pos.line, rawInt pos.col, .ref cc]))) cc (CodeO cc (nm pos.line pos.col)) b = some o := fun b o e n => by
    rw [upd_ne (ne_of_none e nc), upd_ne n]
    exact e
  have kc : ∀ c q, hz Z H c = some (CodeO c q) → hz Z (upd (upd H P (.tbl (ps ++ #[rawInt pos.line, rawInt pos.col, .ref cc]))) cc (CodeO cc (nm pos.line pos.col))) c = some (CodeO c q) := fun c q e => by
    obtain ⟨z1, z2⟩ := hz_some e
    refine hz_mk z1 (kp _ _ z2 fun z => ?_)
    rw [z, eP] at z2
    exact code_no (Option.some.inj z2)
  have at_ : hz Z (upd (upd H P (.tbl (ps ++ #[rawInt pos.line, rawInt pos.col, .ref cc]))) cc (CodeO cc (nm pos.line pos.col))) cc = some (CodeO cc (nm pos.line pos.col)) := hz_mk nZ upd_same
  have tb : Tb (hz Z (upd (upd H P (.tbl (ps ++ #[rawInt pos.line, rawInt pos.col, .ref cc]))) cc (CodeO cc (nm pos.line pos.col)))) (upd (upd H P (.tbl (ps ++ #[rawInt pos.line, rawInt pos.col, .ref cc]))) cc (CodeO cc (nm pos.line pos.col))) := fun p hp => by
    by_cases q : p.1 = P
    · have e2 : (ps ++ #[rawInt pos.line, rawInt pos.col, Value.ref cc]).toList = ps.toList ++ [rawInt pos.line, rawInt pos.col, .ref cc] := by simp
      rw [hu p hp q, q]
      refine ⟨_, by rw [upd_ne nPc, upd_same], by rw [e2]; exact PySem.TriplesOk_snoc _ _ _ _ tr, fun pp cv h => ?_⟩
      rw [e2] at h
      rcases among_app2 _ tr h with z | ⟨z, z1, z2⟩
      · obtain ⟨c, g1, g2⟩ := al pp cv z
        exact ⟨c, g1, kc _ _ g2⟩
      · rw [← z1, ← z2]
        exact ⟨cc, z, at_⟩
    · obtain ⟨qs, g1, g2, g3⟩ := zo.tb p hp
      refine ⟨qs, kp _ _ g1 q, g2, fun pp cv h => ?_⟩
      obtain ⟨c, k1, k2⟩ := g3 pp cv h
      exact ⟨c, k1, kc _ _ k2⟩
  refine ⟨⟨fun b z => ?_, zo.tz, tb⟩, ⟨fun b o e t => kp b o e fun z => t (z ▸ tP), tb⟩, at_⟩
  by_cases q : b = P
  · rw [q, upd_ne nPc, upd_same]
    simp
  · obtain ⟨o, e⟩ := Option.ne_none_iff_exists'.mp (zo.there b z)
    rw [kp b o e q]
    simp
theorem Aft.trans {Z : Addr → Prop} {H H1 H2 : Hp} (a : Aft Z H H1) (b : Aft Z H1 H2) : Aft Z H H2 := ⟨fun c o e t => b.same c o (a.same c o e t) t, b.tb⟩
theorem ps_ndefT {st : Stmt} {nm : Nat → Nat → Str} {c P : Addr} {name : Str} {pos : Pos} {i : Nat} (hst : st = .FunctionDef name (C8.fnArgs st) (C8.fnBody st) [] none [] (C8.fnScope st) none name pos) (B : TabB X.base X.mg c P) (hc : X.env.code = .ref c) (hm : (P, nm) ∈ Tbs.T) (hu : ∀ p ∈ Tbs.T, p.1 = P → p.2 = nm) (hn : nm pos.line pos.col = X.env.qual ++ name)
    (hcap : ∀ y ∈ (C8.fnScope st).names, y.2 = .free → X.env.scope.names.lookup y.1 = some .cell ∨ X.env.scope.names.lookup y.1 = some .free) (hd0 : (C8.fnArgs st).defaults = []) (hk0 : (C8.fnArgs st).kw_defaults = []) (han : annTrees (C8.fnArgs st) none X.env = [])
    (nd : X.N.Nodup) (hi : X.N[i]? = some name) (lo : Loc X.env.scope name) (hf : X.fn name = true ∨ X.env.scope.names.lookup name = some .local) :
    PS X st (tNdefT i (NF.of st name (X.env.qual ++ name) (cloFrom X.env.cells (C8.fnScope st).names []))) := by
  refine ⟨fun pins s σ H D I ⟨Z, zo, go⟩ => ?_⟩
  have hq : qualnameIn X.env name name = X.env.qual ++ name := by
    have kk : X.env.kindOf name = some .local ∨ X.env.kindOf name = some .cell := lo
    unfold qualnameIn
    rcases kk with kk | kk <;> rw [kk] <;> first | rfl | exact if_neg (by decide)
  have cap : ∀ y ∈ (C8.fnScope st).names, y.2 = .free → ∃ a, X.env.cells.lookup y.1 = some a := fun y hy e => (hcap y hy e).elim (fun z => I.ok.has y.1 (.inl z)) fun z => I.ok.has y.1 (.inr z)
  have bP : s.heap.BuiltinsAt X.mg P := B.bm.keeps I.bk
  obtain ⟨ps, eP, tr, al⟩ := zo.tb _ hm
  have gP : s.heap.get? P = some { cls := .none, data := .fields ps } := I.hok P _ eP
  have fin : ∀ (f cc : Addr) (H1 : Hp) (s1 : Shared), Inv X pins σ H1 s1 → Aft Z H H1 → H f = none → H1 f = some (FnO f (NF.of st name (X.env.qual ++ name) (cloFrom X.env.cells (C8.fnScope st).names []) cc)) → hz Z H1 cc = some (CodeO cc (X.env.qual ++ name)) →
      wpAny (model X.prog X.w) X.A (storeName X.env name (.ref f)) (fun _ s2 => SP X pins D .next s2) X.xe s1 := fun f cc H1 s1 I1 af f0 f1 c1 =>
    store_ok I1 nd hi lo (v := .ref f) rfl (fun s2 J => ⟨_, H1, J, go f cc H1 af f0 f1 c1⟩) hf
  rw [hst]
  refine PySem.W.nestDef_K hd0 hk0 han ?_
  rw [hq]
  cases hh : codeAmong pos ps.toList with
  | some cv =>
    obtain ⟨cc, rfl, hcc⟩ := al pos cv hh
    have hcc : hz Z H cc = some (CodeO cc (nm pos.line pos.col)) := hcc
    rw [hn] at hcc
    refine PySem.W.makeFunction_hit (mg := X.mg) (c := c) (P := P) (ps := ps) (closure_ok cap) I.ok.glob (I.mod.glob.keeps I.bk) hc (B.code.keeps I.bk) gP tr hh bP fun ctv doc h' tk hx _ => ?_
    have I1 : Inv X pins σ H { s with heap := h', toks := tk } := I.kept hx
    have f0 : H h'.objs.size = none := I1.hok.fresh (Nat.le_refl _)
    obtain ⟨a1, a2⟩ := made_new (F := NF.of st name (X.env.qual ++ name) (cloFrom X.env.cells (C8.fnScope st).names []) cc) zo f0 hcc
    exact fin _ cc _ _ (inv_fn (F := NF.of st name (X.env.qual ++ name) (cloFrom X.env.cells (C8.fnScope st).names []) cc) (t' := tk) (doc := doc) (pm := (X.mg "__name__").getD .none) (ctv := ctv) I1 rfl) a1 f0 upd_same a2
  | none =>
    refine PySem.W.makeFunction_K (mg := X.mg) (c := c) (P := P) (ps := ps) (closure_ok cap) I.ok.glob (I.mod.glob.keeps I.bk) hc (B.code.keeps I.bk) gP tr hh B.gP bP fun cc ctv doc h' tk hx hge hlt hrec htb => ?_
    obtain ⟨c2, oc, vs, t, e2, hoc, hd, hv⟩ := hrec
    cases e2
    have nC : H cc = none := I.hok.fresh hge
    obtain ⟨z1, z2, z3⟩ := made_code (pos := pos) zo hm hu eP tr al nC
    rw [hn] at z1 z2 z3
    have I1 := inv_table (t' := tk) (more := #[rawInt pos.line, rawInt pos.col, .ref cc]) (h' := h') I eP (fun b o hb e => hx b o hb e) htb hge ⟨oc, vs, t, hoc, hd, hv⟩
    have f0 := I1.hok.fresh (Nat.le_refl _)
    obtain ⟨a1, a2⟩ := made_new (F := NF.of st name (X.env.qual ++ name) (cloFrom X.env.cells (C8.fnScope st).names []) cc) z1 f0 z3
    exact fin _ cc _ _ (inv_fn (F := NF.of st name (X.env.qual ++ name) (cloFrom X.env.cells (C8.fnScope st).names []) cc) (t' := tk) (doc := doc) (pm := (X.mg "__name__").getD .none) (ctv := ctv) I1 rfl) (z2.trans a1) (I.hok.fresh (Nat.le_trans hge (Nat.le_of_lt hlt))) upd_same a2
end
section
variable {ρ : List Sl} {K : KK}
/-- def f(..): ..: two slots are captured -/
theorem sm_ndef {mk : Addr → NF} {i j1 j2 : Nat} {x1 x2 : PyData} (h1 : ρ[j1]? = some (.d x1)) (h2 : ρ[j2]? = some (.d x2)) (hq : ∀ c, (mk c).c = c) (q : ∀ f cc v1 v2, K.nx (((ρ.set j1 (.p (exactMo v1 x1))).set j2 (.p (exactMo v2 x2))).set i (.p (madeMo f (mk cc) [v1, v2] [.d x1, .d x2])))) (i0 : i ≠ 0 := by decide) (hf : fl ≠ i := by decide) (jj : j1 ≠ j2 := by decide) : Sm (tNdefT i mk) ρ K := fun c A σ H D R fA dk => by
  obtain ⟨v1, e1, d1, R1⟩ := R.exact h1
  obtain ⟨v2, e2, d2, R2⟩ := R1.exact (j := j2) (x := x2) (by rw [List.getElem?_set_ne jj]; exact h2)
  refine ⟨zz c.Z A, zz_ok R2, fun f cc H1 af f0 f1 c1 => ?_⟩
  have R3 := R2.upA af
  have W1 := vw_upA R af
  rw [hz_eq] at c1
  exact dk.nx _ _ _ _ (q f cc v1 v2) (R3.set i0 (s := .p (madeMo f (mk cc) [v1, v2] [.d x1, .d x2])) ⟨rfl, _, rfl, rfl, new_view R f0 f1, by rw [hq cc]; exact c1, Dn.mono W1 d1, Dn.mono W1 d2, trivial⟩) (by rw [aset_ne hf]; exact fA)
end
/-! the call that hands it on -/
/-- what is known of the handed def where it is called -/
structure Handed (s : Shared) (H : Hp) (outer : List Env) (F : NF) (fr : List Str) (ws0 : List V) : Prop where
  cells : CellsAt F.cl fr (ws0.map some) s.heap H
  off : ∀ y c, F.cl.lookup y = some c → c ∉ frs outer
/-- T tells of the arguments, the made def among them; L: that it is handed -/
def spHand (n : Nat) (T : NF → List Str → List V → List Sl → (Rv → Prop) → Prop) : SpS := spDS n fun o s H as Kr => ∃ F fr ws0, Handed s H o F fr ws0 ∧ T F fr ws0 as Kr
def tHand (n : Nat) (cl : List (Str × Addr)) (fr : List Str) (js : List Nat) (T : NF → List Str → List V → List Sl → (Rv → Prop) → Prop) (t : TA) : TE := fun σ H Q => t σ H fun vs H1 => ∃ F ws0, F.cl = cl ∧ js.map (slotAt σ) = ws0.map some ∧ spD n (fun as Kr => T F fr ws0 as Kr) vs H1 Q E0
theorem frs_off {X : Cx} {pins : List (Addr × Obj)} {σ : L2.St} {H : Hp} {s : Shared} (I : Inv X pins σ H s) (hfn : ∀ y, X.fn y = true) {y : Str} {c : Addr} (h : X.env.cells.lookup y = some c) : c ∉ frs X.stack := by
  have nfs : c ∉ X.fs := fun hb => by
    obtain ⟨_, o, ho, _⟩ := I.ok.funs.mem hb
    exact absurd (Nat.lt_of_lt_of_le (Heap.lt_size ho) (I.ok.cab y c (hfn y) h)) (Nat.lt_irrefl _)
  rcases I.ok.stk with e | ⟨e, hfr⟩
  · rw [e]
    exact nfs
  · rw [e]
    unfold frs
    rw [List.filterMap_cons, hfr]
    intro m
    rcases List.mem_cons.mp m with m | m
    · exact I.cne y c h m
    · exact nfs m
section
variable {X : Cx} {k j n : Nat} {f : Addr} {fd : FuncData} {ps fr : List Str} {js : List Nat} {cl : List (Str × Addr)} {T : NF → List Str → List V → List Sl → (Rv → Prop) → Prop} {x : Str} {e : Expr} {es : List Expr} {t : TA} {p pos : Pos}
theorem pe_hand (Fn : FnOkS X.prog X.w X.K X.mg X.base k f fd ps (spHand n T)) (cp : X.Ok → Caps X cl fr js) (hfn : ∀ y, X.fn y = true) (hr : Room j X.A) (hkj : k ≤ j) (hg : Gl X x) (hm : X.mg x = some (.ref f)) (hk : PySem.W.keepIn X.K (.ref f) = true) (hb : Binds X.K fd ps [])
    (ha : PA X (e :: es) t) (hdb : (x == ("__debug__" : Str)) = false := by decide) (he : starEach (e :: es) X.env = (false, eval e X.env) :: starEach es X.env := by rfl) (hpl : (backTo pos (starEach es X.env)).any (·.1) = false := by rfl) :
    PE X (.Call (.Name x p) (e :: es) [] pos) (tHand n cl fr js T t) := by
  refine ⟨fun pins s σ H Q I h => ?_⟩
  refine wpAny_Call_Name_kw (ld_glob I hg hm ?_ hdb)
  refine PySem.W.callWith_K (h₀ := X.base) I.ok.mod.kin hk (thn (ha.run pos pins s σ H _ I h) fun us s1 ⟨vs, H1, I1, r, F, ws0, hcl, hws, q⟩ => ⟨I1.kIn, ?_⟩) he hpl
  obtain ⟨Z, as, Kr, hZ, har, hl, hT, go⟩ := q
  have cap := cp I1.ok
  have C := cells_of I1 cap
  rw [hws] at C
  have q2 : spHand n T X.stack s1 vs H1 Q E0 := ⟨Z, as, Kr, hZ, har, hl, ⟨F, fr, ws0, ⟨by rw [hcl]; exact C, fun y c h => frs_off I1 hfn (cap.sub y c (by rw [← hcl]; exact h))⟩, hT⟩, go⟩
  have lv := Fn.len _ _ _ _ _ _ q2
  have lu : us.length = ps.length := by rw [← r.length]; exact lv
  have bt := hb s1 us I1.kIn (by rw [List.length_append]; exact lu)
  rw [List.append_nil] at bt
  show wpAny _ _ (call (.ref f) us) _ _ _
  refine wpAny_call (codeAny_mono (Fn.run X.A X.stack s1 H1 ⟨us, []⟩ us vs Q E0 (hr.mono hkj) I1.env0 bt r q2) fun r s' hq => ?_)
  cases r with
  | error e => exact hq.elim
  | ok fl =>
    cases fl with
    | ret u => exact I1.after hq
    | next => exact False.elim hq
    | brk => exact False.elim hq
    | cont => exact False.elim hq
end
section
variable {ρ ρ' : List Sl} {tr : TA} {ss : List Sl} {x : PyData} {f : Addr} {F : NF} {n j1 j2 : Nat} {fr : List Str} {x1 x2 : PyData} {v1 v2 : V}
theorem ev_hand {T : NF → List Str → List V → List Sl → (Rv → Prop) → Prop} (h : Es tr ρ ss ρ) (h1 : ρ[j1]? = some (.p (exactMo v1 x1))) (h2 : ρ[j2]? = some (.p (exactMo v2 x2))) (hn : ss.length = n) (g : T F fr [v1, v2] ss fun r => r = .d x) {cl : List (Str × Addr)} (hcl : F.cl = cl := by rfl) : Ev (tHand n cl fr [j1, j2] T tr) ρ (.d x) ρ := fun c A σ H Q R fA q =>
  h c A σ H _ R fA fun vs A1 H1 R1 f1 S1 o1 => by
    obtain ⟨_, u1, e1, rfl, _⟩ := R.sl j1 _ h1
    obtain ⟨_, u2, e2, rfl, _⟩ := R.sl j2 _ h2
    refine ⟨F, [u1, u2], hcl, ?_, zz c.Z A1, ss, _, zz_ok R1, by rw [hz_eq]; exact o1, hn, g, fun r v H' hr S o => ?_⟩
    · show [NdefX.slotAt σ j1, NdefX.slotAt σ j2] = [some u1, some u2]
      unfold NdefX.slotAt
      rw [e1, e2]
    · subst hr
      have o : Dn (hz (zz c.Z A1) H') v x := o
      rw [hz_eq] at o
      exact q v A1 H' (R1.upA S) f1 (S1.trans (vw_upA R1 S)) o
end
end OW
set_option Elab.async false
/-- no def makes a def here -/
instance : OW.Tbs := ⟨[]⟩
set_option Elab.async false
set_option linter.unusedVariables false
set_option maxRecDepth 100000
set_option maxHeartbeats 2000000
namespace KP
open PySem PySem.Spec PyProof.Rows L2 KA OW
/-! ### the purse -/
abbrev sLawCell : Stmt := top 38
abbrev nLawCell : List Str := ["_law_script", "_law_k"]
theorem scLawCell : FnScope nLawCell ["_law_script", "_law_k"] (defScope sLawCell) := ⟨rfl, rfl, rfl, by decide +kernel, rfl, by decide +kernel, by decide +kernel⟩
abbrev sLawBox : Stmt := top 39
abbrev nLawBox : List Str := ["_law_cell_here"]
theorem scLawBox : FnScope nLawBox ["_law_cell_here"] (defScope sLawBox) := ⟨rfl, rfl, rfl, by decide +kernel, rfl, by decide +kernel, by decide +kernel⟩
abbrev sLawTake : Stmt := top 40
abbrev nLawTake : List Str := ["_law_box_here", "_law_many", "_law_digit", "_law_number"]
theorem scLawTake : FnScope nLawTake ["_law_box_here", "_law_many"] (defScope sLawTake) := ⟨rfl, rfl, rfl, by decide +kernel, rfl, by decide +kernel, by decide +kernel⟩
def Purse (H : Hp) (p : Addr) (n : Nat) : Prop := ∃ a b c : Int, H p = some (.lst [.int a, .int b, .int c]) ∧ 0 ≤ a ∧ 0 ≤ b ∧ b < 2147483629 ∧ 0 ≤ c ∧ c ≤ (n : Int)
def maxN : Nat := 1000000000
def spCell (K : PySem.W.Frag) : Sp := fun vs H Q _ => ∃ (a : Addr) (ns : List Int) (j : Nat), vs = [.ref a, .int (j : Int)] ∧ SqL K H a (ns.map V.int) ∧ ∀ z, Q (.int z) H
def spPurse : Sp := fun vs H Q _ => ∃ z, vs = [.int z] ∧ ∀ p H', H p = none → Same H H' → Purse H' p 0 → Q (.ref p) H'
structure Pu where
  a : Int
  b : Int
  c : Int
def Pu.ds (p : Pu) : List PyData := [.int p.a, .int p.b, .int p.c]
def PuOk (p : Pu) (n : Nat) : Prop := 0 ≤ p.a ∧ 0 ≤ p.b ∧ p.b < 2147483629 ∧ 0 ≤ p.c ∧ p.c ≤ (n : Int)
theorem PuOk.more {p : Pu} {n m : Nat} (h : PuOk p n) (l : n ≤ m) : PuOk p m := ⟨h.1, h.2.1, h.2.2.1, h.2.2.2.1, by have := h.2.2.2.2; omega⟩
def takeF (p : Pu) (m : Int) : Int × Pu :=
  if 0 < p.a then (p.a % m, ⟨p.a / m, p.b, p.c⟩)
  else ((((p.b + 6143 * (p.c + 1) + 163) ^ 5 % 2147483647 + 92886 * (p.c + 1)) ^ 3 % 2147483587) / 16 % m, ⟨p.a, p.b, p.c + 1⟩)
theorem takeF_ok {p : Pu} {n : Nat} {m : Int} (h : PuOk p n) (hm : 0 < m) : 0 ≤ (takeF p m).1 ∧ (takeF p m).1 < m ∧ PuOk (takeF p m).2 (n + 1) := by
  obtain ⟨h1, h2, h3, h4, h5⟩ := h
  unfold takeF
  split
  · exact ⟨Int.emod_nonneg _ (by omega), Int.emod_lt_of_pos _ hm, Int.ediv_nonneg h1 (by omega), h2, h3, h4, by show p.c ≤ _; omega⟩
  · exact ⟨Int.emod_nonneg _ (by omega), Int.emod_lt_of_pos _ hm, h1, h2, h3, by show 0 ≤ p.c + 1; omega, by show p.c + 1 ≤ _; omega⟩
def tTake : List PyData → List Sl → (Rv → List PyData → Prop) → Prop := fun c as Kr => ∃ p n m, c = p.ds ∧ as = [.d (.int m)] ∧ PuOk p n ∧ n ≤ maxN ∧ 0 < m ∧ m < 10 ^ 30 ∧ Kr (.d (.int (takeF p m).1)) (takeF p m).2.ds
/-- so a call of take tells -/
theorem got_take {p : Pu} {n : Nat} {m : Int} (h : PuOk p n) (hn : n ≤ maxN) (h0 : 0 < m) (h1 : m < 10 ^ 30) : tTake p.ds ([.d (.int m)] ++ []) (fun r c' => r = .d (.int (takeF p m).1) ∧ c' = (takeF p m).2.ds) := ⟨p, n, m, rfl, rfl, h, hn, h0, h1, rfl, rfl⟩
theorem got_take' {p : Pu} {n : Nat} {m : Int} {q : Int × Pu} (e : takeF p m = q) (h : PuOk p n) (hn : n ≤ maxN) (h0 : 0 < m) (h1 : m < 10 ^ 30) : tTake p.ds ([.d (.int m)] ++ []) (fun r c' => r = .d (.int q.1) ∧ c' = q.2.ds) := e ▸ got_take h hn h0 h1
section
variable {P : Program} {w : World} {K : PySem.W.Frag} {mg : Str → Option Value} {base : Heap}
theorem ok_cell {f : Addr} {fd : FuncData} (F : Fun K "_law_cell" "_law_cell" sLawCell f fd) (T : Txt K w mg) : FnOk P w K mg base CX0 1 f fd ["_law_script", "_law_k"] (spCell K) := by
  refine F.ok scLawCell (fun vs H Q E h => ?_) (fun cdv A outer s H vs Q E hr h => ?_)
  · obtain ⟨a, ns, j, rfl, _⟩ := h
    rfl
  · obtain ⟨a, ns, j, rfl, hS, k⟩ := h
    refine ⟨_, (pss_cons (ps_if (pt_cmpR op_lt (pv 1) (pe_callB call_len_seq (by rfl) T.len PySem.boot_len (pa_cons (pv 0) pa_nil)) (nomark _)) (pss_one (ps_ret (pe_ix ix_list (pv 0) (pv 1) (fun _ _ => rfl)))) pss_nil) (pss_one (ps_ret (pe_op op_add (pe_op op_mul pe_int (pv 1)) pe_int)))), ?_⟩
    refine ⟨_, rfl, _, rfl, a, _, rfl, Or.inl hS, _, _, rfl, rfl, _, rfl, ?_⟩
    refine ite2 (fun h => ?_) (fun h => ?_)
    · have lt := of_decide_eq_true h
      rw [List.length_map] at lt
      have lt : j < ns.length := by omega
      refine ⟨_, rfl, _, rfl, a, _, _, _, rfl, rfl, hS, at_of (j := j) rfl (by rw [List.getElem?_map, List.getElem?_eq_getElem lt]; rfl), k _⟩
    · exact ⟨_, rfl, _, _, rfl, rfl, Or.inl ⟨by decide, by decide⟩, _, _, rfl, rfl, k _⟩
theorem ok_purse {f : Addr} {fd : FuncData} (F : Fun K "_law_box" "_law_box" sLawBox f fd) (T : Txt K w mg) : FnOk P w K mg base CX0 1 f fd ["_law_cell_here"] spPurse := by
  refine F.ok scLawBox (fun vs H Q E h => ?_) (fun cdv A outer s H vs Q E hr h => ?_)
  · obtain ⟨z, rfl, _⟩ := h
    rfl
  · obtain ⟨z, rfl, k⟩ := h
    refine ⟨_, (pss_one (ps_ret (pe_lst (pa_cons (pe_callB (call_max2 rfl) (by rfl) T.max (by decide +kernel) (pa_cons pe_int (pa_cons (pe_op op_sub (pv 0) (pe_op op_pow pe_int pe_int)) pa_nil))) (pa_cons (pe_op op_mod (pv 0) pe_int) (pa_cons pe_int pa_nil)))))), ?_⟩
    refine ⟨_, rfl, 10, 18, rfl, rfl, ⟨by decide, by decide, by decide⟩, _, _, rfl, rfl, 0, _, rfl, _, rfl, z, 2147483629, rfl, rfl, (by show (0 : Int) < 2147483629; decide), (by show 3 ≤ sizeLine; decide), fun p hp => ?_⟩
    refine k p _ hp (Same.new hp) ⟨_, _, 0, upd_same, ?_, Int.emod_nonneg _ (by decide), Int.emod_lt_of_pos _ (by decide), Int.le_refl _, Int.le_refl _⟩
    split <;> omega
theorem ok_take {f : Addr} {fd : FuncData} (F : Fun K "_law_take" "_law_take" sLawTake f fd) (T : Txt K w mg) : FnOk P w K mg base CX0 1 f fd ["_law_box_here", "_law_many"] (spB 1 tTake) := by
  refine fn_b F scLawTake (body := fun cdv A outer s H E hr => ⟨_, (pss_cons (ps_if (pt_cmpR op_gt (pe_ix ix_list (pv 0) pe_int (fun _ _ => rfl)) pe_int (nomark _)) (pss_cons (ps_set (i := 2) scLawTake.nd rfl (Or.inl rfl) (pe_op op_mod (pe_ix ix_list (pv 0) pe_int (fun _ _ => rfl)) (pv 1)))
      (pss_cons (ps_asg (pe_op op_fdivW (pe_ix ix_list (pv 0) pe_int (fun _ _ => rfl)) (pv 1)) (pg_sub (pv 0) pe_int set_list))
      (pss_one (ps_ret (pv 2))))) pss_nil) (pss_cons (ps_asg (pe_op op_add (pe_ix ix_list (pv 0) pe_int (fun _ _ => rfl)) pe_int) (pg_sub (pv 0) pe_int set_list))
      (pss_cons (ps_set (i := 3) scLawTake.nd rfl (Or.inl rfl) (pe_op op_mod (pe_op op_pow (pe_op op_add (pe_op op_add (pe_ix ix_list (pv 0) pe_int (fun _ _ => rfl)) (pe_op op_mul pe_int (pe_ix ix_list (pv 0) pe_int (fun _ _ => rfl)))) pe_int) pe_int) pe_int))
      (pss_cons (ps_set (i := 3) scLawTake.nd rfl (Or.inl rfl) (pe_op op_mod (pe_op op_pow (pe_op op_add (pv 3) (pe_op op_mul pe_int (pe_ix ix_list (pv 0) pe_int (fun _ _ => rfl)))) pe_int) pe_int))
      (pss_one (ps_ret (pe_op op_mod (pe_op op_fdiv (pv 3) pe_int) (pv 1)))))))), ?_⟩)
  rintro ct as Kr _ ⟨p, n, m, rfl, rfl, hp, hn, hm, hm2, k⟩
  obtain ⟨a, b, c⟩ := p
  obtain ⟨h1, h2, h3, h4, h5⟩ := hp
  have h1 : 0 ≤ a := h1
  have h2 : 0 ≤ b := h2
  have h3 : b < 2147483629 := h3
  have h4 : 0 ≤ c := h4
  have h5 : c ≤ (n : Int) := h5
  unfold takeF at k
  have hcN : c + 1 ≤ 1000000001 := by
    unfold maxN at hn
    omega
  have q1 : (b + 6143 * (c + 1) + 163).natAbs < 2 ^ 64 := by omega
  have e0 := Int.emod_nonneg ((b + 6143 * (c + 1) + 163) ^ 5) (b := 2147483647) (by decide)
  have e1 := Int.emod_lt_of_pos ((b + 6143 * (c + 1) + 163) ^ 5) (b := 2147483647) (by decide)
  have q2 : ((b + 6143 * (c + 1) + 163) ^ 5 % 2147483647 + 92886 * (c + 1)).natAbs < 2 ^ 64 := by
    generalize (b + 6143 * (c + 1) + 163) ^ 5 % 2147483647 = t at e0 e1
    omega
  refine (sm_seq (sm_if (et_test (ev_op (ev_ixO rfl ev_int rfl at0) ev_int fv_cmpI)) (fun h => (sm_seq (sm_set (ev_op (ev_ixO rfl ev_int rfl at0) (ev_var rfl) (fv_intC ?_)) (sm_seq (sm_setI rfl (ev_op (ev_ixO rfl ev_int rfl at0) (ev_var rfl) (fv_intC ?_)) ev_int rfl rfl (sm_ret (ev_var rfl) ?_)))))) (fun h => (sm_next (sm_seq (sm_setI rfl (ev_op (ev_ixO rfl ev_int rfl at2) ev_int fv_int) ev_int rfl rfl (sm_seq (sm_set (ev_op (ev_op (ev_op (ev_op (ev_ixO rfl ev_int rfl at1) (ev_op ev_int (ev_ixO rfl ev_int rfl at2) (fv_intC ?_)) fv_int) ev_int fv_int) ev_int (fv_intC ?_)) ev_int (fv_intC ?_)) (sm_seq (sm_set (ev_op (ev_op (ev_op (ev_var rfl) (ev_op ev_int (ev_ixO rfl ev_int rfl at2) (fv_intC ?_)) fv_int) ev_int (fv_intC ?_)) ev_int (fv_intC ?_)) (sm_ret (ev_op (ev_op (ev_var rfl) ev_int (fv_intC ?_)) (ev_var rfl) (fv_intC ?_)) ?_)))))))))))
  · exact hm
  · refine ⟨hm, ?_⟩
    have hz : m.natAbs ≠ 0 := by omega
    exact (Nat.log2_lt hz).mpr (Nat.lt_of_lt_of_le (show m.natAbs < 10 ^ 30 by omega) (Nat.le_trans (show 10 ^ 30 ≤ 2 ^ 100 by decide) (Nat.pow_le_pow_right (by decide) (by decide))))
  · rw [if_pos (of_decide_eq_true h)] at k
    exact ⟨_, rfl, k⟩
  · exact Or.inl ⟨by decide, by decide⟩
  · exact ⟨by decide, by decide, q1⟩
  · show (0 : Int) < 2147483647
    decide
  · exact Or.inl ⟨by decide, by decide⟩
  · exact ⟨by decide, by decide, q2⟩
  · show (0 : Int) < 2147483587
    decide
  · exact ⟨by decide, by decide⟩
  · exact hm
  · rw [if_neg (of_decide_eq_false h)] at k
    exact ⟨_, rfl, k⟩
end
/-! names -/
theorem fold_codes (cs : List Nat) : ∀ acc : Array Nat, (((cs.map fun c => (⟨#[c]⟩ : Str)).foldl (fun acc p => acc ++ (Str.ofString "").cps ++ p.cps) acc)).toList = acc.toList ++ cs := by
  have e0 : (Str.ofString "").cps = #[] := by decide +kernel
  rw [e0]
  induction cs with
  | nil => intro acc; simp
  | cons c cs ih =>
    intro acc
    rw [List.map_cons, List.foldl_cons, ih]
    simp
theorem join_codes (cs : List Nat) : (Txt.join (Str.ofString "") (cs.map fun c => (⟨#[c]⟩ : Str))).cps.toList = cs := by
  cases cs with
  | nil => decide +kernel
  | cons c cs =>
    show (((cs.map fun c => (⟨#[c]⟩ : Str)).foldl (fun acc p => acc ++ (Str.ofString "").cps ++ p.cps) (#[c] : Array Nat))).toList = c :: cs
    rw [fold_codes]
    rfl
theorem sum_ones (cs : List Nat) : ((cs.map fun c => (⟨#[c]⟩ : Str)).map (·.length)).sum = cs.length := by
  induction cs with
  | nil => rfl
  | cons c cs ih =>
    rw [List.map_cons, List.map_cons, List.sum_cons, ih, List.length_cons]
    show 1 + cs.length = cs.length + 1
    omega
theorem q_ok : ∀ y ∈ noNames, nameX ((("q" : Str)) ++ y) = true := by decide +kernel
def drawN : Nat → Pu → List Nat × Pu
  | 0, p => ([], p)
  | k + 1, p => ((drawN k p).1 ++ [97 + (takeF (drawN k p).2 26).1.toNat], (takeF (drawN k p).2 26).2)
theorem drawN_ok {p : Pu} {n : Nat} (h : PuOk p n) : ∀ k, PuOk (drawN k p).2 (n + k) ∧ (drawN k p).1.length = k ∧ (drawN k p).1.all letterB = true
  | 0 => ⟨h, rfl, rfl⟩
  | k + 1 => by
    obtain ⟨h1, h2, h3⟩ := drawN_ok h k
    obtain ⟨t0, t1, t2⟩ := takeF_ok (m := 26) h1 (by decide)
    refine ⟨t2, ?_, ?_⟩
    · show ((drawN k p).1 ++ [_]).length = k + 1
      rw [List.length_append, h2]
      rfl
    · show ((drawN k p).1 ++ [_]).all letterB = true
      rw [List.all_append, h3, List.all_cons, List.all_nil, Bool.and_true, Bool.true_and]
      unfold letterB
      rw [decide_eq_true (by omega), decide_eq_true (by omega)]
      rfl
theorem letter_is {r : Int} (h0 : 0 ≤ r) (h1 : r < 26) : atI letters.cps.toList r = some (97 + r.toNat) := by
  obtain ⟨j, rfl⟩ : ∃ j : Nat, r = (j : Int) := ⟨r.toNat, by omega⟩
  rw [letters_list, Int.toNat_natCast]
  have : ∀ j < 26, ([97, 98, 99, 100, 101, 102, 103, 104, 105, 106, 107, 108, 109, 110, 111, 112, 113, 114, 115, 116, 117, 118, 119, 120, 121, 122] : List Nat)[j]? = some (97 + j) := by decide
  exact at_nat (this j (by omega))
section
variable {ρ ρ' ρ1 ρ2 : List Sl} {te ta tb : TE} {KF : PySem.W.Frag}
theorem dn_strs {W : Hp} : ∀ {vs : List V} {bs : List Str}, DnAll W vs (bs.map .str) → vs = bs.map V.str
  | [], [], _ => rfl
  | v :: vs, b :: bs, h => by
    cases h with
    | cons h t =>
      cases h
      rw [dn_strs t]
      rfl
theorem ev_joinL {a : Str} {ys : List Str} (h : Ev ta ρ (.d (.str a)) ρ1) (g : Ev tb ρ1 (.d (.list (ys.map .str))) ρ2) (len : (ys.map (·.length)).sum + ys.length * a.length ≤ 16777216) :
    Ev (tM1 (fun x xs H Q => ∃ a p, ∃ ys : List Str, x = .str a ∧ xs = [.ref p] ∧ (SqL KF H p (ys.map V.str) ∨ SqT KF H p (ys.map V.str)) ∧ (ys.map (·.length)).sum + ys.length * a.length ≤ 16777216 ∧ Q (.str (Txt.join a ys)) H) ta tb) ρ (.d (.str (Txt.join a ys))) ρ2 := fun c A σ H Q R f q =>
  h c A σ H _ R f fun v A1 H1 R1 f1 S1 o1 => by
    obtain rfl := str_v o1
    refine ⟨⟨a, rfl⟩, g c A1 σ H1 _ R1 f1 fun u A2 H2 R2 f2 S2 o2 => ?_⟩
    obtain ⟨p, vs, rfl, e, dx⟩ := lst_v o2
    obtain rfl := dn_strs dx
    exact ⟨a, p, ys, rfl, rfl, Or.inl (SqL.of (vw_sub _ _ e)), len, q _ A2 H2 R2 f2 (S1.trans S2) (.str _)⟩
theorem fv_addS {a b : Str} (h : a.length + b.length ≤ sizeLine) : FV2 (fun x y H Q => ∃ i j, x = .str i ∧ y = .str j ∧ i.length + j.length ≤ sizeLine ∧ Q (.str (i ++ j)) H) (.d (.str a)) (.d (.str b)) (.d (.str (a ++ b))) := fv2_s (dS (a ++ b)) fun W H v w Q S o o' q => ⟨a, b, str_v o, str_v o', h, q⟩
end
def stemF (p : Pu) : Str := Txt.join (Str.ofString "") ((drawN 7 p).1.map fun c => ⟨#[c]⟩)
def nm1 (s : Str) (f a : Int) (k : Nat) : Str := cutS s none (some a) ++ (⟨#[97 + ((f + 7 * (k : Int)) % 26).toNat]⟩ : Str) ++ cutS s (some a) (some (a + (f + (k : Int)) % (8 - a)))
def nm2 (s : Str) (f : Int) (k : Nat) : Str := cutS s none (some (1 + (f + 5 * (k : Int)) % 7))
def fixq (x : Str) : Str := if (noNames.any fun y => y == x) = true then ("q" : Str) ++ x else x
/-- four names -/
def lettersF (p : Pu) : List Str × Pu :=
  ((if (takeF (takeF (takeF (drawN 7 p).2 26).2 7).2 2).1 = 0 then (List.range 4).map (nm2 (stemF p) (takeF (drawN 7 p).2 26).1) else (List.range 4).map (nm1 (stemF p) (takeF (drawN 7 p).2 26).1 (takeF (takeF (drawN 7 p).2 26).2 7).1)).map fixq,
    (takeF (takeF (takeF (drawN 7 p).2 26).2 7).2 2).2)
/-- letters, one to eight -/
def likeN (x : Str) : Prop := 1 ≤ x.length ∧ x.length ≤ 8 ∧ x.cps.toList.all letterB = true
theorem fixq_ok {x : Str} (h : likeN x) : nameX (fixq x) = true := by
  obtain ⟨h1, h2, h3⟩ := h
  unfold fixq
  split
  · rename_i c
    obtain ⟨y, hy, ey⟩ := List.any_eq_true.mp c
    obtain rfl : y = x := eq_of_beq ey
    exact q_ok y hy
  · rename_i c
    have c : (noNames.any fun y => y == x) = false := Bool.eq_false_iff.mpr c
    unfold nameX
    rw [c, h3, decide_eq_true h1, decide_eq_true h2]
    rfl
theorem cut_codes {z : Str} {lo hi : Option Int} : (cutS z lo hi).cps.toList = (z.cps.toList.drop (HT.sIx z.length 0 lo)).take (HT.sIx z.length z.length hi - HT.sIx z.length 0 lo) := by
  unfold cutS
  simp
theorem all_sub {l : List Nat} {a b : Nat} (h : l.all letterB = true) : ((l.drop a).take b).all letterB = true := by
  rw [List.all_eq_true] at h ⊢
  exact fun x hx => h x (List.mem_of_mem_drop (List.mem_of_mem_take hx))
theorem len_cps (z : Str) : z.length = z.cps.toList.length := by
  show z.cps.size = _
  exact (Array.length_toList ..).symm
theorem stem_ok {p : Pu} {n : Nat} (h : PuOk p n) : (stemF p).cps.toList = (drawN 7 p).1 ∧ (stemF p).length = 7 ∧ (stemF p).cps.toList.all letterB = true := by
  obtain ⟨d1, d2, d3⟩ := drawN_ok h 7
  have codes := join_codes (drawN 7 p).1
  have codes : (stemF p).cps.toList = (drawN 7 p).1 := codes
  exact ⟨codes, by rw [len_cps, codes, d2], by rw [codes, d3]⟩
theorem nm1_ok {s : Str} {f a : Int} {k : Nat} (l : s.length = 7) (al : s.cps.toList.all letterB = true) (f0 : 0 ≤ f) (a0 : 0 ≤ a) (a7 : a < 7) : likeN (nm1 s f a k) := by
  have m0 := Int.emod_nonneg (f + 7 * (k : Int)) (b := 26) (by decide)
  have m1 := Int.emod_lt_of_pos (f + 7 * (k : Int)) (b := 26) (by decide)
  have r0 := Int.emod_nonneg (f + (k : Int)) (b := 8 - a) (by omega)
  have r1 := Int.emod_lt_of_pos (f + (k : Int)) (b := 8 - a) (by omega)
  obtain ⟨i, rfl⟩ : ∃ i : Nat, a = (i : Int) := ⟨a.toNat, by omega⟩
  obtain ⟨j, hj⟩ : ∃ j : Nat, (i : Int) + (f + (k : Int)) % (8 - (i : Int)) = (j : Int) := ⟨((i : Int) + (f + (k : Int)) % (8 - (i : Int))).toNat, by omega⟩
  have codes : (nm1 s f i k).cps.toList = s.cps.toList.take i ++ [97 + ((f + 7 * (k : Int)) % 26).toNat] ++ (s.cps.toList.drop i).take (min j 7 - i) := by
    unfold nm1
    rw [hj]
    show ((cutS s none (some (i : Int))).cps ++ #[_] ++ (cutS s (some (i : Int)) (some (j : Int))).cps).toList = _
    rw [Array.toList_append, Array.toList_append, cut_codes, cut_codes, HT.sIx_none, HT.sIx_nat, HT.sIx_nat, HT.sIx_nat, l, List.drop_zero, Nat.sub_zero, Nat.min_eq_left (by omega : i ≤ 7)]
  refine ⟨?_, ?_, ?_⟩
  · rw [len_cps, codes]
    simp
    omega
  · rw [len_cps, codes]
    have : s.cps.toList.length = 7 := by rw [← len_cps, l]
    simp only [List.length_append, List.length_take, List.length_drop, List.length_singleton, this]
    omega
  · rw [codes, List.all_append, List.all_append, all_sub al]
    have := all_sub (a := 0) (b := i) al
    rw [List.drop_zero] at this
    rw [this, List.all_cons, List.all_nil]
    unfold letterB
    rw [decide_eq_true (by omega), decide_eq_true (by omega)]
    rfl
theorem nm2_ok {s : Str} {f : Int} {k : Nat} (l : s.length = 7) (al : s.cps.toList.all letterB = true) (f0 : 0 ≤ f) : likeN (nm2 s f k) := by
  have m0 := Int.emod_nonneg (f + 5 * (k : Int)) (b := 7) (by decide)
  have m1 := Int.emod_lt_of_pos (f + 5 * (k : Int)) (b := 7) (by decide)
  obtain ⟨j, hj⟩ : ∃ j : Nat, 1 + (f + 5 * (k : Int)) % 7 = (j : Int) := ⟨(1 + (f + 5 * (k : Int)) % 7).toNat, by omega⟩
  have codes : (nm2 s f k).cps.toList = s.cps.toList.take j := by
    unfold nm2
    rw [hj, cut_codes, HT.sIx_none, HT.sIx_nat, l, List.drop_zero, Nat.sub_zero, Nat.min_eq_left (by omega : j ≤ 7)]
  have l7 : s.cps.toList.length = 7 := by rw [← len_cps, l]
  refine ⟨?_, ?_, ?_⟩
  · rw [len_cps, codes, List.length_take]
    omega
  · rw [len_cps, codes, List.length_take]
    omega
  · rw [codes]
    have := all_sub (a := 0) (b := j) al
    rw [List.drop_zero] at this
    exact this
theorem lettersF_ok {p : Pu} {n : Nat} (h : PuOk p n) : (lettersF p).1.length = 4 ∧ (∀ x ∈ (lettersF p).1, nameX x = true) ∧ PuOk (lettersF p).2 (n + 10) := by
  obtain ⟨d1, d2, d3⟩ := drawN_ok h 7
  obtain ⟨s1, s2, s3⟩ := stem_ok h
  obtain ⟨f0, f1, f2⟩ := takeF_ok (m := 26) d1 (by decide)
  obtain ⟨a0, a1, a2⟩ := takeF_ok (m := 7) f2 (by decide)
  obtain ⟨t0, t1, t2⟩ := takeF_ok (m := 2) a2 (by decide)
  refine ⟨?_, ?_, t2⟩
  · unfold lettersF
    rw [List.length_map]
    split <;> rfl
  · intro x hx
    obtain ⟨y, hy, rfl⟩ := List.mem_map.mp hx
    refine fixq_ok ?_
    split at hy
    · obtain ⟨k, _, rfl⟩ := List.mem_map.mp hy
      exact nm2_ok s2 s3 f0
    · obtain ⟨k, _, rfl⟩ := List.mem_map.mp hy
      exact nm1_ok s2 s3 f0 a0 a1
def tLetters : List PyData → List Sl → (Rv → List PyData → Prop) → Prop := fun c as Kr => ∃ p n, c = p.ds ∧ as = [.d (.int 4)] ∧ PuOk p n ∧ n + 10 ≤ maxN ∧ Kr (.d (.list ((lettersF p).1.map .str))) (lettersF p).2.ds
end KP
set_option Elab.async false
set_option linter.unusedVariables false
set_option maxRecDepth 100000
set_option maxHeartbeats 2000000
namespace KP
open PySem PySem.Spec PyProof.Rows L2 KA
mutual
def flatD : PyData → Bool
  | .tuple ds => flatAll ds
  | .list _ => false
  | .dict _ => false
  | _ => true
def flatAll : List PyData → Bool
  | [] => true
  | d :: ds => flatD d && flatAll ds
end
theorem cnt_flat {lo : Int} {d : PyData} (h : cntB lo d = true) : flatD d = true := by cases d <;> first | rfl | cases h
theorem whole_flat {lo hi : Int} {d : PyData} (h : wholeB lo hi d = true) : flatD d = true := by cases d <;> first | rfl | cases h
theorem name_flat {d : PyData} (h : nameB d = true) : flatD d = true := by cases d <;> first | rfl | cases h
theorem leaf_flat {wd : Str} : ∀ {ds : List PyData}, leafB wd ds = true → flatAll ds = true
  | [x], h => by
    have h : (if wd = "at" then cntB 0 x else if wd = "kind" then wholeB 0 5 x else (decide (wd = "name") || decide (wd = "thing")) && nameB x) = true := h
    have f : flatD x = true := by
      split at h
      · exact cnt_flat h
      · split at h
        · exact whole_flat h
        · exact name_flat (Bool.and_eq_true_iff.mp h).2
    simp only [flatAll, f, Bool.and_self]
  | [x, y], h => by
    have h : (nameB x && (if wd = "maker" then cntB 0 y else decide (wd = "eater") && wholeB 0 5 y)) = true := h
    obtain ⟨h1, h2⟩ := Bool.and_eq_true_iff.mp h
    have f : flatD y = true := by
      split at h2
      · exact cnt_flat h2
      · exact whole_flat (Bool.and_eq_true_iff.mp h2).2
    simp only [flatAll, name_flat h1, f, Bool.and_self]
  | [], h => by cases h
  | _ :: _ :: _ :: _, h => by cases h
mutual
theorem tm_flat : ∀ d : PyData, tm d = true → flatD d = true
  | .tuple [], h => by simp [tm] at h
  | .tuple (d :: ds), h => by
    cases hS : isStrD d with
    | false =>
      rw [isStr_false hS] at h
      cases h
    | true =>
      obtain ⟨wd, rfl⟩ : ∃ wd, d = .str wd := by cases d <;> first | exact ⟨_, rfl⟩ | cases hS
      cases hp : parts wd with
      | none =>
        rw [tm_leaf hp] at h
        simp only [flatD, flatAll, leaf_flat h, Bool.and_self]
      | some n =>
        rw [tm_parts hp] at h
        simp only [flatD, flatAll, tmAll_flat ds (Bool.and_eq_true_iff.mp h).2, Bool.and_self]
  | .none, h => by simp [tm] at h
  | .bool _, h => by simp [tm] at h
  | .int _, h => by simp [tm] at h
  | .str _, h => by simp [tm] at h
  | .list _, h => by simp [tm] at h
  | .dict _, h => by simp [tm] at h
theorem tmAll_flat : ∀ ds : List PyData, tmAll ds = true → flatAll ds = true
  | [], _ => rfl
  | d :: ds, h => by
    have h : tm d = true ∧ tmAll ds = true := by simpa only [tmAll, Bool.and_eq_true] using h
    simp only [flatAll, tm_flat d h.1, tmAll_flat ds h.2, Bool.and_self]
end
theorem str_ok {x : Str} (h : fine (.str x) = true) : (PyData.str x).canLay0 = true := by
  have h' : x.length ≤ 20 ∧ ∀ c ∈ x.cps.toList, c < 128 := by simpa only [fine, Bool.and_eq_true, decide_eq_true_eq, List.all_eq_true] using h
  show (x.cps.all (· < 0x110000)) = true
  rw [Array.all_eq_true_iff_forall_mem]
  intro c hc
  exact decide_eq_true (Nat.lt_trans (h'.2 c (by simpa using hc)) (by decide))
mutual
theorem lay_flat : ∀ d : PyData, flatD d = true → fine d = true → d.canLay0 = true
  | .none, _, _ => rfl
  | .bool _, _, _ => rfl
  | .int _, _, _ => rfl
  | .str x, _, h => str_ok h
  | .list _, h, _ => by simp [flatD] at h
  | .dict _, h, _ => by simp [flatD] at h
  | .tuple ds, h, f => by
    have := lay_flatAll ds (by simpa only [flatD] using h) (by simpa only [fine] using f)
    simpa only [PyData.canLay0] using this
theorem lay_flatAll : ∀ ds : List PyData, flatAll ds = true → fineAll ds = true → PyData.canLayAll0 ds = true
  | [], _, _ => rfl
  | d :: ds, h, f => by
    have h : flatD d = true ∧ flatAll ds = true := by simpa only [flatAll, Bool.and_eq_true] using h
    have f : fine d = true ∧ fineAll ds = true := by simpa only [fineAll, Bool.and_eq_true] using f
    simp only [PyData.canLayAll0, lay_flat d h.1 f.1, lay_flatAll ds h.2 f.2, Bool.and_self]
end
theorem depth_in {e : PyData} : ∀ {es : List PyData}, e ∈ es → e.depth ≤ PyData.depthAll es
  | a :: es, h => by
    show e.depth ≤ max a.depth (PyData.depthAll es)
    rcases List.mem_cons.mp h with rfl | h
    · exact Nat.le_max_left _ _
    · exact Nat.le_trans (depth_in h) (Nat.le_max_right _ _)
theorem flat_in {e : PyData} : ∀ {es : List PyData}, flatAll es = true → e ∈ es → flatD e = true
  | a :: es, f, h => by
    have f : flatD a = true ∧ flatAll es = true := by simpa only [flatAll, Bool.and_eq_true] using f
    rcases List.mem_cons.mp h with rfl | h
    · exact f.1
    · exact flat_in f.2 h
theorem fine_in {e : PyData} : ∀ {es : List PyData}, fineAll es = true → e ∈ es → fine e = true
  | a :: es, f, h => by
    have f : fine a = true ∧ fineAll es = true := by simpa only [fineAll, Bool.and_eq_true] using f
    rcases List.mem_cons.mp h with rfl | h
    · exact f.1
    · exact fine_in f.2 h
theorem shaped_flat {d : PyData} (f : flatD d = true) (g : fine d = true) (h : d.depth ≤ 64) : SeqAt.shaped d = true := by
  unfold SeqAt.shaped
  rw [Bool.and_eq_true]
  exact ⟨lay_flat d f g, decide_eq_true h⟩
theorem shaped_list {ds : List PyData} (f : flatAll ds = true) (g : fineAll ds = true) (h : PyData.depthAll ds ≤ 63) : SeqAt.shaped (.list ds) = true := by
  unfold SeqAt.shaped
  rw [Bool.and_eq_true]
  refine ⟨by simp only [PyData.canLay0, lay_flatAll ds f g], decide_eq_true ?_⟩
  show PyData.depthAll ds + 1 ≤ 64
  omega
end KP
set_option Elab.async false
set_option linter.unusedVariables false
set_option linter.unusedSectionVars false
set_option maxRecDepth 100000
set_option maxHeartbeats 1000000
namespace OW
open PySem PySem.Spec PyProof.Rows L2 KA
variable [Tbs]
/-! ### what is never reached; calls by the arguments' names -/
structure CalK (P : Program) (w : World) (K : PySem.W.Frag) (mg : Str → Option Value) (base : Heap) (k : Nat) (x : Str) (ks : List Str) (gV : List V → List V → List V) (sp : Sp) : Prop where
  ex : ∃ (f : Addr) (fd : FuncData) (ps : List Str) (g : List Value → List Value → List Value), FnOk P w K mg base CX0 k f fd ps sp ∧ mg x = some (.ref f) ∧ PySem.W.keepIn K (.ref f) = true ∧ KBinds K fd ps ks g gV
section
variable {X : Cx} {k j : Nat} {f : Addr} {fd : FuncData} {ps ks : List Str} {sp : Sp} {x : Str} {p pos : Pos} {kws : List Keyword} {tk : TA} {g : List Value → List Value → List Value} {gV : List V → List V → List V}
theorem pe_callK0 (F : FnOk X.prog X.w X.K X.mg X.base CX0 k f fd ps sp) (hr : Room k X.A) (hg : Gl X x) (hm : X.mg x = some (.ref f)) (hk : PySem.W.keepIn X.K (.ref f) = true) (hb : KBinds X.K fd ps ks g gV)
    (hkw : PK X kws tk) (hall : (backToKw pos (keywordEach kws X.env)).all (·.1.isSome) = true := by rfl) (hks : (backToKw pos (keywordEach kws X.env)).filterMap (·.1) = ks := by rfl)
    (hdb : (x == ("__debug__" : Str)) = false := by decide) (hpl : ((backTo pos (starEach [] X.env)).any (·.1) || (backToKw pos (keywordEach kws X.env)).any (·.1.isNone)) = false := by rfl) :
    PE X (.Call (.Name x p) [] kws pos) (tCallK sp gV C8.E0 tNil tk) := by
  refine ⟨fun pins s σ H Q I h => ?_⟩
  have h : tk σ H fun zs H2 => sp (gV [] zs) H2 Q C8.E0 := h
  refine wpAny_Call_Name_kw (ld_glob I hg hm ?_ hdb)
  refine PySem.W.callWith_KW0 (h₀ := X.base) I.ok.mod.kin hk hall (thn (hkw.run pos pins s σ H _ I h) fun ws s2 ⟨zs, H2, I2, rz, q2⟩ => ⟨I2.kIn, ?_⟩) hpl
  rw [hks]
  exact run_fnk (us := []) (vs := []) F hr hb pass0 I2 .nil rz q2
theorem pe_ck (c : CalK X.prog X.w X.K X.mg X.base k x ks gV sp) (hr : Room j X.A) (hk : k ≤ j) (hg : Gl X x)
    (hkw : PK X kws tk) (hall : (backToKw pos (keywordEach kws X.env)).all (·.1.isSome) = true := by rfl) (hks : (backToKw pos (keywordEach kws X.env)).filterMap (·.1) = ks := by rfl)
    (hdb : (x == ("__debug__" : Str)) = false := by decide) (hpl : ((backTo pos (starEach [] X.env)).any (·.1) || (backToKw pos (keywordEach kws X.env)).any (·.1.isNone)) = false := by rfl) :
    PE X (.Call (.Name x p) [] kws pos) (tCallK sp gV C8.E0 tNil tk) := by
  obtain ⟨f, fd, ps, g, F, hm, kp, b⟩ := c.ex
  exact pe_callK0 F (hr.mono hk) hg hm kp b hkw hall hks hdb hpl
theorem kb_of {K : PySem.W.Frag} {qual : Str} {st : Stmt} (F : Fun K x qual st f fd) (h : ∀ (kV doc pm : Value) (an : Option Addr) (cdv ct : Value) (us ws : List Value), (g us ws).length = ps.length → bindArgs (PySem.W.fnOf x qual (defArgs st) (defBody st) (defScope st) .none kV doc pm an cdv ct) ⟨us, ks.zip ws⟩ = pure (ps.zip (g us ws)))
    (rel : ∀ {vs : List V} {us : List Value} {zs : List V} {ws : List Value}, Vals vs us → Vals zs ws → Vals (gV vs zs) (g us ws)) : KBinds K fd ps ks g gV := by
  obtain ⟨oc, od, kV, doc, pm, an, cdv, ct, osl, rfl, lk, hcd⟩ := F.ex
  exact ⟨fun s us ws _ hl => .of_eq (h kV doc pm an cdv ct us ws hl), rel⟩
end
section
variable {ρ ρ' : List Sl} {tk : TA} {ss as : List Sl} {x : PyData} {gV : List V → List V → List V}
theorem ev_ck {n : Nat} {T : List Sl → (Rv → Prop) → Prop} {E : XK} (h : Es tk ρ ss ρ') (hgV : ∀ W vs, ArAll W vs ss → ArAll W (gV [] vs) as) (hn : as.length = n) (g : T as fun r => r = .d x) : Ev (tCallK (spD n T) gV E tNil tk) ρ (.d x) ρ' := fun c A σ H Q R f q =>
  h c A σ H _ R f fun vs A1 H1 R1 f1 S1 o1 => by
    refine ⟨zz c.Z A1, as, _, zz_ok R1, by rw [hz_eq]; exact hgV _ _ o1, hn, g, fun r v H' hr S o => ?_⟩
    · subst hr
      have o : Dn (hz (zz c.Z A1) H') v x := o
      rw [hz_eq] at o
      exact q v A1 H' (R1.upA S) f1 (S1.trans (vw_upA R1 S)) o
end
/-! the two orders that laws ask: f(a=..), f(b=.., a=..) -/
def g1 {α : Type} : List α → List α → List α
  | [], [a] => [a]
  | _, _ => []
def g21 {α : Type} : List α → List α → List α
  | [], [b, a] => [a, b]
  | _, _ => []
theorem g1_rel {vs : List V} {us : List Value} {zs : List V} {ws : List Value} (h : Vals vs us) (g : Vals zs ws) : Vals (g1 vs zs) (g1 us ws) := by
  cases h with
  | cons _ _ => exact .nil
  | nil => cases g with
    | nil => exact .nil
    | cons r t => cases t with
      | nil => exact .cons r .nil
      | cons _ _ => exact .nil
theorem g21_rel {vs : List V} {us : List Value} {zs : List V} {ws : List Value} (h : Vals vs us) (g : Vals zs ws) : Vals (g21 vs zs) (g21 us ws) := by
  cases h with
  | cons _ _ => exact .nil
  | nil => cases g with
    | nil => exact .nil
    | cons r t => cases t with
      | nil => exact .nil
      | cons r2 t2 => cases t2 with
        | nil => exact .cons r2 (.cons r .nil)
        | cons _ _ => exact .nil
theorem g1_ar {W : Hp} {vs : List V} {a : Sl} (h : ArAll W vs [a]) : ArAll W (g1 [] vs) [a] := by
  cases vs with
  | nil => exact h.elim
  | cons v vs => cases vs with
    | nil => exact h
    | cons _ _ => exact h.2.elim
theorem g21_ar {W : Hp} {vs : List V} {a b : Sl} (h : ArAll W vs [b, a]) : ArAll W (g21 [] vs) [a, b] := by
  cases vs with
  | nil => exact h.elim
  | cons v vs => cases vs with
    | nil => exact h.2.elim
    | cons w vs => cases vs with
      | nil => exact ⟨h.2.1, h.1, trivial⟩
      | cons _ _ => exact h.2.2.elim
end OW
set_option Elab.async false
set_option linter.unusedVariables false
set_option maxRecDepth 100000
set_option maxHeartbeats 2000000
namespace KP
open PySem PySem.Spec PyProof.Rows L2 KA OW
/-! ### terms taken apart -/
abbrev sPartsOf : Stmt := top 7
abbrev nPartsOf : List Str := ["term"]
theorem scPartsOf : FnScope nPartsOf ["term"] (defScope sPartsOf) := ⟨rfl, rfl, rfl, by decide +kernel, rfl, by decide +kernel, by decide +kernel⟩
abbrev sPassed : Stmt := top 8
abbrev nPassed : List Str := ["word", "at"]
theorem scPassed : FnScope nPassed ["word", "at"] (defScope sPassed) := ⟨rfl, rfl, rfl, by decide +kernel, rfl, by decide +kernel, by decide +kernel⟩
abbrev sInnerTerms : Stmt := top 9
abbrev nInnerTerms : List Str := ["term", "found", "waiting", "part", "above", "below", "at"]
theorem scInnerTerms : FnScope nInnerTerms ["term"] (defScope sInnerTerms) := ⟨rfl, rfl, rfl, by decide +kernel, rfl, by decide +kernel, by decide +kernel⟩
def partsD : PyData → List PyData
  | .tuple (.str wd :: ds) => if (parts wd).isSome = true then ds else []
  | _ => []
def passD (wd : Str) (i : Int) : Int := if i = 1 ∧ (wd = "all" ∨ wd = "fun") then 1 else 0
def wdD : PyData → Str
  | .tuple (.str wd :: _) => wd
  | _ => ""
def spotT (p : List Nat) : PyData := .tuple (p.map fun i : Nat => .int (i : Int))
/-- a part: its spot, it, how many binders stand above it -/
abbrev Row3 := List Nat × PyData × Int
mutual
def wk : PyData → List Nat → Int → List Row3
  | .tuple (.str w :: ds), p, u => (p, .tuple (.str w :: ds), u) :: (if (parts w).isSome = true then wkL ds w p u 0 else [])
  | d, p, u => [(p, d, u)]
def wkL : List PyData → Str → List Nat → Int → Nat → List Row3
  | [], _, _, _, _ => []
  | d :: ds, w, p, u, i => wk d (p ++ [i]) (u + passD w (i : Int)) ++ wkL ds w p u (i + 1)
end
def push3 : List PyData → Str → List Nat → Int → Nat → List Row3
  | [], _, _, _, _ => []
  | e :: es, w, p, u, i => (p ++ [i], e, u + passD w (i : Int)) :: push3 es w p u (i + 1)
theorem tm_shape {d : PyData} (h : tm d = true) : ∃ wd ds, d = .tuple (.str wd :: ds) := by
  cases hT : isTupD d with
  | false =>
    rw [isTup_false hT] at h
    cases h
  | true =>
    obtain ⟨ds, rfl⟩ : ∃ ds, d = .tuple ds := by cases d <;> first | exact ⟨_, rfl⟩ | cases hT
    cases ds with
    | nil => simp [tm] at h
    | cons e ds =>
      cases hS : isStrD e with
      | false =>
        rw [isStr_false hS] at h
        cases h
      | true =>
        obtain ⟨wd, rfl⟩ : ∃ wd, e = .str wd := by cases e <;> first | exact ⟨_, rfl⟩ | cases hS
        exact ⟨wd, ds, rfl⟩
theorem parts_tm {d : PyData} (h : tm d = true) : tmAll (partsD d) = true := by
  obtain ⟨wd, ds, rfl⟩ := tm_shape h
  show tmAll (if (parts wd).isSome = true then ds else []) = true
  cases hp : parts wd with
  | none => rfl
  | some n =>
    rw [tm_parts hp] at h
    simp only [Bool.and_eq_true] at h
    exact h.2
theorem tmAll_mem : ∀ {ds : List PyData} {d : PyData}, tmAll ds = true → d ∈ ds → tm d = true
  | e :: ds, d, f, h => by
    have : tm e = true ∧ tmAll ds = true := by simpa only [tmAll, Bool.and_eq_true] using f
    rcases List.mem_cons.mp h with rfl | h
    · exact this.1
    · exact tmAll_mem this.2 h
theorem wk_eq {d : PyData} (h : tm d = true) (p : List Nat) (u : Int) : wk d p u = (p, d, u) :: wkL (partsD d) (wdD d) p u 0 := by
  obtain ⟨wd, ds, rfl⟩ := tm_shape h
  show (p, PyData.tuple (.str wd :: ds), u) :: (if (parts wd).isSome = true then wkL ds wd p u 0 else []) = _ :: wkL (if (parts wd).isSome = true then ds else []) wd p u 0
  split <;> rfl
theorem wkL_push : ∀ (ds : List PyData) (w : Str) (p : List Nat) (u : Int) (i : Nat), wkL ds w p u i = (push3 ds w p u i).flatMap fun q => wk q.2.1 q.1 q.2.2
  | [], _, _, _, _ => rfl
  | d :: ds, w, p, u, i => by
    show wk d (p ++ [i]) _ ++ wkL ds w p u (i + 1) = _
    rw [wkL_push ds w p u (i + 1)]
    rfl
theorem push3_len : ∀ (ds : List PyData) (w : Str) (p : List Nat) (u : Int) (i : Nat), (push3 ds w p u i).length = ds.length
  | [], _, _, _, _ => rfl
  | _ :: ds, w, p, u, i => congrArg (· + 1) (push3_len ds w p u (i + 1))
theorem push3_at : ∀ {ds : List PyData} {w : Str} {p : List Nat} {u : Int} {i k : Nat} {e : PyData}, ds[k]? = some e → (push3 ds w p u i)[k]? = some (p ++ [i + k], e, u + passD w ((i + k : Nat) : Int))
  | d :: ds, w, p, u, i, 0, e, h => by
    cases h
    rfl
  | d :: ds, w, p, u, i, k + 1, e, h => by
    have := push3_at (w := w) (p := p) (u := u) (i := i + 1) (k := k) (ds := ds) h
    show (push3 ds w p u (i + 1))[k]? = _
    rw [this, show i + 1 + k = i + (k + 1) by omega]
theorem push3_mem : ∀ {ds : List PyData} {w : Str} {p : List Nat} {u : Int} {i : Nat} {q : Row3}, q ∈ push3 ds w p u i → q.2.1 ∈ ds
  | d :: ds, w, p, u, i, q, h => by
    rcases List.mem_cons.mp h with rfl | h
    · exact List.mem_cons_self
    · exact List.mem_cons_of_mem _ (push3_mem h)
theorem push3_plen : ∀ {ds : List PyData} {w : Str} {p : List Nat} {u : Int} {i : Nat} {q : Row3}, q ∈ push3 ds w p u i → q.1.length = p.length + 1
  | d :: ds, w, p, u, i, q, h => by
    rcases List.mem_cons.mp h with rfl | h
    · show (p ++ [i]).length = p.length + 1
      rw [List.length_append, List.length_singleton]
    · exact push3_plen h
theorem mem_nodes : ∀ {ds : List PyData} {d : PyData}, d ∈ ds → nodes d ≤ nodesAll ds
  | e :: ds, d, h => by
    show nodes d ≤ nodes e + nodesAll ds
    rcases List.mem_cons.mp h with rfl | h
    · omega
    · have := mem_nodes h
      omega
def load3 (ps : List Row3) : Nat := (ps.map fun q => nodes q.2.1).sum
theorem load3_append (a b : List Row3) : load3 (a ++ b) = load3 a + load3 b := by unfold load3; rw [List.map_append, List.sum_append]
theorem load3_rev (a : List Row3) : load3 a.reverse = load3 a := by
  unfold load3
  rw [List.map_reverse, List.sum_reverse]
theorem load3_push : ∀ (ds : List PyData) (w : Str) (p : List Nat) (u : Int) (i : Nat), load3 (push3 ds w p u i) = nodesAll ds
  | [], _, _, _, _ => rfl
  | d :: ds, w, p, u, i => by
    show nodes d + load3 (push3 ds w p u (i + 1)) = nodes d + nodesAll ds
    rw [load3_push ds w p u (i + 1)]
theorem load3_len (ps : List Row3) : ps.length ≤ load3 ps := by
  induction ps with
  | nil => exact Nat.le_refl _
  | cons q ps ih =>
    have := nodes_pos q.2.1
    show ps.length + 1 ≤ nodes q.2.1 + load3 ps
    omega
theorem parts_nodes {d : PyData} (h : tm d = true) : nodesAll (partsD d) + 1 ≤ nodes d := by
  obtain ⟨wd, ds, rfl⟩ := tm_shape h
  show nodesAll (if (parts wd).isSome = true then ds else []) + 1 ≤ nodesAll (.str wd :: ds) + 1
  have e : nodesAll (.str wd :: ds) = 1 + nodesAll ds := rfl
  split
  · omega
  · show 0 + 1 ≤ _
    omega
theorem parts_depth {d e : PyData} (h : e ∈ partsD d) (t : tm d = true) : e.depth < d.depth := by
  obtain ⟨wd, ds, rfl⟩ := tm_shape t
  have m : e ∈ ds := by
    have h : e ∈ (if (parts wd).isSome = true then ds else []) := h
    split at h
    · exact h
    · cases h
  have le : ∀ {es : List PyData}, e ∈ es → e.depth ≤ PyData.depthAll es := by
    intro es
    induction es with
    | nil => intro h; cases h
    | cons a es ih =>
      intro h
      show e.depth ≤ max a.depth (PyData.depthAll es)
      rcases List.mem_cons.mp h with rfl | h
      · exact Nat.le_max_left _ _
      · exact Nat.le_trans (ih h) (Nat.le_max_right _ _)
  have h2 : e.depth ≤ PyData.depthAll (.str wd :: ds) := le (List.mem_cons_of_mem _ m)
  show e.depth < PyData.depthAll (.str wd :: ds) + 1
  omega
section
variable {P : Program} {w : World} {K : PySem.W.Frag} {mg : Str → Option Value} {base : Heap}
theorem fv_parted {a : Addr} {z : Str} (pn : ∀ z, ∃ r, PySem.W.nsIn K a z = some r ∧ RelO ((parts z).map fun n => V.int (n : Int)) r) :
    FV2 (fun x y H Q => ∃ (z : Str) (r : Option Value), x = .str z ∧ y = .ref a ∧ PySem.W.nsIn K a z = some r ∧ Q (.bl r.isSome) H) (.d (.str z)) (.p (isV (.ref a))) (.d (.bool (parts z).isSome)) := by
  obtain ⟨r, h1, h2⟩ := pn z
  have e : r.isSome = (parts z).isSome := by
    cases hp : parts z with
    | none =>
      rw [hp] at h2
      cases r with
      | none => rfl
      | some u => exact h2.elim
    | some n =>
      rw [hp] at h2
      cases r with
      | none => exact h2.elim
      | some u => rfl
  exact fv2_s (dB (parts z).isSome) fun W H v u Q S o o' q => ⟨z, r, str_v o, isv_v o', h1, by rw [e]; exact q⟩
def tPartsOf : List Sl → (Rv → Prop) → Prop := fun as Kr => ∃ wd ds, as = [.d (.tuple (.str wd :: ds))] ∧ Kr (.d (.tuple (partsD (.tuple (.str wd :: ds)))))
theorem ok_partsof {f : Addr} {fd : FuncData} (F : Fun K "parts_of" "parts_of" sPartsOf f fd) (T : Txt K w mg) : FnOk P w K mg base CX0 1 f fd ["term"] (spD 1 tPartsOf) := by
  obtain ⟨pa, es, en, pm, PD, pn⟩ := T.parted
  refine fn_d F scPartsOf (body := fun cdv A outer s H E hr => ⟨_, pss_cons (ps_if (pt_cmpR (op_in_kd PD) (pe_ix ix_tup (pv 0) pe_int (fun _ _ => rfl)) (pe_glob (v := .ref pa) rfl pm rfl) rfl) (pss_one (ps_ret (pe_slice sl_tupA (pv 0) (po_some pe_int) po_none))) pss_nil) (pss_one (ps_ret (pe_tup pa_nil))), ?_⟩)
  rintro as Kr _ ⟨wd, ds, rfl, k⟩
  have e0 : partsD (.tuple (.str wd :: ds)) = if (parts wd).isSome = true then ds else [] := rfl
  rw [e0] at k
  refine sm_seq (sm_if (et_test (ev_op (ev_op (ev_var rfl) ev_int (fv_ixT at0)) ev_cv (fv_parted pn))) (fun h => sm_ret (ev_slA (ev_var rfl) (eo_some ev_int) eo_none) ?_) fun h => sm_next (sm_ret (ev_tup eds_nil) ?_))
  · rw [if_pos h] at k
    rw [show (1 : Int) = ((1 : Nat) : Int) from rfl, cutD_from']
    exact k
  · rw [if_neg (by rw [h]; decide)] at k
    exact k
def tPassed : List Sl → (Rv → Prop) → Prop := fun as Kr => ∃ wd i, as = [.d (.str wd), .d (.int i)] ∧ Kr (.d (.int (passD wd i)))
theorem ok_passed {f : Addr} {fd : FuncData} (F : Fun K "passed" "passed" sPassed f fd) : FnOk P w K mg base CX0 1 f fd ["word", "at"] (spD 2 tPassed) := by
  refine fn_d F scPassed (body := fun cdv A outer s H E hr => ⟨_, pss_cons (ps_if (PW.pt (pw_and (pt_cmpR op_eq (pv 1) pe_int (nomark _)) (pw_and1 (pt_cmpR op_in_seq (pv 0) (pe_tup (pa_cons pe_str (pa_cons pe_str pa_nil))) rfl)))) (pss_one (ps_ret pe_int)) pss_nil) (pss_one (ps_ret pe_int)), ?_⟩)
  rintro as Kr _ ⟨wd, i, rfl, k⟩
  refine sm_seq (sm_if (et_and (et_test (ev_op (ev_var rfl) ev_int fv_eqI)) fun _ => et_test (ev_op (ev_var rfl) (ev_tup (eds_cons ev_str (eds_cons ev_str eds_nil))) (fv_inT (bs := ["all", "fun"])))) (fun h => sm_ret ev_int ?_) fun h => sm_next (sm_ret ev_int ?_))
  · have e : passD wd i = 1 := by
      simp only [Bool.and_eq_true, decide_eq_true_eq, List.any_cons, List.any_nil, Bool.or_false, Bool.or_eq_true, beq_iff_eq] at h
      exact if_pos ⟨h.1, h.2.imp Eq.symm Eq.symm⟩
    rw [e] at k
    exact k
  · have e : passD wd i = 0 := by
      refine if_neg fun z => ?_
      have : (decide (i = 1) && (["all", "fun"] : List Str).any fun b => b == wd) = true := by
        simp only [Bool.and_eq_true, decide_eq_true_eq, List.any_cons, List.any_nil, Bool.or_false, Bool.or_eq_true, beq_iff_eq]
        exact ⟨z.1, z.2.imp Eq.symm Eq.symm⟩
      rw [h] at this
      cases this
    rw [e] at k
    exact k
/-- what stands of the walk while it goes -/
structure Wking (d : PyData) (f ps : List Row3) : Prop where
  t : ∀ q ∈ ps, tm q.2.1 = true ∧ q.1.length + nodes q.2.1 ≤ nodes d
  eq : wk d [] 0 = f ++ ps.reverse.flatMap (fun q => wk q.2.1 q.1 q.2.2)
  ln : f.length + load3 ps ≤ nodes d
theorem Wking.start {d : PyData} (td : tm d = true) : Wking d [] [([], d, 0)] where
  t q hq := by
    rw [List.mem_singleton.mp hq]
    exact ⟨td, by show 0 + nodes d ≤ nodes d; omega⟩
  eq := by
    show _ = [] ++ (wk d [] 0 ++ [])
    rw [List.append_nil, List.nil_append]
  ln := by
    show 0 + (nodes d + 0) ≤ nodes d
    omega
theorem Wking.step {d : PyData} {f qs : List Row3} {q : Row3} (h : Wking d f (qs ++ [q])) : Wking d (f ++ [q]) (qs ++ (push3 (partsD q.2.1) (wdD q.2.1) q.1 q.2.2 0).reverse) ∧ load3 (qs ++ (push3 (partsD q.2.1) (wdD q.2.1) q.1 q.2.2 0).reverse) < load3 (qs ++ [q]) ∧
    f.length + qs.length + (partsD q.2.1).length ≤ nodes d ∧ q.1.length + (partsD q.2.1).length ≤ nodes d ∧ tm q.2.1 = true := by
  obtain ⟨t, eq, ln⟩ := h
  obtain ⟨p, e, u⟩ := q
  have te : tm e = true ∧ p.length + nodes e ≤ nodes d := t _ (List.mem_append_right _ List.mem_cons_self)
  obtain ⟨te, pe⟩ := te
  have lq : load3 (qs ++ [(p, e, u)]) = load3 qs + nodes e := by
    rw [load3_append]
    rfl
  have pn := parts_nodes te
  have len1 := load3_len qs
  have pl := len_nodes (partsD e)
  have ll : load3 (qs ++ (push3 (partsD e) (wdD e) p u 0).reverse) = load3 qs + nodesAll (partsD e) := by rw [load3_append, load3_rev, load3_push]
  rw [lq] at ln
  refine ⟨⟨fun q hq => ?_, ?_, ?_⟩, ?_, ?_, ?_, te⟩
  · rcases List.mem_append.mp hq with hq | hq
    · exact t q (List.mem_append_left _ hq)
    · have hm := List.mem_reverse.mp hq
      refine ⟨tmAll_mem (parts_tm te) (push3_mem hm), ?_⟩
      have n1 : nodes q.2.1 ≤ nodesAll (partsD e) := mem_nodes (push3_mem hm)
      have l1 : q.1.length = p.length + 1 := push3_plen hm
      omega
  · rw [eq, List.reverse_append, List.reverse_append, List.reverse_reverse, List.flatMap_append, List.flatMap_append, ← wkL_push]
    show f ++ ((wk e p u ++ []) ++ _) = _
    rw [List.append_nil, wk_eq te, List.append_assoc]
    rfl
  · show (f ++ [(p, e, u)]).length + load3 (qs ++ (push3 (partsD e) (wdD e) p u 0).reverse) ≤ nodes d
    rw [ll, List.length_append, List.length_singleton]
    omega
  · show load3 (qs ++ (push3 (partsD e) (wdD e) p u 0).reverse) < _
    rw [ll, lq]
    omega
  · show f.length + qs.length + (partsD e).length ≤ nodes d
    omega
  · show p.length + (partsD e).length ≤ nodes d
    omega
theorem Wking.fin {d : PyData} {f : List Row3} (h : Wking d f []) : wk d [] 0 = f := by
  have := h.eq
  rw [show (([] : List Row3).reverse.flatMap fun q => wk q.2.1 q.1 q.2.2) = [] from rfl, List.append_nil] at this
  exact this
def rowS (r : Row3) : PyData := spotT r.1
def rowI (r : Row3) : PyData := .tuple [r.2.1, .int r.2.2]
def itemS (r : Row3) : PyData := .tuple [r.2.1, spotT r.1]
theorem spot_snoc (p : List Nat) (i : Nat) : spotT (p ++ [i]) = .tuple (p.map (fun i : Nat => PyData.int (i : Int)) ++ [.int (i : Int)]) := by
  unfold spotT
  rw [List.map_append]
  rfl
def tAllSpots : List Sl → (Rv → Prop) → Prop := fun as Kr => ∃ d, as = [.d d] ∧ tm d = true ∧ nodes d ≤ 1000000 ∧ Kr (.l ((wk d [] 0).map rowS))
def tInner : List Sl → (Rv → Prop) → Prop := fun as Kr => ∃ d, as = [.d d] ∧ tm d = true ∧ nodes d ≤ 1000000 ∧ Kr (.l ((wk d [] 0).map rowI))
theorem small {n : Nat} (h : n ≤ 1000000) : n < sizeLine := Nat.lt_of_le_of_lt h (by rw [sizeLine_eq]; decide)
theorem ok_inner {f : Addr} {fd : FuncData} (F : Fun K "inner_terms" "inner_terms" sInnerTerms f fd) (T : Txt K w mg) (Trev : mg "reversed" = none) (C_parts_of : C8.Cal P w K mg base 1 "parts_of" (spD 1 tPartsOf) []) (C_passed : C8.Cal P w K mg base 1 "passed" (spD 2 tPassed) []) : FnOk P w K mg base CX0 2 f fd ["term"] (spD 1 tInner) := by
  refine fn_d F scInnerTerms (body := fun cdv A outer s H E hr => ⟨_, (pss_cons (ps_set (i := 1) scInnerTerms.nd rfl (Or.inl rfl) (pe_lst pa_nil))
      (pss_cons (ps_set (i := 2) scInnerTerms.nd rfl (Or.inl rfl) (pe_lst (pa_cons (pe_tup (pa_cons (pv 0) (pa_cons pe_int pa_nil))) pa_nil)))
      (pss_cons (ps_while PassesOwn.never (pt_truth (pv 2) (by intro _; rfl)) (pss_cons (ps_asg (pe_bm0 PySem.F.plainAttrs_list PySem.F.slot_list_pop PySem.F.type_list_pop mt_pop (pv 2)) (pg_tup rfl (pgs_cons (pg_name (i := 3) scInnerTerms.nd rfl (Or.inl rfl)) (pgs_cons (pg_name (i := 4) scInnerTerms.nd rfl (Or.inl rfl)) pgs_nil))))
      (pss_cons (ps_expr (pe_bm PySem.F.plainAttrs_list PySem.F.slot_list_append PySem.F.type_list_append mt_append (pv 1) (pa_cons (pe_tup (pa_cons (pv 3) (pa_cons (pv 4) pa_nil))) pa_nil)))
      (pss_cons (ps_set (i := 5) scInnerTerms.nd rfl (Or.inl rfl) (C8.pe_c C_parts_of hr (by omega) rfl (pa_cons (pv 3) pa_nil)))
      (pss_one (ps_for PassesOwn.never rfl (pi_revR (by rfl) Trev (prg_1 (by rfl) T.range (pe_callB call_len_seq (by rfl) T.len PySem.boot_len (pa_cons (pv 5) pa_nil)))) (pg_name (i := 6) scInnerTerms.nd rfl (Or.inl rfl)) (pss_one (ps_expr (pe_bm PySem.F.plainAttrs_list PySem.F.slot_list_append PySem.F.type_list_append mt_append (pv 2) (pa_cons (pe_tup (pa_cons (pe_ix ix_tup (pv 5) (pv 6) (fun _ _ => rfl)) (pa_cons (pe_op op_add (pv 4) (C8.pe_c C_passed hr (by omega) rfl (pa_cons (pe_ix ix_tup (pv 3) pe_int (fun _ _ => rfl)) (pa_cons (pv 6) pa_nil)))) pa_nil))) pa_nil))))))))))
      (pss_one (ps_ret (pv 1)))))), ?_⟩)
  rintro as Kr _ ⟨d, rfl, td, nd, k⟩
  refine sm_seq (sm_setL (el_lst eds_nil) (sm_seq (sm_setL (el_lst (eds_cons (ev_tup (eds_cons (ev_var rfl) (eds_cons ev_int eds_nil))) eds_nil)) (sm_seq (sm_while
    (fun m ρ => ∃ (f ps : List Row3) (s3 s4 s5 s6 : Sl), ρ = [.d d, .l (f.map rowI), .l (ps.map rowI), s3, s4, s5, s6] ∧ Wking d f ps ∧ m = load3 ps)
    ⟨_, [], [([], d, 0)], _, _, _, _, rfl, Wking.start td, rfl⟩ ?_)))))
  rintro m ρ ⟨f, ps, s3, s4, s5, s6, rfl, wk0, rfl⟩
  refine ⟨_, _, et_truO rfl, fun h => ?_, fun h => ?_⟩
  · obtain ⟨qs, q, rfl⟩ : ∃ qs q, ps = qs ++ [q] := by
      rcases List.eq_nil_or_concat ps with rfl | ⟨qs, q, rfl⟩
      · cases h
      · exact ⟨qs, q, by simp⟩
    obtain ⟨w1, dec, l1, l2, te⟩ := wk0.step
    obtain ⟨p, e, u⟩ := q
    have te : tm e = true := te
    have l1 : f.length + qs.length + (partsD e).length ≤ nodes d := l1
    rw [List.map_append]
    obtain ⟨wd, ds, rfl⟩ := tm_shape te
    have ew : wdD (.tuple (.str wd :: ds)) = wd := rfl
    rw [ew] at w1 dec
    generalize eps : partsD (.tuple (.str wd :: ds)) = es at *
    refine sm_seq (sm_asg (ev_pop (xs := qs.map rowI) (x := rowI (p, PyData.tuple (.str wd :: ds), u)) rfl) (tg_tup (xs := [.tuple (.str wd :: ds), .int u]) (tgs_cons tg_name (tgs_cons tg_name tgs_nil)))
      (sm_seq (sm_app rfl (ev_tup (eds_cons (ev_var rfl) (eds_cons (ev_var rfl) eds_nil))) rfl ?_ (sm_seq (sm_set (ev_call (x := .tuple es) (es_cons (ev_var rfl) es_nil) ar_nil rfl ⟨wd, ds, rfl, by rw [eps]⟩)
        (sm_for (fi_revR (ev_fn (es_cons (ev_var rfl) es_nil) fv_lenT) ?_) (fun j ρ => ∃ s6, ρ = [.d d, .l ((f ++ [(p, PyData.tuple (.str wd :: ds), u)]).map rowI), .l ((qs ++ (push3 es wd p u 0).reverse.take j).map rowI), .d (.tuple (.str wd :: ds)), .d (.int u), .d (.tuple es), s6]) ⟨s6, ?_⟩ (fun j x ρ ex r => ?_) fun ρ r => ?_))))))
    · rw [List.length_map]
      exact small (by omega)
    · constructor <;> omega
    · rw [List.take_zero, List.append_nil, List.map_append]
      rfl
    · obtain ⟨s6, rfl⟩ := r
      have lt : j < es.length := by
        have := (List.getElem?_eq_some_iff.mp ex).1
        rw [List.length_reverse, rngD_len, Int.toNat_natCast] at this
        exact this
      rw [List.getElem?_reverse (by rw [rngD_len, Int.toNat_natCast]; exact lt), rngD_len, Int.toNat_natCast] at ex
      obtain ⟨_, rfl⟩ := rngD_at ex
      have hk := List.getElem?_eq_getElem (show es.length - 1 - j < es.length by omega)
      refine ⟨_, tg_name, sm_app rfl (ev_tup (eds_cons (ev_op (ev_var rfl) (ev_var rfl) (fv_ixT (at_nat hk))) (eds_cons (ev_op (ev_var rfl) (ev_call (es_cons (ev_op (ev_var rfl) ev_int (fv_ixT at0)) (es_cons (ev_var rfl) es_nil)) ar_nil rfl ⟨_, _, rfl, rfl⟩) fv_int) eds_nil))) rfl ?_ ?_⟩
      · rw [List.length_map, List.length_append]
        have : ((push3 es wd p u 0).reverse.take j).length ≤ es.length := by
          rw [List.length_take, List.length_reverse, push3_len]
          omega
        exact small (by omega)
      · refine ⟨.d (.int ((es.length - 1 - j : Nat) : Int)), ?_⟩
        have hp : (push3 es wd p u 0).reverse[j]? = some (p ++ [0 + (es.length - 1 - j)], es[es.length - 1 - j], u + passD wd ((0 + (es.length - 1 - j) : Nat) : Int)) := by
          rw [List.getElem?_reverse (by rw [push3_len]; exact lt), push3_len]
          exact push3_at hk
        rw [take_snoc hp, ← List.append_assoc, List.map_append (l₁ := qs ++ _), Nat.zero_add]
        rfl
    · obtain ⟨s6, rfl⟩ := r
      have full : (rngD (es.length : Int).toNat).reverse.length = es.length := by rw [List.length_reverse, rngD_len, Int.toNat_natCast]
      rw [full]
      have tk : (push3 es wd p u 0).reverse.take es.length = (push3 es wd p u 0).reverse := List.take_of_length_le (by rw [List.length_reverse, push3_len]; exact Nat.le_refl _)
      rw [tk]
      refine ⟨_, dec, _, _, _, _, _, _, rfl, ?_, rfl⟩
      exact w1
  · have e0 : ps = [] := by cases ps with | nil => rfl | cons _ _ => cases h
    subst e0
    refine sm_retL (el_var rfl) ?_
    rw [wk0.fin] at k
    exact k
end
end KP
set_option Elab.async false
set_option linter.unusedVariables false
set_option linter.unusedSectionVars false
set_option maxRecDepth 100000
set_option maxHeartbeats 2000000
namespace OW
open PySem PySem.Spec PyProof.Rows L2 KA NdefX LamX
variable [Tbs]
/-! ### a def that makes a def: its code object is known -/
structure FunC (K : PySem.W.Frag) (x qual : Str) (st : Stmt) (f : Addr) (fd : FuncData) (c : Addr) : Prop where
  ex : ∃ (oc : Value) (od : Option Addr) (kV doc pm : Value) (an : Option Addr) (ct : Value) (osl : Array (Option Value)),
    fd = PySem.W.fnOf x qual (defArgs st) (defBody st) (defScope st) .none kV doc pm an (.ref c) ct ∧ K.lookup f = some ⟨oc, od, .func fd, osl⟩ ∧ PySem.W.codeIn K (.ref c) qual = true
  kp : PySem.W.keepIn K (.ref f) = true
theorem FunC.fn {K : PySem.W.Frag} {x qual : Str} {st : Stmt} {f : Addr} {fd : FuncData} {c : Addr} (F : FunC K x qual st f fd c) : Fun K x qual st f fd := by
  obtain ⟨oc, od, kV, doc, pm, an, ct, osl, e, l, q⟩ := F.ex
  exact ⟨⟨oc, od, kV, doc, pm, an, _, ct, osl, e, l, q⟩, F.kp⟩
/-- its table -/
structure Tabd (base : Heap) (mg : Str → Option Value) (c P : Addr) (q : Str) : Prop where
  tb : TabB base mg c P
  mem : (P, fun _ _ => q) ∈ Tbs.T
  one : ∀ p ∈ Tbs.T, p.1 = P → p.2 = fun _ _ => q
section
variable {P : Program} {w : World} {K : PySem.W.Frag} {mg : Str → Option Value} {base : Heap}
theorem fn_dC {x qual : Str} {st : Stmt} {f c : Addr} {fd : FuncData} {N ps : List Str} {k n : Nat} {T : List Sl → (Rv → Prop) → Prop} (F : FunC K x qual st f fd c) (S : FnScope N ps (defScope st)) (hn : ps.length = n := by rfl) (hN : n + N.length < fl := by decide)
    (body : ∀ (A : Around) (outer : List Env) (s : Shared) (H : Hp) (E : XK), Room k (A.deeper (envOfC qual (defScope st) s.heap.objs.size f (.ref c))) →
      ∃ t, PSs (cxOf CX0 P w K mg base N qual (defScope st) f (.ref c) A outer s H E).nox (defBody st) t ∧ ∀ as Kr, as.length = n → T as Kr → Sm t (as ++ uns (N.length - n)) { nx := fun _ => Kr (.d .none), rt := fun r _ => Kr r }) :
    FnOk P w K mg base CX0 (k + 1) f fd ps (spD n T) := by
  obtain ⟨oc, od, kV, doc, pm, an, ct, osl, rfl, lk, hcd⟩ := F.ex
  refine fn_of lk hcd S (fun vs H Q E h => ?_) fun A outer s H vs Q E hr h => ?_
  · obtain ⟨Z, as, Kr, hZ, ha, hl, _⟩ := h
    rw [ha.length, hl, hn]
  · obtain ⟨Z, as, Kr, hZ, ha, hl, hT, go⟩ := h
    obtain ⟨t, ht, hb⟩ := body A outer s H E hr
    refine ⟨t, ht.nox, hb as Kr hl hT ⟨Z, none, H, hz Z H⟩ _ _ H _ (rp_start hN hZ ha hl) rfl ?_⟩
    refine ⟨fun ρ' A' σ' H' hk R f => go _ _ _ hk (rp_aft R) .non, fun r ρ' v A' σ' H' hk R o => go r v H' hk (rp_aft R) ?_, fun _ _ _ _ h => h.elim, fun _ _ _ _ h => h.elim⟩
    exact rv_out (fun b o e nz _ => R.old _ _ (hz_mk nz e)) (fun b z => Or.inl z) R.inj R.off R.bor o
structure CalS (P : Program) (w : World) (K : PySem.W.Frag) (mg : Str → Option Value) (base : Heap) (k : Nat) (x : Str) (n : Nat) (T : NF → List Str → List V → List Sl → (Rv → Prop) → Prop) : Prop where
  ex : ∃ (f : Addr) (fd : FuncData) (ps : List Str), FnOkS P w K mg base k f fd ps (spHand n T) ∧ mg x = some (.ref f) ∧ PySem.W.keepIn K (.ref f) = true ∧ Binds K fd ps []
end
section
variable {X : Cx}
theorem ps_nd {st : Stmt} {q : Str} {c P : Addr} {name : Str} {pos : Pos} {i : Nat} (D : Tabd X.base X.mg c P q) (hst : st = .FunctionDef name (C8.fnArgs st) (C8.fnBody st) [] none [] (C8.fnScope st) none name pos) (hc : X.env.code = .ref c) (hn : q = X.env.qual ++ name)
    (hcap : ∀ y ∈ (C8.fnScope st).names, y.2 = .free → X.env.scope.names.lookup y.1 = some .cell ∨ X.env.scope.names.lookup y.1 = some .free) (hd0 : (C8.fnArgs st).defaults = []) (hk0 : (C8.fnArgs st).kw_defaults = []) (han : annTrees (C8.fnArgs st) none X.env = [])
    (nd : X.N.Nodup) (hi : X.N[i]? = some name) (lo : Loc X.env.scope name) (hf : X.fn name = true ∨ X.env.scope.names.lookup name = some .local) :
    PS X st (tNdefT i (NF.of st name (X.env.qual ++ name) (cloFrom X.env.cells (C8.fnScope st).names []))) := ps_ndefT hst D.tb hc D.mem D.one hn hcap hd0 hk0 han nd hi lo hf
theorem pe_hs {k j n : Nat} {fr : List Str} {js : List Nat} {cl : List (Str × Addr)} {T : NF → List Str → List V → List Sl → (Rv → Prop) → Prop} {x : Str} {e : Expr} {es : List Expr} {t : TA} {p pos : Pos} (c : CalS X.prog X.w X.K X.mg X.base k x n T) (cp : X.Ok → Caps X cl fr js) (hfn : ∀ y, X.fn y = true) (hr : Room j X.A) (hkj : k ≤ j) (hg : Gl X x)
    (ha : PA X (e :: es) t) (hdb : (x == ("__debug__" : Str)) = false := by decide) (he : starEach (e :: es) X.env = (false, eval e X.env) :: starEach es X.env := by rfl) (hpl : (backTo pos (starEach es X.env)).any (·.1) = false := by rfl) :
    PE X (.Call (.Name x p) (e :: es) [] pos) (tHand n cl fr js T t) := by
  obtain ⟨f, fd, ps, Fn, hm, hk, hb⟩ := c.ex
  exact pe_hand Fn cp hfn hr hkj hg hm hk hb ha hdb he hpl
end
end OW
set_option Elab.async false
set_option linter.unusedVariables false
set_option maxRecDepth 100000
set_option maxHeartbeats 1000000
/-! A try with several handlers of which the first one, with a name, takes whatever comes. -/
namespace KA
open PySem PySem.Spec PyProof.Rows L2
/-- the wish of the body: what comes is of the first handler's class -/
def wFirst (K : PySem.W.Frag) (c : Value) (i : Nat) (ts : Addr → Value → Option Addr → TS) (D : Ends) : WX := fun cls d σ H =>
  PySem.W.exmOne K cls c = some true ∧ ∀ a, H a = none → ts a cls d { nx := fun ρ G => D.nx (ρ.set i none) G, rt := D.rt, bk := fun ρ G => D.bk (ρ.set i none) G, ct := fun ρ G => D.ct (ρ.set i none) G } (σ.set i (some (.ref a))) H
section
variable {X : Cx} {x n : Str} {c : Value} {i : Nat} {body su : List Stmt} {b1 : Stmt} {np pos p3 : Pos} {more : List ExceptHandler} {tb : WX → TS} {ts : Addr → Value → Option Addr → TS}
theorem ps_try_first (stk : X.stack = X.env :: X.outer) (frm : X.env.frame = some X.env.locals) (nd : X.N.Nodup) (at_ : X.N[i]? = some n) (loc : X.env.kindOf n = some .local) (nm : Names X x c)
    (hb : ∀ (W : WX) (pn : List (Addr × Obj)) (xe : Value → Shared → Prop), Takes (X.tr pn xe) W → PassesOwn (model X.prog X.w) X.A X.env xe → PSs (X.tr pn xe) body (tb W))
    (hs : ∀ (a : Addr) (oe : Obj) (cls : Value) (d : Option Addr) (pn : List (Addr × Obj)), Zc cls d oe → (∃ vs, oe.data = .fields vs) → PSs (X.suite a ((a, oe) :: pn)) (b1 :: su) (ts a cls d)) :
    PS X (.Try body (.ExceptHandler (some (.Name x np)) (some n) (b1 :: su) p3 :: more) [] [] pos) (fun D σ H => tb (wFirst X.K c i ts D) D σ H) := by
  refine ⟨fun pins s0 σ0 H0 D I0 want => ?_⟩
  have okX := I0.ok
  have frames : X.A.frames = some (X.env :: X.outer) := by rw [okX.frames, stk]
  have here : Loc X.env.scope n := .inl loc
  refine wpAny_Try_except ?_
  refine wpAny_mono ((hb (wFirst X.K c i ts D) (X.pn ++ pins) (fun u t1 => wpAny (model X.prog X.w) X.A (noteFrame u X.env) (fun _ t2 => wpAny (model X.prog X.w) X.A (setFlight u none) (fun _ t3 =>
    wpAny (model X.prog X.w) X.A (handleBy u X.env (.ExceptHandler (some (.Name x np)) (some n) (b1 :: su) p3 :: more)) (SP X pins D) X.xe t3) X.xe t2) X.xe t1) (fun u t0 inAir => ?_) PassesOwn.looking).run [] s0 σ0 H0 D (I0.toTry _) want) (fun fl t1 ends => ?_) (fun u t1 z => z)
  · obtain ⟨a, B, sB, pinsB, σ1, H1, cls, d, rfl, JB, newB, up0, air, freeA, osE, bareG, isC, suite⟩ := inAir
    have J0 : Inv X pins σ1 H1 sB := JB.ofTry okX
    have air' : Sky B (X.env :: X.outer) a (Zc cls d) X.env.locals t0.heap := by rw [← stk]; exact air
    show wpAny (model X.prog X.w) X.A (noteFrame (.ref a) X.env) _ _ _
    refine Sky.land Zc.steady frames frm air' fun hA flA upA => ?_
    have JA : Inv X pins σ1 H1 { t0 with heap := hA } := J0.landed newB flA.1 (up0.trans upA) osE bareG
    obtain ⟨oA, vA, getA, zcA, datA⟩ := flA.there
    have offF : a ∉ frs (X.env :: X.outer) := fun mem => by
      obtain ⟨_, o1, get1, notF⟩ := flA.2.2.1.mem mem
      rw [getA] at get1
      cases get1
      exact notF _ datA
    have offL : a ≠ X.env.locals := fun z => offF (List.mem_filterMap.mpr ⟨X.env, List.mem_cons_self, by rw [frm, z]⟩)
    have offS : a ∉ X.fs := fun mem => by
      obtain ⟨en, hen, q⟩ := List.mem_filterMap.mp mem
      exact offF (List.mem_filterMap.mpr ⟨en, List.mem_cons_of_mem _ hen, q⟩)
    have SA := JA.suite getA datA freeA offL offS
    refine wpAny_handleBy_cons (codeAny_handlers_test ?_) (by intro q; cases q)
    have lookT : PySem.W.Looks (model X.prog X.w) hA (typeOf (.ref a)) cls := fun _ _ _ t keep q => wpAny_typeOf_ref (keep _ _ getA) (by rw [zcA.1]; exact q)
    have lookM := PySem.W.exm_one (M := model X.prog X.w) JA.kIn lookT isC
    have name : ∀ {Q E : Value → Shared → Prop}, Q c { t0 with heap := hA } → wpAny (model X.prog X.w) (X.A.mark (some (.ref a))) (eval (.Name x np) X.env) Q E { t0 with heap := hA } := fun {Q E} q => by
      obtain ⟨gl, dbg, own | ⟨none_, blt, nn⟩⟩ := nm
      · exact ld_glob (X := X.suite a ((a, oA) :: (X.pn ++ pins))) SA gl own q dbg
      · exact ld_blt (X := X.suite a ((a, oA) :: (X.pn ++ pins))) SA gl none_ blt q nn dbg
    refine name (lookM.here ?_)
    refine codeAny_handlers_suite_as ?_
    refine HandSPX.lands_againZ flA fun hC flC upC => ?_
    have JC : Inv X pins σ1 H1 { t0 with heap := hC } := J0.landed newB flC.1 ((up0.trans upA).trans upC) osE bareG
    obtain ⟨oC, vC, getC, zcC, datC⟩ := flC.there
    have SC := JC.suite getC datC freeA offL offS
    refine store_ok (X := X.suite a ((a, oC) :: (X.pn ++ pins))) (v := .ref a) SC nd at_ here rfl (fun t5 S5 => ?_) (.inr loc)
    refine wpAny_mono ((hs a oC cls d (X.pn ++ pins) zcC ⟨_, datC⟩).run [] t5 _ H1 _ S5 (suite a freeA)) (fun fl t6 ends => ?_) (fun _ _ z => False.elim z)
    have gone : ∀ {ρ : L2.St} {G : Hp} {Q : Shared → Prop}, Inv (X.suite a ((a, oC) :: (X.pn ++ pins))) [] ρ G t6 → (∀ t7, Inv X pins (ρ.set i none) G t7 → Q t7) →
        wpAny (model X.prog X.w) X.A (do bindName X.env n .none; unbindBehindTheSuite X.env n p3) (fun _ t7 => Q t7) X.xe t6 := fun {ρ G Q} S6 q => gone_ok (S6.unsuite okX) nd at_ loc q
    cases fl with
    | next =>
      obtain ⟨ρ, G, S6, q⟩ := ends
      exact gone S6 fun t7 J7 => ⟨_, _, J7, q⟩
    | brk =>
      obtain ⟨ρ, G, S6, q⟩ := ends
      exact gone S6 fun t7 J7 => ⟨_, _, J7, q⟩
    | cont =>
      obtain ⟨ρ, G, S6, q⟩ := ends
      exact gone S6 fun t7 J7 => ⟨_, _, J7, q⟩
    | ret u =>
      obtain ⟨v, ρ, G, S6, rv, q⟩ := ends
      exact gone S6 fun t7 J7 => ⟨_, _, _, J7, rv, q⟩
  · cases fl with
    | next =>
      obtain ⟨ρ, G, J, q⟩ := ends
      exact wpAny_execs_nil ⟨ρ, G, J.ofTry okX, q⟩
    | brk =>
      obtain ⟨ρ, G, J, q⟩ := ends
      exact ⟨ρ, G, J.ofTry okX, q⟩
    | cont =>
      obtain ⟨ρ, G, J, q⟩ := ends
      exact ⟨ρ, G, J.ofTry okX, q⟩
    | ret u =>
      obtain ⟨v, ρ, G, J, rv, q⟩ := ends
      exact ⟨v, ρ, G, J.ofTry okX, rv, q⟩
end
end KA
set_option Elab.async false
set_option linter.unusedVariables false
set_option maxRecDepth 100000
set_option maxHeartbeats 1000000
/-! A try with several handlers that have names; of those behind them nothing is said. -/
namespace KA
open PySem PySem.Spec PyProof.Rows L2
def asEnds (i : Nat) (D : Ends) : Ends := { nx := fun ρ G => D.nx (ρ.set i none) G, rt := D.rt, bk := fun ρ G => D.bk (ρ.set i none) G, ct := fun ρ G => D.ct (ρ.set i none) G }
def wAs (K : PySem.W.Frag) (D : Ends) : List (Value × Nat × (Addr → Value → Option Addr → TS)) → WX
  | [] => fun _ _ _ _ => False
  | (c, i, ts) :: r => fun cls d σ H => ∃ b, PySem.W.exmOne K cls c = some b ∧ (b = true → ∀ a, H a = none → ts a cls d (asEnds i D) (σ.set i (some (.ref a))) H) ∧ (b = false → wAs K D r cls d σ H)
def tTryAs (K : PySem.W.Frag) (l : List (Value × Nat × (Addr → Value → Option Addr → TS))) (tb : WX → TS) : TS := fun D σ H => tb (wAs K D l) D σ H
inductive HdsA (X : Cx) : List ExceptHandler → List (Value × Nat × (Addr → Value → Option Addr → TS)) → Prop
  | rest {hds : List ExceptHandler} : HdsA X hds []
  | cons {x n : Str} {c : Value} {i : Nat} {ts : Addr → Value → Option Addr → TS} {b1 : Stmt} {su : List Stmt} {np p3 : Pos} {hds : List ExceptHandler} {l : List (Value × Nat × (Addr → Value → Option Addr → TS))}
      (nm : Names X x c) (at_ : X.N[i]? = some n) (loc : X.env.kindOf n = some .local)
      (hs : ∀ (a : Addr) (oe : Obj) (cls : Value) (d : Option Addr) (pn : List (Addr × Obj)), Zc cls d oe → (∃ vs, oe.data = .fields vs) → PSs (X.suite a ((a, oe) :: pn)) (b1 :: su) (ts a cls d)) (r : HdsA X hds l) :
      HdsA X (.ExceptHandler (some (.Name x np)) (some n) (b1 :: su) p3 :: hds) ((c, i, ts) :: l)
section
variable {X : Cx} {body : List Stmt} {h0 : ExceptHandler} {hds : List ExceptHandler} {l : List (Value × Nat × (Addr → Value → Option Addr → TS))} {pos : Pos} {tb : WX → TS}
theorem ps_try_as (stk : X.stack = X.env :: X.outer) (frm : X.env.frame = some X.env.locals) (nd : X.N.Nodup)
    (hb : ∀ (W : WX) (pn : List (Addr × Obj)) (xe : Value → Shared → Prop), Takes (X.tr pn xe) W → PassesOwn (model X.prog X.w) X.A X.env xe → PSs (X.tr pn xe) body (tb W))
    (hh : HdsA X (h0 :: hds) l) : PS X (.Try body (h0 :: hds) [] [] pos) (tTryAs X.K l tb) := by
  refine ⟨fun pins s0 σ0 H0 D I0 want => ?_⟩
  have okX := I0.ok
  have frames : X.A.frames = some (X.env :: X.outer) := by rw [okX.frames, stk]
  refine wpAny_Try_except ?_
  refine wpAny_mono ((hb (wAs X.K D l) (X.pn ++ pins) (fun u t1 => wpAny (model X.prog X.w) X.A (noteFrame u X.env) (fun _ t2 => wpAny (model X.prog X.w) X.A (setFlight u none) (fun _ t3 =>
    wpAny (model X.prog X.w) X.A (handleBy u X.env (h0 :: hds)) (SP X pins D) X.xe t3) X.xe t2) X.xe t1) (fun u t0 inAir => ?_) PassesOwn.looking).run [] s0 σ0 H0 D (I0.toTry _) want) (fun fl t1 ends => ?_) (fun u t1 z => z)
  · obtain ⟨a, B, sB, pinsB, σ1, H1, cls, d, rfl, JB, newB, up0, air, freeA, osE, bareG, w⟩ := inAir
    have J0 : Inv X pins σ1 H1 sB := JB.ofTry okX
    have air' : Sky B (X.env :: X.outer) a (Zc cls d) X.env.locals t0.heap := by rw [← stk]; exact air
    show wpAny (model X.prog X.w) X.A (noteFrame (.ref a) X.env) _ _ _
    refine Sky.land Zc.steady frames frm air' fun hA flA upA => ?_
    have JA : Inv X pins σ1 H1 { t0 with heap := hA } := J0.landed newB flA.1 (up0.trans upA) osE bareG
    obtain ⟨oA, vA, getA, zcA, datA⟩ := flA.there
    have offF : a ∉ frs (X.env :: X.outer) := fun mem => by
      obtain ⟨_, o1, get1, notF⟩ := flA.2.2.1.mem mem
      rw [getA] at get1
      cases get1
      exact notF _ datA
    have offL : a ≠ X.env.locals := fun z => offF (List.mem_filterMap.mpr ⟨X.env, List.mem_cons_self, by rw [frm, z]⟩)
    have offS : a ∉ X.fs := fun mem => by
      obtain ⟨en, hen, q⟩ := List.mem_filterMap.mp mem
      exact offF (List.mem_filterMap.mpr ⟨en, List.mem_cons_of_mem _ hen, q⟩)
    have SA := JA.suite getA datA freeA offL offS
    have go : ∀ {hds' : List ExceptHandler} {l' : List (Value × Nat × (Addr → Value → Option Addr → TS))}, HdsA X hds' l' → wAs X.K D l' cls d σ1 H1 →
        wpAny (model X.prog X.w) X.A (handleBy (.ref a) X.env hds') (SP X pins D) X.xe { t0 with heap := hA } := by
      intro hds' l' hk
      induction hk with
      | rest =>
        intro w
        exact False.elim w
      | @cons x n c i ts b1 su np p3 hds2 l2 nm at_ loc hs r ih =>
        intro w
        obtain ⟨b, hb1, hyes, hno⟩ := w
        have here : Loc X.env.scope n := .inl loc
        refine wpAny_handleBy_cons (codeAny_handlers_test ?_) (by intro q; cases q)
        have lookT : PySem.W.Looks (model X.prog X.w) hA (typeOf (.ref a)) cls := fun _ _ _ t keep q => wpAny_typeOf_ref (keep _ _ getA) (by rw [zcA.1]; exact q)
        have lookM := PySem.W.exm_one (M := model X.prog X.w) JA.kIn lookT hb1
        have name : ∀ {Q E : Value → Shared → Prop}, Q c { t0 with heap := hA } → wpAny (model X.prog X.w) (X.A.mark (some (.ref a))) (eval (.Name x np) X.env) Q E { t0 with heap := hA } := fun {Q E} q => by
          obtain ⟨gl, dbg, own | ⟨none_, blt, nn⟩⟩ := nm
          · exact ld_glob (X := X.suite a ((a, oA) :: (X.pn ++ pins))) SA gl own q dbg
          · exact ld_blt (X := X.suite a ((a, oA) :: (X.pn ++ pins))) SA gl none_ blt q nn dbg
        refine name (lookM.here ?_)
        cases b with
        | false =>
          show wpAny _ X.A (handleBy (.ref a) X.env hds2) _ _ _
          exact ih (hno rfl)
        | true =>
          refine codeAny_handlers_suite_as ?_
          refine HandSPX.lands_againZ flA fun hC flC upC => ?_
          have JC : Inv X pins σ1 H1 { t0 with heap := hC } := J0.landed newB flC.1 ((up0.trans upA).trans upC) osE bareG
          obtain ⟨oC, vC, getC, zcC, datC⟩ := flC.there
          have SC := JC.suite getC datC freeA offL offS
          refine store_ok (X := X.suite a ((a, oC) :: (X.pn ++ pins))) (v := .ref a) SC nd at_ here rfl (fun t5 S5 => ?_) (.inr loc)
          refine wpAny_mono ((hs a oC cls d (X.pn ++ pins) zcC ⟨_, datC⟩).run [] t5 _ H1 _ S5 (hyes rfl a freeA)) (fun fl t6 ends => ?_) (fun _ _ z => False.elim z)
          have gone : ∀ {ρ : L2.St} {G : Hp} {Q : Shared → Prop}, Inv (X.suite a ((a, oC) :: (X.pn ++ pins))) [] ρ G t6 → (∀ t7, Inv X pins (ρ.set i none) G t7 → Q t7) →
              wpAny (model X.prog X.w) X.A (do bindName X.env n .none; unbindBehindTheSuite X.env n p3) (fun _ t7 => Q t7) X.xe t6 := fun {ρ G Q} S6 q => gone_ok (S6.unsuite okX) nd at_ loc q
          cases fl with
          | next =>
            obtain ⟨ρ, G, S6, q⟩ := ends
            exact gone S6 fun t7 J7 => ⟨_, _, J7, q⟩
          | brk =>
            obtain ⟨ρ, G, S6, q⟩ := ends
            exact gone S6 fun t7 J7 => ⟨_, _, J7, q⟩
          | cont =>
            obtain ⟨ρ, G, S6, q⟩ := ends
            exact gone S6 fun t7 J7 => ⟨_, _, J7, q⟩
          | ret u =>
            obtain ⟨v, ρ, G, S6, rv, q⟩ := ends
            exact gone S6 fun t7 J7 => ⟨_, _, _, J7, rv, q⟩
    exact go hh w
  · cases fl with
    | next =>
      obtain ⟨ρ, G, J, q⟩ := ends
      exact wpAny_execs_nil ⟨ρ, G, J.ofTry okX, q⟩
    | brk =>
      obtain ⟨ρ, G, J, q⟩ := ends
      exact ⟨ρ, G, J.ofTry okX, q⟩
    | cont =>
      obtain ⟨ρ, G, J, q⟩ := ends
      exact ⟨ρ, G, J.ofTry okX, q⟩
    | ret u =>
      obtain ⟨v, ρ, G, J, rv, q⟩ := ends
      exact ⟨v, ρ, G, J.ofTry okX, rv, q⟩
end
end KA
set_option Elab.async false
set_option linter.unusedVariables false
set_option linter.unusedSectionVars false
set_option maxRecDepth 100000
set_option maxHeartbeats 1000000
namespace OW
open PySem PySem.Spec PyProof.Rows L2 KA
variable [Tbs]
/-! ### refusals -/
def Re (W : WX) (te : TE) (ρ : List Sl) (C : Addr) (s : Sl) (ρ' : List Sl) : Prop := ∀ (c : Fr) (A : Am) (σ : L2.St) (H : Hp) (Q : VK), Rp c A ρ σ H → A fl = none →
  (∀ d v A' H', Rp c A' ρ' σ H' → A' fl = none → vw c.Z A' H' d = some (.xd [("found", v)]) → ArOk (vw c.Z A' H') v s → W (.ref C) (some d) σ H') → te σ H Q
def Rs (W : WX) (t : TS) (ρ : List Sl) (C : Addr) (s : Sl) (ρ' : List Sl) : Prop := ∀ (c : Fr) (A : Am) (σ : L2.St) (H : Hp) (D : Ends), Rp c A ρ σ H → A fl = none →
  (∀ d v A' σ' H', Rp c A' ρ' σ' H' → A' fl = none → vw c.Z A' H' d = some (.xd [("found", v)]) → ArOk (vw c.Z A' H') v s → W (.ref C) (some d) σ' H') → t D σ H
def spX (n : Nat) (T : List Sl → (Rv → Prop) → (Addr → Sl → Prop) → Prop) : Sp := fun vs H Q E => ∃ (Z : Addr → Prop) (as : List Sl) (K : Rv → Prop) (X : Addr → Sl → Prop), ZOk Z H ∧ ArAll (hz Z H) vs as ∧ as.length = n ∧ T as K X ∧
  (∀ r v H', K r → Aft Z H H' → RvOk Z H H' v r → Q v H') ∧ ∀ C s d v H', X C s → Aft Z H H' → hz Z H' d = some (.xd [("found", v)]) → ArOk (hz Z H') v s → E (.ref C) (some d) H'
section
variable {ρ ρ' ρ1 ρ2 : List Sl} {te ta tb : TE} {s s' : Sl} {x y : PyData} {i : Nat} {tr : TA} {xs : List PyData} {ss : List Sl} {t u : TS} {K : KK} {g : TG} {W : WX} {C : Addr} {E : L2.St → XK} {n : Nat} {T : List Sl → (Rv → Prop) → (Addr → Sl → Prop) → Prop} {KF : PySem.W.Frag}
theorem ev_callX (h : Es tr ρ ss ρ') (hn : ss.length = n) (g : T ss (fun r => r = .d x) fun _ _ => False) : Ev (tCallS (spX n T) E tr) ρ (.d x) ρ' := fun c A σ H Q R f q =>
  h c A σ H _ R f fun vs A1 H1 R1 f1 S1 o1 => by
    refine ⟨zz c.Z A1, ss, _, _, zz_ok R1, by rw [hz_eq]; exact o1, hn, g, fun r v H' hr S o => ?_, fun _ _ _ _ _ z => z.elim⟩
    subst hr
    have o : Dn (hz (zz c.Z A1) H') v x := o
    rw [hz_eq] at o
    exact q v A1 H' (R1.upA S) f1 (S1.trans (vw_upA R1 S)) o
theorem el_callX (h : Es tr ρ ss ρ') (hn : ss.length = n) (g : T ss (fun r => r = .l xs) fun _ _ => False) : El (tCallS (spX n T) E tr) ρ xs ρ' := fun c A σ H Q R f q =>
  h c A σ H _ R f fun vs A1 H1 R1 f1 S1 o1 => by
    refine ⟨zz c.Z A1, ss, _, _, zz_ok R1, by rw [hz_eq]; exact o1, hn, g, fun r v H' hr S o => ?_, fun _ _ _ _ _ z => z.elim⟩
    subst hr
    obtain ⟨a, us, rfl, n, e, dx⟩ := o
    rw [hz_eq] at dx
    refine q a us _ H' (R1.adopt S n e) aset_at (S1.trans ?_) e (DnAll.mono vw_adopt dx)
    exact fun b o z => vw_adopt (A := A1) b o (by rw [hid_ne (ne_of_none (vw_some z).2.2 n)]; exact vw_upA R1 S _ _ z)
theorem re_call (h : Es tr ρ ss ρ') (hn : ss.length = n) (g : T ss (fun _ => False) fun C' s' => C' = C ∧ s' = s) : Re W (tCallS (spX n T) (fun σ => WE W σ) tr) ρ C s ρ' := fun c A σ H Q R f q =>
  h c A σ H _ R f fun vs A1 H1 R1 f1 S1 o1 => by
    refine ⟨zz c.Z A1, ss, _, _, zz_ok R1, by rw [hz_eq]; exact o1, hn, g, fun _ _ _ z => z.elim, fun C' s' d v H' z S e o => ?_⟩
    obtain ⟨rfl, rfl⟩ := z
    rw [hz_eq] at e o
    exact q d v A1 H' (R1.upA S) f1 e o
theorem rs_seq (h : Sm t ρ { nx := fun ρ1 => Rs W u ρ1 C s ρ', rt := fun _ _ => False }) : Rs W (tSeq t u) ρ C s ρ' := fun c A σ H D R f q =>
  h c A σ H { D with nx := u D } R f ⟨fun ρ1 A1 σ1 H1 hk R1 f1 => hk c A1 σ1 H1 D R1 f1 q, fun _ _ _ _ _ _ z => z.elim, fun _ _ _ _ z => z.elim, fun _ _ _ _ z => z.elim⟩
theorem rs_seq1 (h : Rs W t ρ C s ρ') : Rs W (tSeq t u) ρ C s ρ' := fun c A σ H D R f q => h c A σ H { D with nx := u D } R f q
theorem rs_drop (h : Re W te ρ C s ρ') : Rs W (tDrop te) ρ C s ρ' := fun c A σ H D R f q => h c A σ H _ R f fun d v A1 H1 R1 f1 e o => q d v A1 σ H1 R1 f1 e o
theorem rs_ret (h : Re W te ρ C s ρ') : Rs W (tRet te) ρ C s ρ' := fun c A σ H D R f q => h c A σ H _ R f fun d v A1 H1 R1 f1 e o => q d v A1 σ H1 R1 f1 e o
theorem rs_asg (h : Re W te ρ C s ρ') : Rs W (tAsg te g) ρ C s ρ' := fun c A σ H D R f q => h c A σ H _ R f fun d v A1 H1 R1 f1 e o => q d v A1 σ H1 R1 f1 e o
theorem rs_if {tt : TT} {b : Bool} (h : Et tt ρ b ρ1) (h1 : b = true → Rs W t ρ1 C s ρ') (h2 : b = false → Rs W u ρ1 C s ρ') : Rs W (tIfS tt t u) ρ C s ρ' := fun c A σ H D R f q =>
  h c A σ H _ R f fun A1 H1 R1 f1 S1 => by
    cases b with
    | true => exact h1 rfl c A1 σ H1 D R1 f1 q
    | false => exact h2 rfl c A1 σ H1 D R1 f1 q
theorem re_op1 {r : R2} (h : Re W ta ρ C s ρ') : Re W (tOp r ta tb) ρ C s ρ' := fun c A σ H Q R f q => h c A σ H _ R f q
theorem re_tup {ta : TA} (h : ∀ (c : Fr) (A : Am) (σ : L2.St) (H : Hp) (Q : List V → Hp → Prop), Rp c A ρ σ H → A fl = none → (∀ d v A' H', Rp c A' ρ' σ H' → A' fl = none → vw c.Z A' H' d = some (.xd [("found", v)]) → ArOk (vw c.Z A' H') v s → W (.ref C) (some d) σ H') → ta σ H Q) : Re W (tTup ta) ρ C s ρ' :=
  fun c A σ H Q R f q => h c A σ H _ R f q
/-- a display's second thing is refused -/
theorem re_tup2 {v : V} (h : Re W te ρ C s ρ') : Re W (tTup (tCons (tC v) (tCons te tNil))) ρ C s ρ' := fun c A σ H Q R f q => h c A σ H _ R f q
/-- raise C(e), C a refusal of the program -/
def spErr (C : Addr) : Sp := fun vs H Q _ => ∃ a v, vs = [.ref a, v] ∧ H a = some (exo a C none) ∧ ∀ dx, H dx = none → dx ≠ a → Q .non (upd (upd H dx (exd dx [("found", v)])) a (exo a C (some dx)))
theorem gone_same {H : Hp} {a d : Addr} {u e u' x : HO} (ha : H a = none) (hd : H d = none) : Same H (upd (del (upd (upd (upd H a u) d e) a u') a) d x) := fun b o z => by
  have na : b ≠ a := ne_of_none z ha
  have nd : b ≠ d := ne_of_none z hd
  rw [upd_ne nd, del_ne na, upd_ne na, upd_ne nd, upd_ne na]
  exact z
theorem rs_raise (h : Ev te ρ s ρ') : Rs W (fun _ σ H => tMkO C (spErr C) [] (tCons te tNil) σ H fun cls d H' => W cls d σ H') ρ C s ρ' := fun c A σ H D R f q =>
  h c A σ H _ R f fun v A1 H1 R1 f1 S1 o1 => by
    refine ⟨(by show 1 ≤ 1000; decide), fun a ha => ⟨a, v, rfl, upd_same, fun dx hdx ne => ⟨rfl, dx, [("found", v)], upd_same, ?_, ?_, ?_⟩⟩⟩
    · rw [upd_ne ne, upd_same]
    · rw [upd_ne ne] at hdx
      exact hdx
    · rw [upd_ne ne] at hdx
      have S := gone_same (u := exo a C none) (e := exd dx [("found", v)]) (u' := exo a C (some dx)) (x := .xd [("found", v)]) ha hdx
      exact q dx v A1 σ _ (R1.up S) f1 (new_view R1 hdx upd_same) (o1.mono (vw_up S))
/-! a try -/
def excMo (a d : Addr) (s : Sl) : Mo := ⟨fun u W => u = .ref a ∧ ∃ v, W d = some (.xd [("found", v)]) ∧ ArOk W v s, fun S ⟨e, v, h, o⟩ => ⟨e, v, S _ _ h, o.mono S⟩⟩
theorem ev_found {a d : Addr} (h : ρ[i]? = some (.p (excMo a d s))) : Ev (tXf a (.ref C) (some d) C "found" (tVar i)) ρ s ρ := fun c A σ H Q R f q => by
  obtain ⟨_, u, e, eu, v, ed, o⟩ := R.sl i _ h
  subst eu
  exact ⟨_, e, rfl, rfl, d, _, v, rfl, vw_sub _ _ ed, rfl, q v A H R f (Same.refl _) o⟩
theorem sm_try {l : List (Value × Nat × (Addr → Value → Option Addr → TS))} {tb : WX → TS} (h : ∀ W, Sm (tb W) ρ K) : Sm (tTryAs KF l tb) ρ K := fun c A σ H D R f dk => h _ c A σ H D R f dk
/-- which handler takes it -/
inductive Takes1 (KF : PySem.W.Frag) (C : Addr) : List (Value × Nat × (Addr → Value → Option Addr → TS)) → Nat → (Addr → Value → Option Addr → TS) → Prop
  | here {c : Value} {i : Nat} {ts : Addr → Value → Option Addr → TS} {r : List (Value × Nat × (Addr → Value → Option Addr → TS))} : PySem.W.exmOne KF (.ref C) c = some true → Takes1 KF C ((c, i, ts) :: r) i ts
  | next {c : Value} {i j : Nat} {ts ts' : Addr → Value → Option Addr → TS} {r : List (Value × Nat × (Addr → Value → Option Addr → TS))} : PySem.W.exmOne KF (.ref C) c = some false → Takes1 KF C r j ts' → Takes1 KF C ((c, i, ts) :: r) j ts'
theorem sm_tryX {l : List (Value × Nat × (Addr → Value → Option Addr → TS))} {tb : WX → TS} {ts : Addr → Value → Option Addr → TS} (h : ∀ W, Rs W (tb W) ρ C s ρ') (ht : Takes1 KF C l i ts) (i0 : i ≠ 0 := by decide) (i1 : i ≠ fl := by decide)
    (hs : ∀ a d, Sm (ts a (.ref C) (some d)) (ρ'.set i (.p (excMo a d s))) { nx := fun _ => False, rt := K.rt }) : Sm (tTryAs KF l tb) ρ K := fun c A σ H D R f dk => by
  refine h (wAs KF D l) c A σ H D R f fun d v A' σ' H' R' f' e o => ?_
  induction ht with
  | @here c0 i0' ts0 r0 hx =>
    refine ⟨true, hx, (fun _ a ha => ?_), (fun z => by cases z)⟩
    refine hs a d c _ _ H' _ (R'.set (s := .p (excMo a d s)) (v := .ref a) i0 ⟨rfl, _, rfl, rfl, v, e, o⟩) (by rw [aset_ne i1.symm]; exact f') ⟨fun _ _ _ _ z => z.elim, fun r ρ v A σ H k => dk.rt r ρ v A σ H k, fun _ _ _ _ z => z.elim, fun _ _ _ _ z => z.elim⟩
  | @next c0 i0' j0 ts0 ts1 r0 hx _ ih => exact ⟨false, hx, (fun z => by cases z), fun _ => ih i0 i1 hs⟩
end
section
variable {P : Program} {w : World} {K : PySem.W.Frag} {mg : Str → Option Value} {base : Heap}
theorem fn_x {x qual : Str} {st : Stmt} {f : Addr} {fd : FuncData} {N ps : List Str} {k n : Nat} {T : List Sl → (Rv → Prop) → (Addr → Sl → Prop) → Prop} (F : Fun K x qual st f fd) (S : FnScope N ps (defScope st)) (hn : ps.length = n := by rfl) (hN : n + N.length < fl := by decide)
    (body : ∀ (cdv : Value) (A : Around) (outer : List Env) (s : Shared) (H : Hp) (E : XK), Room k (A.deeper (envOfC qual (defScope st) s.heap.objs.size f cdv)) →
      ∃ t, PSs (cxOf (L2.CX P w) P w K mg base N qual (defScope st) f cdv A outer s H E) (defBody st) t ∧ ∀ as Kr X, as.length = n → T as Kr X →
        Sm t (as ++ uns (N.length - n)) { nx := fun _ => Kr (.d .none), rt := fun r _ => Kr r } ∨ ∃ C s ρ', X C s ∧ Rs (fun cls d _ H => E cls d H) t (as ++ uns (N.length - n)) C s ρ') :
    FnOk P w K mg base (L2.CX P w) (k + 1) f fd ps (spX n T) := by
  refine F.okX S (fun vs H Q E h => ?_) (fun cdv A outer s H vs Q E hr h => ?_)
  · obtain ⟨Z, as, Kr, X, hZ, ha, hl, _⟩ := h
    rw [ha.length, hl, hn]
  · obtain ⟨Z, as, Kr, X, hZ, ha, hl, hT, go, bad⟩ := h
    obtain ⟨t, ht, hb⟩ := body cdv A outer s H E hr
    have same : ∀ {A' : Am} {ρ' : List Sl} {σ' : L2.St} {H' : Hp}, Rp ⟨Z, none, H, hz Z H⟩ A' ρ' σ' H' → Aft Z H H' := rp_aft
    have start := rp_start (N := N) (vs := vs) hN hZ ha hl
    rcases hb as Kr X hl hT with hb | ⟨C, s, ρ', hX, hb⟩
    · refine ⟨t, ht, hb ⟨Z, none, H, hz Z H⟩ _ _ H _ start rfl ?_⟩
      refine ⟨fun ρ' A' σ' H' hk R f => go _ _ _ hk (same R) .non, fun r ρ' v A' σ' H' hk R o => go r v H' hk (same R) ?_, fun _ _ _ _ h => h.elim, fun _ _ _ _ h => h.elim⟩
      exact rv_out (fun b o e nz _ => R.old _ _ (hz_mk nz e)) (fun b z => Or.inl z) R.inj R.off R.bor o
    · refine ⟨t, ht, hb ⟨Z, none, H, hz Z H⟩ _ _ H _ start rfl fun d v A' σ' H' R' f' e o => bad C s d v H' hX (same R') (vw_hz _ _ e) (o.mono vw_hz)⟩
end
end OW
set_option Elab.async false
set_option linter.unusedVariables false
set_option linter.unusedSectionVars false
set_option maxRecDepth 100000
set_option maxHeartbeats 2000000
namespace OW
open PySem PySem.Spec PyProof.Rows L2 KA
variable [Tbs]
/-- a thing that is this data, whatever else is known of it -/
inductive Isd : Sl → PyData → Prop
  | d (x : PyData) : Isd (.d x) x
  | p (P : Mo) (x : PyData) (h : ∀ W v, P.P v W → Dn W v x) : Isd (.p P) x
section
variable {ρ ρ' ρ1 ρ2 : List Sl} {te : TE} {s : Sl} {x : PyData} {i : Nat} {ta tr : TA} {ss : List Sl}
theorem Isd.dn {W : Hp} {v : V} (h : Isd s x) (o : ArOk W v s) : Dn W v x := by
  cases h with
  | d => exact o
  | p P _ k => exact k W v o
theorem ev_varI (h : ρ[i]? = some s) (is : Isd s x) : Ev (tVar i) ρ s ρ := by
  cases is with
  | d => exact ev_var h
  | p P => exact ev_varp h
theorem Ev.as (h : Ev te ρ s ρ') (is : Isd s x) : Ev te ρ (.d x) ρ' := fun c A σ H Q R f q => h c A σ H Q R f fun v A1 H1 R1 f1 S1 o1 => q v A1 H1 R1 f1 S1 (is.dn o1)
theorem ev_varD (h : ρ[i]? = some s) (is : Isd s x) : Ev (tVar i) ρ (.d x) ρ := (ev_varI h is).as is
end
section
variable {ρ ρ' ρ1 ρ2 : List Sl} {te ta tb : TE} {s s' : Sl} {x y : PyData} {i : Nat} {tr : TA} {ss : List Sl} {K' : KK}
theorem sm_augI {f : Int → Int → Int} {m n : Int} (h0 : ρ[i]? = some (.d (.int m))) (h : Ev te ρ (.d (.int n)) ρ1) (k : K'.nx (ρ1.set i (.d (.int (f m n))))) (i0 : i ≠ 0 := by decide) (i1 : i ≠ fl := by decide) : Sm (tAug i te (ipI f)) ρ K' := fun c A σ H D R f' dk => by
  obtain ⟨_, v, e, dn⟩ := R.sl i _ h0
  obtain rfl := int_v dn
  refine ⟨_, e, h c A σ H _ R f' fun w A1 H1 R1 f1 S1 o1 => ?_⟩
  obtain rfl := int_v o1
  exact ⟨m, n, rfl, rfl, dk.nx _ _ _ _ k (R1.set (s := .d (.int (f m n))) (v := .int (f m n)) i0 ⟨rfl, _, rfl, .int _⟩) (by rw [aset_ne i1.symm]; exact f1)⟩
end
structure NoX (K : PySem.W.Frag) (mg : Str → Option Value) (nm qual : Str) (st : Stmt) (C U fI : Addr) (fdI : FuncData) : Prop where
  oex : OexC K C
  up : UpC K U
  gU : mg "PaperError" = some (.ref U)
  gC : mg nm = some (.ref C)
  iC : PySem.W.findIn K (.ref C) "__init__" = some (some (.ref fI))
  tI : PySem.W.typeIn K (.ref fI) = some (.type "function")
  noF : PySem.W.findIn K (.ref C) "found" = some none
  fn : Fun K "__init__" qual st fI fdI
  b : Binds K fdI ["self", "found"] []
  xf : XfC K C
  te : PySem.W.exmOne K (.ref C) (.ref C) = some true
/-- a def that refuses, by its name -/
structure CalX (P : Program) (w : World) (K : PySem.W.Frag) (mg : Str → Option Value) (base : Heap) (k : Nat) (x : Str) (ps : List Str) (sp : Sp) : Prop where
  ex : ∃ (f : Addr) (fd : FuncData), FnOk P w K mg base (L2.CX P w) k f fd ps sp ∧ mg x = some (.ref f) ∧ PySem.W.keepIn K (.ref f) = true ∧ Binds K fd ps []
theorem pe_x {X : Cx} {j k : Nat} {x : Str} {ps : List Str} {sp : Sp} {W : WX} {e : Expr} {es : List Expr} {t : TA} {p pos : Pos} (c : CalX X.prog X.w X.K X.mg X.base k x ps sp) (tk : Takes X W) (hr : Room j X.A) (hk : k ≤ j) (hg : Gl X x) (ha : PA X (e :: es) t)
    (hdb : (x == ("__debug__" : Str)) = false := by decide) (he : starEach (e :: es) X.env = (false, eval e X.env) :: starEach es X.env := by rfl) (hpl : (backTo pos (starEach es X.env)).any (·.1) = false := by rfl) : PE X (.Call (.Name x p) (e :: es) [] pos) (tCallS sp (fun σ => WE W σ) t) := by
  obtain ⟨f, fd, F, m, kp, b⟩ := c.ex
  exact pe_callS F (hr.mono hk) hg m kp b (fun σ => passAt tk σ) ha hdb he hpl
/-! ### a call of what an expression gives, a def that may refuse -/
structure HeldX (P : Program) (w : World) (K : PySem.W.Frag) (mg : Str → Option Value) (base : Heap) (k : Nat) (f : Addr) (sp : Sp) : Prop where
  ex : ∃ (fd : FuncData) (ps : List Str), FnOk P w K mg base (L2.CX P w) k f fd ps sp ∧ PySem.W.keepIn K (.ref f) = true ∧ Binds K fd ps []
def tCallV (P : Program) (w : World) (K : PySem.W.Frag) (mg : Str → Option Value) (base : Heap) (k : Nat) (W : WX) (to : TE) (t : TA) : TE := fun σ H Q => to σ H fun x H1 => ∃ f sp, x = .ref f ∧ HeldX P w K mg base k f sp ∧ t σ H1 fun vs H2 => sp vs H2 Q (WE W σ)
theorem pe_callV {X : Cx} {P : Program} {w : World} {K : PySem.W.Frag} {mg : Str → Option Value} {base : Heap} (e1 : X.prog = P) (e2 : X.w = w) (e3 : X.K = K) (e4 : X.mg = mg) (e5 : X.base = base) {j k : Nat} {W : WX} {o e : Expr} {es : List Expr} {to : TE} {t : TA} {pos : Pos} (ho : PE X o to) (tk : Takes X W) (hr : Room j X.A) (hk : k ≤ j) (ha : PA X (e :: es) t)
    (he : eval (.Call o (e :: es) [] pos) X.env = (do callWith pos (← eval o X.env) [] (backTo pos (starEach (e :: es) X.env)) (backToKw pos (keywordEach [] X.env))) := by rfl)
    (hst : starEach (e :: es) X.env = (false, eval e X.env) :: starEach es X.env := by rfl) (hpl : (backTo pos (starEach es X.env)).any (·.1) = false := by rfl) : PE X (.Call o (e :: es) [] pos) (tCallV P w K mg base k W to t) := by
  subst e1 e2 e3 e4 e5
  refine ⟨fun pins s σ H Q I h => ?_⟩
  refine Call_ (thn (ho.run pins s σ H _ I h) fun u s1 ⟨x, H1, I1, rx, f, sp, ex, hf, q⟩ => ?_) he
  subst ex
  cases rx
  obtain ⟨fd, ps, F, kp, b⟩ := hf.ex
  refine PySem.W.callWith_K (h₀ := X.base) I1.ok.mod.kin kp (thn (ha.run pos pins s1 σ H1 _ I1 q) fun us s2 ⟨vs, H2, I2, r, q2⟩ => ⟨I2.kIn, ?_⟩) hst hpl
  exact run_fnS F (hr.mono hk) b (passAt tk σ) I2 r q2
theorem pe_ixK {X : Cx} {K : PySem.W.Frag} (e3 : X.K = K) {a b : Expr} {ta tb : TE} {pos : Pos} (ha : PE X a ta) (hb : PE X b tb) (hs : PlainIx b) : PE X (.Subscript a b pos) (tOp (rIxL K) ta tb) := by
  subst e3
  exact pe_ix ix_list ha hb hs
section
variable {ρ ρ' ρ1 ρ2 : List Sl} {te ta tb ti : TE} {s s' : Sl} {x y : PyData} {i : Nat} {tr : TA} {xs : List PyData} {ss : List Sl} {W : WX} {C : Addr} {n k : Nat} {T : List Sl → (Rv → Prop) → (Addr → Sl → Prop) → Prop} {KF : PySem.W.Frag}
  {P : Program} {w : World} {K : PySem.W.Frag} {mg : Str → Option Value} {base : Heap} {f : Addr}
theorem re_callV (h0 : Ev ta ρ (.p (isV (.ref f))) ρ1) (hf : HeldX P w K mg base k f (spX n T)) (h : Es tr ρ1 ss ρ') (hn : ss.length = n) (g : T ss (fun _ => False) fun C' s' => C' = C ∧ s' = s) : Re W (tCallV P w K mg base k W ta tr) ρ C s ρ' := fun c A σ H Q R f' q =>
  h0 c A σ H _ R f' fun v A1 H1 R1 f1 S1 o1 => by
    obtain rfl := isv_v o1
    exact ⟨f, _, rfl, hf, re_call (W := W) h hn g c A1 σ H1 Q R1 f1 fun d v A2 H2 R2 f2 e o => q d v A2 H2 R2 f2 e o⟩
/-- one of two written values -/
theorem ev_pick2 {a b : V} {z : Int} {v : V} (hi : Ev ti ρ (.d (.int z)) ρ') (e : atI [a, b] z = some v) : Ev (tOp (rIxL KF) (tLst (tCons (tC a) (tCons (tC b) tNil))) ti) ρ (.p (isV v)) ρ' := fun c A σ H Q R f q => by
  refine ⟨(by show 2 ≤ sizeLine; rw [sizeLine_eq]; decide), fun l hl => ?_⟩
  have R1 := R.up (Same.new (o := .lst [a, b]) hl)
  refine hi c A σ _ _ R1 f fun u A2 H2 R2 f2 S2 o2 => ?_
  obtain rfl := int_v o2
  have el : H2 l = some (.lst [a, b]) := vw_sub _ _ (S2 _ _ (new_view R hl upd_same))
  exact ⟨l, _, z, v, rfl, rfl, SqL.of el, e, q v A2 H2 R2 f2 ((vw_up (Same.new hl)).trans S2) rfl⟩
theorem fv_eqE : FV2 rEqE (.d (.tuple xs)) (.d (.tuple [])) (.d (.bool xs.isEmpty)) := fv2_s (dB xs.isEmpty) fun W H v w Q S o o' q => by
  obtain ⟨a, vs, rfl, e, dx⟩ := tup_v o
  obtain ⟨b, ws, rfl, e', dy⟩ := tup_v o'
  cases dy
  refine ⟨a, b, vs, rfl, rfl, Or.inl ⟨S _ _ e, S _ _ e'⟩, ?_⟩
  have : vs.isEmpty = xs.isEmpty := by cases dx <;> rfl
  rw [this]
  exact q
/-- a pair of a word and a thing -/
def pairMo (x : Str) (s : Sl) : Mo := ⟨fun u W => ∃ t v, u = .ref t ∧ W t = some (.tup [.str x, v]) ∧ ArOk W v s, fun S ⟨t, v, e, h, o⟩ => ⟨t, v, e, S _ _ h, o.mono S⟩⟩
theorem pair_isd {z : Str} (h : Isd s x) : Isd (.p (pairMo z s)) (.tuple [.str z, x]) := .p _ _ fun W v ⟨t, u, e, h1, o⟩ => by
  subst e
  exact .tup h1 (.cons (.str _) (.one (h.dn o)))
theorem ev_pair {z : Str} (h : Ev te ρ s ρ') : Ev (tTup (tCons (tC (.str z)) (tCons te tNil))) ρ (.p (pairMo z s)) ρ' := fun c A σ H Q R f q =>
  h c A σ H _ R f fun v A1 H1 R1 f1 S1 o1 => ⟨(by show 2 ≤ sizeLine; rw [sizeLine_eq]; decide), fun a ha =>
    q _ A1 _ (R1.up (Same.new ha)) f1 (S1.trans (vw_up (Same.new ha))) ⟨a, v, rfl, new_view R1 ha upd_same, o1.mono (vw_up (Same.new ha))⟩⟩
end
/-! ### a list whose address is known: it is handed in, told back, and changed -/
def idMo (v : V) (x : PyData) : Mo := ⟨fun u W => u = v ∧ Dn W u x, fun S ⟨e, h⟩ => ⟨e, Dn.mono S h⟩⟩
theorem idMo_isd {v : V} {x : PyData} : Isd (.p (idMo v x)) x := .p _ _ fun W u h => h.2
section
variable {c : Fr} {A : Am} {ρ ρ' ρ1 ρ2 : List Sl} {σ : L2.St} {H H' : Hp} {te ta tb ti : TE} {s s' : Sl} {x y : PyData} {i j k m : Nat} {tr : TA} {xs ys : List PyData} {ss : List Sl} {K : KK} {a : Addr} {KF : PySem.W.Frag}
/-- the list is data for as long as it is lent -/
theorem Rp.lent (R : Rp c A ρ σ H) (h : ρ[i]? = some (.la a xs)) : ∃ Z : Addr → Prop, ZOk Z H ∧ Same (vw c.Z A H) (hz Z H) ∧ Dn (hz Z H) (.ref a) (.list xs) ∧ ¬ Z a ∧
    (∀ (H' : Hp) b o, b ≠ a → hz Z H' b = some o → vw c.Z A H' b = some o) := by
  obtain ⟨vs, e, e1, e2, dx⟩ := R.sl i _ h
  have na : ¬ zz c.Z (aset A i none) a := by
    rintro (z | ⟨j, z⟩)
    · exact R.off _ _ e z
    · by_cases q : j = i
      · rw [q, aset_at] at z
        cases z
      · rw [aset_ne q] at z
        exact q (R.inj _ _ _ z e)
  have S : Same (vw c.Z A H) (hz (zz c.Z (aset A i none)) H) := by
    rw [hz_eq]
    exact vw_land
  refine ⟨zz c.Z (aset A i none), ⟨?_, fun b t => Or.inl (R.tz b t), ?_⟩, S, .lst (hz_mk na e2) (DnAll.mono S dx), na, fun H' b o nb z => ?_⟩
  · rintro b (z | ⟨j, z⟩)
    · exact R.there z
    · by_cases q : j = i
      · rw [q, aset_at] at z
        cases z
      · rw [aset_ne q] at z
        exact R.live _ _ z
  · rw [hz_eq] at S ⊢
    exact R.tb.mono S fun _ _ => rfl
  · rw [hz_eq] at z
    obtain ⟨h1, h2, h3⟩ := vw_some z
    refine vw_mk h1 (fun j w => ?_) h3
    by_cases q : j = i
    · rw [q, e] at w
      exact nb (Option.some.inj w).symm
    · exact h2 j (by rw [aset_ne q]; exact w)
theorem Rp.vwLent (R : Rp c A ρ σ H) {Z : Addr → Prop} (SS : Aft Z H H') : Same (vw c.Z A H) (vw c.Z A H') := fun b o e => by
  obtain ⟨h1, h2, h3⟩ := vw_some e
  exact vw_mk h1 h2 (SS.same b o h3 fun t => h1 (R.tz b t))
theorem Rp.upLent (R : Rp c A ρ σ H) {Z : Addr → Prop} {vs : List V} (e : A i = some a) (eH : H a = some (.lst vs)) (back : ∀ (H' : Hp) b o, b ≠ a → hz Z H' b = some o → vw c.Z A H' b = some o) (SS : Aft Z H H') : Rp c A ρ σ H' := by
  refine R.upA ⟨SS.same, ?_⟩
  rw [hz_eq]
  intro p hp
  obtain ⟨ps, g1, g2, g3⟩ := SS.tb p hp
  refine ⟨ps, g1, g2, fun pos cv h => ?_⟩
  obtain ⟨cc, k1, k2⟩ := g3 pos cv h
  refine ⟨cc, k1, back H' cc _ (fun q => ?_) k2⟩
  have k3 := (hz_some k2).2
  rw [q, SS.same _ _ eH (R.nt e)] at k3
  have k4 := Option.some.inj k3
  unfold LamX.CodeO at k4
  cases k4
theorem evp_lend4 {T : List Sl → (Rv → Prop) → Prop} {E : XK} {i1 i2 i3 i4 : Nat} {x1 x2 x4 : PyData} {P : Mo} (h1 : ρ[i1]? = some (.d x1)) (h2 : ρ[i2]? = some (.d x2)) (h3 : ρ[i3]? = some (.la a xs)) (h4 : ρ[i4]? = some (.d x4))
    (g : ∀ v2 v4, ∃ S : Mo, T [.d x1, .p (idMo v2 x2), .p (idMo (.ref a) (.list xs)), .p (idMo v4 x4)] (fun r => r = .p S) ∧ ∀ u (W W1 : Hp), (∀ b o, b ≠ a → W1 b = some o → W b = some o) → (∃ vs, W1 a = some (.lst vs)) → Dn W v2 x2 → Dn W v4 x4 → S.P u W1 → P.P u W) :
    Ev (tCall (spD 4 T) [] E (tCons (tVar i1) (tCons (tVar i2) (tCons (tVar i3) (tCons (tVar i4) tNil))))) ρ (.p P) ρ := fun c A σ H Q R f q => by
  obtain ⟨_, v1, e1, d1⟩ := R.sl _ _ h1
  obtain ⟨_, v2, e2, d2⟩ := R.sl _ _ h2
  obtain ⟨vs3, e3', e3, eH, d3⟩ := R.sl _ _ h3
  obtain ⟨_, v4, e4, d4⟩ := R.sl _ _ h4
  obtain ⟨Z, hZ, S0, da, na, back⟩ := R.lent h3
  obtain ⟨S, hT, conv⟩ := g v2 v4
  refine ⟨v1, e1, v2, e2, .ref a, e3, v4, e4, Z, _, _, hZ, ?_, rfl, hT, fun r v H' hr SS o => ?_⟩
  · exact ⟨Dn.mono S0 d1, ⟨rfl, Dn.mono S0 d2⟩, ⟨rfl, da⟩, ⟨rfl, Dn.mono S0 d4⟩, trivial⟩
  · subst hr
    have o : S.P v (hz Z H') := o
    have R' := R.upLent e3' eH back SS
    have up := R.vwLent SS
    exact q v A H' R' f up (conv v _ _ (back H') ⟨vs3, hz_mk na (SS.same _ _ eH (R.nt e3'))⟩ (Dn.mono up d2) (Dn.mono up d4) o)
/-- such a list changes -/
theorem Rp.mutA (R : Rp c A ρ σ H) {vs : List V} (h : ρ[i]? = some (.la a ys)) (dx : DnAll (vw c.Z A H) vs xs) : Rp c A (ρ.set i (.la a xs)) σ (upd H a (.lst vs)) := by
  obtain ⟨vs', e, e2, e3, _⟩ := R.sl i _ h
  have hv : vw c.Z A (upd H a (.lst vs)) = vw c.Z A H := vw_mut e
  refine ⟨by rw [List.length_set, R.len], by rw [List.length_set]; exact R.sz, R.inj, R.off, ?_, ?_, ?_, R.bor, ?_, R.tz, by rw [hv]; exact R.tb.mono (Same.refl _) (R.tb.upd_ (R.nt e))⟩
  · intro j b z
    by_cases q : b = a
    · rw [q, upd_same]
      simp
    · rw [upd_ne q]
      exact R.live _ _ z
  · intro b z t
    have nb : b ≠ a := fun q => R.off _ _ e (q ▸ z)
    rw [upd_ne nb]
    exact R.keep b z t
  · rw [hv]
    exact R.old
  · intro j t z
    rw [hv]
    by_cases q : j = i
    · subst q
      have lt := (List.getElem?_eq_some_iff.mp h).1
      rw [List.getElem?_set_self lt] at z
      cases z
      exact ⟨vs, e, e2, upd_same, dx⟩
    · rw [List.getElem?_set_ne (Ne.symm q)] at z
      refine (R.sl j t z).mono (Same.refl _) fun b ws e' hb => ?_
      have nb : b ≠ a := fun eb => q (R.inj _ _ _ e' (eb ▸ e))
      rw [upd_ne nb]
      exact hb
theorem sm_appA {n : Int} (h0 : ρ[k]? = some (.la a xs)) (len : xs.length < sizeLine) (q : K.nx (ρ.set k (.la a (xs ++ [.int n])))) : Sm (tDrop (tBM KF "list" rAppend (tVar k) (tCons (tC (.int n)) tNil))) ρ K := fun c A σ H D R f dk => by
  obtain ⟨vs, e, e1, e2, dx⟩ := R.sl k _ h0
  exact ⟨_, e1, Or.inl ⟨rfl, vs, SqL.of e2⟩, a, vs, .int n, rfl, rfl, e2, by rw [dx.length]; exact len, dk.nx _ _ _ _ q (R.mutA h0 (dx.snoc (.int n))) f⟩
/-- a slot that is kept for a new list -/
theorem Rp.keepA (R : Rp c A ρ σ H) {vs : List V} (i0 : i ≠ 0) (hi : i < ρ.length) (e : A fl = some a) (ha : H a = some (.lst vs)) (dx : DnAll (vw c.Z A H) vs xs) : Rp c (aset (aset A i (some a)) fl none) (ρ.set i (.wa a xs)) σ H := by
  have B := R.setL i0 hi e ha dx
  have ne : i ≠ fl := by have := R.sz; omega
  refine ⟨by have := B.len; rw [List.length_set, List.length_set] at this; rw [List.length_set]; exact this, by have := B.sz; rw [List.length_set] at this ⊢; exact this, B.inj, B.off, B.live, B.keep, B.old, B.bor, (fun j t z => ?_), B.tz, B.tb⟩
  by_cases q : j = i
  · subst q
    rw [List.getElem?_set_self hi] at z
    cases z
    obtain ⟨a', vs', e1, e2, e3, d⟩ := B.sl j (.l xs) (List.getElem?_set_self hi)
    rw [aset_ne ne, aset_at] at e1
    cases e1
    rw [ha] at e3
    cases e3
    exact ⟨vs, by rw [aset_ne ne, aset_at], ha, d⟩
  · rw [List.getElem?_set_ne (Ne.symm q)] at z
    have := B.sl j t (by rw [List.getElem?_set_ne (Ne.symm q)]; exact z)
    rw [List.getElem?_set_ne (Ne.symm q)] at this
    exact this
/-- it gets it -/
theorem Rp.fillA (R : Rp c A ρ σ H) (h : ρ[i]? = some (.wa a xs)) : Rp c A (ρ.set i (.la a xs)) (σ.set i (some (.ref a))) H := by
  obtain ⟨vs, e, e2, dx⟩ := R.sl i _ h
  have lt := (List.getElem?_eq_some_iff.mp h).1
  refine ⟨by rw [List.length_set, List.length_set, R.len], by rw [List.length_set]; exact R.sz, R.inj, R.off, R.live, R.keep, R.old, R.bor, (fun j t z => ?_), R.tz, R.tb⟩
  by_cases q : j = i
  · subst q
    rw [List.getElem?_set_self lt] at z
    cases z
    rw [List.getElem?_set_self (by rw [R.len]; exact lt)]
    exact ⟨vs, e, rfl, e2, dx⟩
  · rw [List.getElem?_set_ne (Ne.symm q)] at z ⊢
    exact R.sl j t z
/-- a display with a new list at place k, for which slot i is kept -/
def Ew (ta : TA) (ρ : List Sl) (i k m : Nat) (xs : List PyData) : Prop := ∀ (c : Fr) (A : Am) (σ : L2.St) (H : Hp) (Q : List V → Hp → Prop), Rp c A ρ σ H → A fl = none →
  (∀ a vs A' H', Rp c A' (ρ.set i (.wa a xs)) σ H' → A' fl = none → vs.length = m → vs[k]? = some (.ref a) → Q vs H') → ta σ H Q
theorem ew_skip (h : Ev te ρ (.d x) ρ) (g : Ew tr ρ i k m xs) : Ew (tCons te tr) ρ i (k + 1) (m + 1) xs := fun c A σ H Q R f q =>
  h c A σ H _ R f fun v A1 H1 R1 f1 _ _ => g c A1 σ H1 _ R1 f1 fun a vs A2 H2 R2 f2 l e => q a (v :: vs) A2 H2 R2 f2 (by rw [List.length_cons, l]) e
theorem ew_here (h : El te ρ xs ρ) (g : ∀ a, Eds tr (ρ.set i (.wa a xs)) ys (ρ.set i (.wa a xs))) (i0 : i ≠ 0 := by decide) (hi : i < ρ.length := by simp [uns]) : Ew (tCons te tr) ρ i 0 (ys.length + 1) xs := fun c A σ H Q R f q =>
  h c A σ H _ R f fun a vs A1 H1 R1 f1 _ e dx => g a c _ σ H1 _ (R1.keepA i0 hi f1 e dx) aset_at fun us A2 H2 R2 f2 _ du => q a _ A2 H2 R2 f2 (by rw [List.length_cons, du.length]) rfl
def lstMo (m k : Nat) (a : Addr) : Mo := ⟨fun u W => ∃ b vs, u = .ref b ∧ W b = some (.lst vs) ∧ vs.length = m ∧ vs[k]? = some (.ref a), fun S ⟨b, vs, e, h, r⟩ => ⟨b, vs, e, S _ _ h, r⟩⟩
theorem sm_lstA (h : Ew tr ρ i k m xs) (len : m ≤ sizeLine) (q : ∀ a, K.nx ((ρ.set i (.wa a xs)).set j (.p (lstMo m k a)))) (j0 : j ≠ 0 := by decide) (j1 : j ≠ fl := by decide) : Sm (tAsg (tLst tr) (gName j)) ρ K := fun c A σ H D R f dk =>
  h c A σ H _ R f fun a vs A1 H1 R1 f1 l e => ⟨by rw [l]; exact len, fun b hb => by
    have R2 := R1.up (Same.new (o := .lst vs) hb)
    exact dk.nx _ _ _ _ (q a) (R2.set (v := .ref b) j0 ⟨rfl, _, rfl, b, vs, rfl, new_view R1 hb upd_same, l, e⟩) (by rw [aset_ne j1.symm]; exact f1)⟩
/-- it is picked of that display and one more -/
theorem sm_pickA {z : Int} (h5 : ρ[j]? = some (.p (lstMo m k a))) (he : El te ρ ys ρ) (hi : Ev ti ρ (.d (.int z)) ρ1) (h6 : ρ1[i]? = some (.wa a xs)) (ez : z = (k : Int)) (len : m + ys.length ≤ sizeLine) (q : K.nx (ρ1.set i (.la a xs))) :
    Sm (tAsg (tOp (rIxL KF) (tOp rCat (tVar j) te) ti) (gName i)) ρ K := fun c A σ H D R f dk => by
  obtain ⟨_, u, e, b, vs, eu, eb, l, ek⟩ := R.sl j _ h5
  subst eu
  refine ⟨_, e, he c A σ H _ R f fun b2 us A1 H1 R1 f1 S1 e1 du => ?_⟩
  refine ⟨b, b2, vs, us, rfl, rfl, vw_sub _ _ (S1 _ _ eb), e1, by rw [l, du.length]; exact len, fun p hp => ?_⟩
  have R2 := R1.land.up (Same.new (o := .lst (vs ++ us)) hp)
  refine hi c _ σ _ _ R2 aset_at fun w A3 H3 R3 f3 S3 o3 => ?_
  obtain rfl := int_v o3
  have ep : H3 p = some (.lst (vs ++ us)) := vw_sub _ _ (S3 _ _ (new_view R1.land hp upd_same))
  have lt : k < vs.length := (List.getElem?_eq_some_iff.mp ek).1
  have at' : (vs ++ us)[k]? = some (.ref a) := by rw [List.getElem?_append_left lt]; exact ek
  refine ⟨p, _, z, .ref a, rfl, rfl, SqL.of ep, ?_, dk.nx _ _ _ _ q (R3.fillA h6) f3⟩
  subst ez
  exact at_of rfl at'
/-! what is only looked at -/
def Pr (te : TE) (σ : L2.St) (H : Hp) (s : Sl) : Prop := ∀ H1, Same H H1 → ∀ Q : VK, (∀ v H2, Same H1 H2 → ArOk H2 v s → Q v H2) → te σ H1 Q
def Prs (ta : TA) (σ : L2.St) (H : Hp) (ss : List Sl) : Prop := ∀ H1, Same H H1 → ∀ Q : List V → Hp → Prop, (∀ vs H2, Same H1 H2 → ArAll H2 vs ss → Q vs H2) → ta σ H1 Q
theorem pr_var {v : V} (e : σ[i]? = some (some v)) (h : ArOk H v s) : Pr (tVar i) σ H s := fun H1 S Q q => ⟨v, e, q v H1 (Same.refl _) (h.mono S)⟩
theorem pr_c {v : V} (h : ∀ W, ArOk W v s) : Pr (tC v) σ H s := fun H1 S Q q => q v H1 (Same.refl _) (h _)
theorem prs_nil : Prs tNil σ H [] := fun H1 S Q q => q [] H1 (Same.refl _) trivial
theorem prs_cons (h : Pr te σ H s) (g : Prs tr σ H ss) : Prs (tCons te tr) σ H (s :: ss) := fun H1 S Q q => h H1 S _ fun v H2 S2 o => g H2 (S.trans S2) _ fun vs H3 S3 os => q _ H3 (S2.trans S3) ⟨o.mono S3, os⟩
theorem pr_fn {r : List V → Hp → VK → Prop} (h : Prs tr σ H ss) (g : FV r ss s) : Pr (tCB r tr) σ H s := fun H1 S Q q => h H1 S _ fun vs H2 S2 os => g H2 H2 vs Q (Same.refl _) os fun u H3 S3 o => q u H3 (S2.trans S3) (o H3 S3 fun _ _ _ e => e)
theorem pr_op {r : R2} {t : Sl} (h : Pr ta σ H s) (h' : Pr tb σ H s') (g : FV2 r s s' t) : Pr (tOp r ta tb) σ H t := fun H1 S Q q => h H1 S _ fun v H2 S2 o => h' H2 (S.trans S2) _ fun w H3 S3 o' => g H3 H3 v w Q (Same.refl _) (o.mono S3) o' fun u H4 S4 o2 => q u H4 ((S2.trans S3).trans S4) (o2 H4 S4 fun _ _ _ e => e)
theorem pr_pair {z : Str} (h : Pr te σ H (.d x)) : Pr (tTup (tCons (tC (.str z)) (tCons te tNil))) σ H (.d (.tuple [.str z, x])) := fun H1 S Q q => h H1 S _ fun v H2 S2 o => ⟨(by show 2 ≤ sizeLine; rw [sizeLine_eq]; decide), fun b hb => q _ _ (S2.trans (Same.new hb)) (.tup upd_same (.cons (.str _) (.one (Dn.mono (Same.new hb) o))))⟩
theorem et_pr {b : Bool} (h : ∀ (c : Fr) (A : Am) (σ : L2.St) (H : Hp), Rp c A ρ σ H → Pr te σ H (.d (.bool b))) : Et (tTest te) ρ b ρ := fun c A σ H Q R f q =>
  h c A σ H R H (Same.refl _) _ fun v H2 S o => ⟨b, bool_v o, q A H2 (R.up S) f (vw_up S)⟩
theorem et_prB {b : Bool} (h : ∀ (c : Fr) (A : Am) (σ : L2.St) (H : Hp), Rp c A ρ σ H → Pr te σ H (.d (.bool b))) : Et (tB te) ρ b ρ := fun c A σ H Q R f q =>
  h c A σ H R H (Same.refl _) _ fun v H2 S o => ⟨b, bool_v o, q A H2 (R.up S) f (vw_up S)⟩
/-- how such a list stands in the whole heap -/
theorem Rp.fullA (R : Rp c A ρ σ H) (h : ρ[i]? = some (.la a xs)) : σ[i]? = some (some (.ref a)) ∧ Dn H (.ref a) (.list xs) := by
  obtain ⟨vs, e, e1, e2, dx⟩ := R.sl i _ h
  exact ⟨e1, .lst e2 (DnAll.mono vw_sub dx)⟩
end
end OW
namespace KA
open PySem PySem.Spec PyProof.Rows L2
/-- a call of a def that is promised where nothing is being shown -/
theorem pe_callG {X : Cx} {k : Nat} {f : Addr} {fd : FuncData} {ps : List Str} {sp : Sp} {x : Str} {p pos : Pos} {e : Expr} {es : List Expr} {t : TA} (F : FnG X.prog X.w X.K X.mg X.base CX0 k f fd ps sp) (quiet : X.A.guards = some []) (room : Room k X.A) (glob : Gl X x) (is : X.mg x = some (.ref f))
    (kept : PySem.W.keepIn X.K (.ref f) = true) (bind : Binds X.K fd ps []) (args : PA X (e :: es) t) (nd : (x == ("__debug__" : Str)) = false := by decide) (st : starEach (e :: es) X.env = (false, eval e X.env) :: starEach es X.env := by rfl) (plain : (backTo pos (starEach es X.env)).any (·.1) = false := by rfl) :
    PE X (.Call (.Name x p) (e :: es) [] pos) (tCall sp [] C8.E0 t) := by
  refine ⟨fun pins s σ H Q I want => ?_⟩
  refine wpAny_Call_Name_kw (ld_glob I glob is ?_ nd)
  refine PySem.W.callWith_K (h₀ := X.base) I.ok.mod.kin kept (thn (args.run pos pins s σ H _ I want) ?_) st plain
  rintro us t1 ⟨vs, G, J, rv, q⟩
  rw [List.append_nil] at q
  have many : us.length = ps.length := by rw [← rv.length]; exact F.len _ _ _ _ q
  have bt := bind t1 us J.kIn (by rw [List.append_nil]; exact many)
  rw [List.append_nil] at bt
  refine ⟨J.kIn, wpAny_call (codeAny_mono (F.run X.A X.stack t1 G ⟨us, []⟩ us vs Q _ quiet room J.env0 bt rv q) fun r t2 z => ?_)⟩
  cases r with
  | error er => exact False.elim z
  | ok fl =>
    cases fl with
    | ret u => exact J.after z
    | next => exact False.elim z
    | brk => exact False.elim z
    | cont => exact False.elim z
end KA
namespace OW
open PySem PySem.Spec PyProof.Rows L2 KA
variable [Tbs]
section
variable {P : Program} {w : World} {K : PySem.W.Frag} {mg : Str → Option Value} {base : Heap}
theorem fn_bG {x qual : Str} {st : Stmt} {f : Addr} {fd : FuncData} {N ps : List Str} {k n : Nat} {T : List PyData → List Sl → (Rv → List PyData → Prop) → Prop} (F : Fun K x qual st f fd) (S : FnScope N ps (defScope st)) (hn : ps.length = n + 1 := by rfl) (hN : n + 1 + N.length < fl := by decide)
    (body : ∀ (cdv : Value) (A : Around) (outer : List Env) (s : Shared) (H : Hp) (E : XK), A.guards = some [] → Room k (A.deeper (envOfC qual (defScope st) s.heap.objs.size f cdv)) →
      ∃ t, PSs (cxOf CX0 P w K mg base N qual (defScope st) f cdv A outer s H E) (defBody st) t ∧ ∀ ct as Kr, as.length = n → T ct as Kr →
        Sm t (.l ct :: (as ++ uns (N.length - (n + 1)))) { nx := fun ρ => ∃ c', ρ[0]? = some (.l c') ∧ Kr (.d .none) c', rt := fun r ρ => ∃ c', ρ[0]? = some (.l c') ∧ Kr r c' }) :
    FnG P w K mg base CX0 (k + 1) f fd ps (spB n T) := by
  refine fnG F S (fun vs H Q E h => ?_) (fun cdv A outer s H vs Q E g hr h => ?_)
  · obtain ⟨Z, p, cs, ct, ws, as, Kr, rfl, hp, hZ, ep, dc, ha, hl, _⟩ := h
    rw [List.length_cons, ha.length, hl, hn]
  · obtain ⟨Z, p, cs, ct, ws, as, Kr, rfl, hp, hZ, ep, dc, ha, hl, hT, go⟩ := h
    obtain ⟨t, ht, hb⟩ := body cdv A outer s H E g hr
    refine ⟨t, ht, hb ct as Kr hl hT ⟨fun a => Z a ∧ a ≠ p, some p, H, hz Z H⟩ _ _ H _ (rp_startB hN hp hZ ep dc ha hl) rfl ?_⟩
    have fin : ∀ {A' : Am} {ρ' : List Sl} {σ' : L2.St} {H' : Hp} {c' : List PyData} {r : Rv} {v : V}, Rp ⟨fun a => Z a ∧ a ≠ p, some p, H, hz Z H⟩ A' ρ' σ' H' → ρ'[0]? = some (.l c') → Kr r c' → RvAt ⟨fun a => Z a ∧ a ≠ p, some p, H, hz Z H⟩ A' H' v r → Q v H' := by
      intro A' ρ' σ' H' c' r v R h0 hk o
      obtain ⟨a, cs', e1, e2, e3, dc'⟩ := R.sl 0 _ h0
      have := R.bor p rfl
      rw [e1] at this
      cases this
      have up : Same (vw (fun b => Z b ∧ b ≠ p) A' H') (hz Z H') := fun b u e => by
        obtain ⟨h1, h2, h3⟩ := vw_some e
        refine hz_mk (fun z => h1 ⟨z, fun q => h2 0 (by rw [q]; exact e1)⟩) h3
      refine go r c' cs' v H' hk e3 (DnAll.mono up dc') ⟨fun b z n t => (R.keep b ⟨z, n⟩ t).2, R.tb.mono up fun _ _ => rfl⟩ (fun b u e => up _ _ (R.old _ _ e)) ?_
      refine rv_out (fun b u e nz _ => R.old _ _ (hz_mk nz e)) (fun b z => ?_) R.inj R.off R.bor o
      by_cases q : b = p
      · exact Or.inr ⟨0, by decide, by rw [q]; exact e1⟩
      · exact Or.inl ⟨z, q⟩
    refine ⟨fun ρ' A' σ' H' hk R f => ?_, fun r ρ' v A' σ' H' hk R o => ?_, fun _ _ _ _ h => h.elim, fun _ _ _ _ h => h.elim⟩
    · obtain ⟨c', h0, hk⟩ := hk
      exact fin R h0 hk ⟨f, .non⟩
    · obtain ⟨c', h0, hk⟩ := hk
      exact fin R h0 hk o
end
end OW
set_option Elab.async false
set_option linter.unusedVariables false
set_option linter.unusedSectionVars false
set_option maxRecDepth 100000
set_option maxHeartbeats 1000000
namespace OW
open PySem PySem.Spec PyProof.Rows L2 KA
variable [Tbs]
/-! ### words put into one text; a text with a piece of it put otherwise -/
section
variable {P : Program} {w : World} {K : PySem.W.Frag} {mg : Str → Option Value} {base : Heap}
/-- a told def in whose body a token is out -/
theorem fn_dT {x qual : Str} {st : Stmt} {f : Addr} {fd : FuncData} {N ps : List Str} {k n : Nat} {T : List Sl → (Rv → Prop) → Prop} (F : Fun K x qual st f fd) (S : FnScope N ps (defScope st)) (hnc : ∀ y ∈ (defScope st).names, y.2 ≠ .cell) (h1 : 1 ≤ ps.length) (hn : ps.length = n := by rfl) (hN : n + N.length < fl := by decide)
    (body : ∀ (cdv : Value) (A : Around) (outer : List Env) (s : Shared) (H : Hp) (E : XK), Room k (A.deeper (envOfC qual (defScope st) s.heap.objs.size f cdv)) →
      ∃ t, PSsT (cxOf CX0 P w K mg base N qual (defScope st) f cdv A outer s H E) (defBody st) t ∧ ∀ as Kr, as.length = n → T as Kr → Sm t (as ++ uns (N.length - n)) { nx := fun _ => Kr (.d .none), rt := fun r _ => Kr r }) :
    FnOk P w K mg base CX0 (k + 1) f fd ps (spD n T) := by
  obtain ⟨oc, od, kV, doc, pm, an, cdv, ct, osl, rfl, lk, hcd⟩ := F.ex
  refine fn_ofT lk hcd S hnc h1 (fun vs H Q E h => ?_) (fun A outer s H vs Q E hr h => ?_)
  · obtain ⟨Z, as, Kr, hZ, ha, hl, _⟩ := h
    rw [ha.length, hl, hn]
  · obtain ⟨Z, as, Kr, hZ, ha, hl, hT, go⟩ := h
    obtain ⟨t, ht, hb⟩ := body _ A outer s H E hr
    refine ⟨t, ht, hb as Kr hl hT ⟨Z, none, H, hz Z H⟩ _ _ H _ (rp_start hN hZ ha hl) rfl ?_⟩
    have same : ∀ {A' : Am} {ρ' : List Sl} {σ' : L2.St} {H' : Hp}, Rp ⟨Z, none, H, hz Z H⟩ A' ρ' σ' H' → Aft Z H H' := rp_aft
    refine ⟨fun ρ' A' σ' H' hk R f => go _ _ _ hk (same R) .non, fun r ρ' v A' σ' H' hk R o => go r v H' hk (same R) ?_, fun _ _ _ _ h => h.elim, fun _ _ _ _ h => h.elim⟩
    exact rv_out (fun b o e nz _ => R.old _ _ (hz_mk nz e)) (fun b z => Or.inl z) R.inj R.off R.bor o
end
/-- data in a list of data -/
def rInD : R2 := fun x y H Q => ∃ d xs, Dn H x d ∧ Dn H y (.list xs) ∧ PyData.canLayAll0 xs = true ∧ d.canLay0 = true ∧ min (PyData.depthAll xs) d.depth ≤ 50 ∧ Q (.bl (xs.any fun e => PyData.eqv e d)) H
theorem op_inD {X : Cx} (hu : X.A.units + 64 < cLine) : OpR X (compareOp .In) rInD := by
  intro pins s σ H x y v u Q I rx ry h
  obtain ⟨d, xs, hd, hx, sx, sd, mn, q⟩ := h
  obtain ⟨as, ra⟩ := Dn.reads I.hok hd rx
  obtain ⟨bs, rb⟩ := Dn.reads I.hok hx ry
  exact SeqAt.in_list_reads rb ra sx sd (by omega) ⟨.bl _, H, I, rfl, q⟩
theorem fv_inD {x : PyData} {xs : List PyData} (h1 : PyData.canLayAll0 xs = true) (h2 : x.canLay0 = true) (h3 : min (PyData.depthAll xs) x.depth ≤ 50) : FV2 rInD (.d x) (.d (.list xs)) (.d (.bool (xs.any fun e => PyData.eqv e x))) := fv2_s (dB (xs.any fun e => PyData.eqv e x)) fun W H v w Q S o o' q => ⟨x, xs, Dn.mono S o, Dn.mono S o', h1, h2, h3, q⟩
section
variable {ρ ρ' ρ1 ρ2 : List Sl} {to : TE}
theorem ev_repl {x y z : Str} (h : Ev to ρ (.d (.str x)) ρ') (l : x.length + (x.length + 1) * z.length ≤ 16777216) : Ev (CwR.tReplC to y z) ρ (.d (.str (Txt.replace x y z))) ρ' := fun c A σ H Q R f q =>
  h c A σ H _ R f fun v A1 H1 R1 f1 S1 o1 => by
    obtain rfl := str_v o1
    exact ⟨x, rfl, l, q _ A1 H1 R1 f1 S1 (.str _)⟩
/-- a written text of parts -/
theorem ev_fmtI {t : TE} {i : Int} (h : Ev t ρ (.d (.int i)) ρ') (l : i.natAbs.log2 < 1920) : Ev (tFmt t) ρ (.d (.str (toString i))) ρ' := fun c A σ H Q R f q =>
  h c A σ H _ R f fun v A1 H1 R1 f1 S1 o1 => by
    obtain rfl := int_v o1
    exact Or.inr ⟨i, rfl, l, q _ A1 H1 R1 f1 S1 (.str _)⟩
theorem ev_fmtS {t : TE} {y : Str} (h : Ev t ρ (.d (.str y)) ρ') (l : y.length ≤ sizeLine) : Ev (tFmt t) ρ (.d (.str y)) ρ' := fun c A σ H Q R f q =>
  h c A σ H _ R f fun v A1 H1 R1 f1 S1 o1 => by
    obtain rfl := str_v o1
    exact Or.inl ⟨y, rfl, l, q _ A1 H1 R1 f1 S1 (.str _)⟩
/-- an owned list grows by a new one -/
theorem sm_extL {te : TE} {k : Nat} {KF : PySem.W.Frag} {K : KK} {zs xs ys : List PyData} (h0 : ρ[k]? = some (.l zs)) (h : El te ρ ys ρ1) (h1 : ρ1[k]? = some (.l xs)) (len : xs.length + ys.length ≤ sizeLine) (q : K.nx (ρ1.set k (.l (xs ++ ys)))) (ne : k ≠ fl := by decide) : Sm (tDrop (tBM KF "list" rExtend (tVar k) (tCons te tNil))) ρ K := fun c A σ H D R f dk => by
  obtain ⟨a, vs0, _, e1, e2, _⟩ := R.sl k _ h0
  refine ⟨_, e1, Or.inl ⟨rfl, vs0, SqL.of e2⟩, h c A σ H _ R f fun p us A1 H1 R1 f1 S1 g1 d1 => ?_⟩
  obtain ⟨b, vs, ea, e3, e4, dx⟩ := R1.sl k _ h1
  rw [e1] at e3
  cases e3
  exact ⟨a, p, vs, us, rfl, rfl, e4, g1, by rw [dx.length, d1.length]; exact len, dk.nx _ _ _ _ q (R1.mut h1 ea (dx.append d1)).land aset_at⟩
def Js (ts : List TE) (acc : Str) (ρ : List Sl) (out : Str) (ρ' : List Sl) : Prop := Ev (fun σ H Q => tJs ts acc σ H fun out H1 => Q (.str out) H1) ρ (.d (.str out)) ρ'
theorem js_nil {acc : Str} : Js [] acc ρ acc ρ := fun c A σ H Q R f q => q _ A H R f (Same.refl _) (.str _)
theorem js_cons {t : TE} {ts : List TE} {acc y out : Str} (h : Ev t ρ (.d (.str y)) ρ1) (l : (acc ++ y).length ≤ sizeLine) (g : Js ts (acc ++ y) ρ1 out ρ2) : Js (t :: ts) acc ρ out ρ2 := fun c A σ H Q R f q =>
  h c A σ H _ R f fun v A1 H1 R1 f1 S1 o1 => by
    obtain rfl := str_v o1
    exact ⟨y, rfl, l, g c A1 σ H1 _ R1 f1 fun u A2 H2 R2 f2 S2 o2 => q u A2 H2 R2 f2 (S1.trans S2) o2⟩
end
end OW
namespace GL
open PySem PySem.StrLaws
/-! ### words with one sign between them, and none within brackets -/
/-- put together with a blank between -/
def jn : List (List Nat) → List Nat
  | [] => []
  | [w] => w
  | w :: v :: r => w ++ 32 :: jn (v :: r)
def j1 : List (List Nat) → List Nat
  | [] => []
  | [w] => w
  | w :: v :: r => w ++ ((if w = [40] then [] else [32]) ++ j1 (v :: r))
def gl : List (List Nat) → List Nat
  | [] => []
  | [w] => w
  | w :: v :: r => w ++ ((if w = [40] ∨ v = [41] then [] else [32]) ++ gl (v :: r))
def plain (c : Nat) : Bool := c != 32 && c != 40 && c != 41
def good (w : List Nat) : Bool := decide (w = [40]) || decide (w = [41]) || (!w.isEmpty && w.all plain)
theorem repl_clean {y z : List Nat} {d : Nat} {y' : List Nat} (e : y = d :: y') : ∀ (u r : List Nat), (∀ c ∈ u, c ≠ d) → replL y z (u ++ r) = u ++ replL y z r
  | [], r, _ => rfl
  | c :: u, r, h => by
    have hc := h c List.mem_cons_self
    have ih := repl_clean (z := z) e u r fun x hx => h x (List.mem_cons_of_mem _ hx)
    rw [List.cons_append, replL_miss (fun q => ?_), ih, List.cons_append]
    rw [e, List.length_cons, List.take_succ_cons] at q
    injection q with q _
    exact hc q
theorem good_cases {w : List Nat} (h : good w = true) : w = [40] ∨ w = [41] ∨ (w ≠ [] ∧ ∀ c ∈ w, c ≠ 32 ∧ c ≠ 40 ∧ c ≠ 41) := by
  unfold good at h
  rw [Bool.or_eq_true, Bool.or_eq_true, Bool.and_eq_true] at h
  rcases h with (h | h) | h
  · exact Or.inl (of_decide_eq_true h)
  · exact Or.inr (Or.inl (of_decide_eq_true h))
  · refine Or.inr (Or.inr ⟨fun e => by rw [e] at h; exact absurd h.1 (by decide), fun c hc => ?_⟩)
    have := List.all_eq_true.mp h.2 c hc
    unfold plain at this
    simp only [Bool.and_eq_true, bne_iff_ne, ne_eq] at this
    exact ⟨this.1.1, this.1.2, this.2⟩
theorem good_no40 {w : List Nat} (h : good w = true) (n : w ≠ [40]) : ∀ c ∈ w, c ≠ 40 := by
  rcases good_cases h with e | e | ⟨_, g⟩
  · exact absurd e n
  · rw [e]
    intro c hc
    rw [List.mem_singleton.mp hc]
    decide
  · exact fun c hc => (g c hc).2.1
theorem good_no32 {w : List Nat} (h : good w = true) : ∀ c ∈ w, c ≠ 32 := by
  rcases good_cases h with e | e | ⟨_, g⟩
  · rw [e]
    intro c hc
    rw [List.mem_singleton.mp hc]
    decide
  · rw [e]
    intro c hc
    rw [List.mem_singleton.mp hc]
    decide
  · exact fun c hc => (g c hc).1
theorem repl1 : ∀ ws : List (List Nat), ws.all good = true → replL [40, 32] [40] (jn ws) = j1 ws
  | [], _ => replL_nil
  | [w], h => by
    have g : good w = true := by simpa using h
    show replL [40, 32] [40] w = w
    by_cases e : w = [40]
    · rw [e, replL_miss (by decide), replL_nil]
    · have := repl_clean (y := [40, 32]) (z := [40]) rfl w [] (good_no40 g e)
      rw [List.append_nil, replL_nil, List.append_nil] at this
      exact this
  | w :: v :: r, h => by
    have g : good w = true := by
      rw [List.all_cons, Bool.and_eq_true] at h
      exact h.1
    have ih := repl1 (v :: r) (by
      rw [List.all_cons, Bool.and_eq_true] at h
      exact h.2)
    show replL [40, 32] [40] (w ++ 32 :: jn (v :: r)) = w ++ ((if w = [40] then [] else [32]) ++ j1 (v :: r))
    by_cases e : w = [40]
    · rw [if_pos e, e, List.cons_append, List.nil_append, replL_hit (by decide) (by rfl)]
      show [40] ++ replL [40, 32] [40] (jn (v :: r)) = _
      rw [ih]
      rfl
    · rw [if_neg e, repl_clean rfl w _ (good_no40 g e), ← ih]
      have := repl_clean (y := [40, 32]) (z := [40]) rfl [32] (jn (v :: r)) (fun c hc => by rw [List.mem_singleton.mp hc]; decide)
      exact congrArg (w ++ ·) this
theorem j1_head : ∀ (v : List Nat) (r : List (List Nat)), ∃ s, j1 (v :: r) = v ++ s
  | v, [] => ⟨[], (List.append_nil _).symm⟩
  | v, u :: r => ⟨_, rfl⟩
theorem repl2 : ∀ ws : List (List Nat), ws.all good = true → replL [32, 41] [41] (j1 ws) = gl ws
  | [], _ => replL_nil
  | [w], h => by
    have g : good w = true := by simpa using h
    have := repl_clean (y := [32, 41]) (z := [41]) rfl w [] (good_no32 g)
    rw [List.append_nil, replL_nil, List.append_nil] at this
    exact this
  | w :: v :: r, h => by
    have g : good w = true ∧ good v = true := by
      rw [List.all_cons, Bool.and_eq_true, List.all_cons, Bool.and_eq_true] at h
      exact ⟨h.1, h.2.1⟩
    have ih := repl2 (v :: r) (by
      rw [List.all_cons, Bool.and_eq_true] at h
      exact h.2)
    show replL [32, 41] [41] (w ++ ((if w = [40] then [] else [32]) ++ j1 (v :: r))) = w ++ ((if w = [40] ∨ v = [41] then [] else [32]) ++ gl (v :: r))
    rw [repl_clean rfl w _ (good_no32 g.1)]
    congr 1
    by_cases e : w = [40]
    · rw [if_pos e, if_pos (Or.inl e), List.nil_append, List.nil_append, ih]
    · rw [if_neg e]
      obtain ⟨s, es⟩ := j1_head v r
      by_cases e2 : v = [41]
      · rw [if_pos (Or.inr e2), List.nil_append, ← ih, es, e2]
        show replL [32, 41] [41] (32 :: 41 :: s) = replL [32, 41] [41] (41 :: s)
        rw [replL_hit (by decide) (by rfl), replL_miss (c := 41) (by rw [List.length_cons, List.take_succ_cons]; intro q; injection q with q _; exact absurd q (by decide))]
        rfl
      · rw [if_neg (fun o => o.elim e e2), List.cons_append, List.nil_append, replL_miss (fun q => ?_), ih]
        · rfl
        · rw [es] at q
          rcases good_cases g.2 with e3 | e3 | ⟨n, gv⟩
          · rw [e3] at q
            exact absurd q (by rw [List.length_cons, List.cons_append, List.take_succ_cons, List.length_cons, List.take_succ_cons]; intro z; injection z with _ z; injection z with z _; exact absurd z (by decide))
          · exact e2 e3
          · cases v with
            | nil => exact n rfl
            | cons c v =>
              have := (gv c List.mem_cons_self).2.2
              rw [List.length_cons, List.cons_append, List.take_succ_cons, List.length_cons, List.take_succ_cons] at q
              injection q with _ q
              injection q with q _
              exact this q
/-- two rows of words, a blank between them -/
theorem gl_app : ∀ (us : List (List Nat)) (v : List Nat) (r : List (List Nat)), us ≠ [] → us.getLast? ≠ some [40] → v ≠ [41] → gl (us ++ v :: r) = gl us ++ 32 :: gl (v :: r)
  | [], _, _, h, _, _ => absurd rfl h
  | [u], v, r, _, h, g => by
    show u ++ ((if u = [40] ∨ v = [41] then [] else [32]) ++ gl (v :: r)) = u ++ 32 :: gl (v :: r)
    rw [if_neg (fun o => o.elim (fun e => h (by rw [e]; rfl)) g)]
    rfl
  | u :: u' :: us, v, r, _, h, g => by
    have ih := gl_app (u' :: us) v r (by simp) (by rw [List.getLast?_cons_cons] at h; exact h) g
    show u ++ ((if u = [40] ∨ u' = [41] then [] else [32]) ++ gl (u' :: us ++ v :: r)) = u ++ ((if u = [40] ∨ u' = [41] then [] else [32]) ++ gl (u' :: us)) ++ 32 :: gl (v :: r)
    rw [ih]
    simp only [List.append_assoc]
/-- in brackets -/
theorem gl_close : ∀ (us : List (List Nat)), us ≠ [] → gl (us ++ [[41]]) = gl us ++ [41]
  | [], h => absurd rfl h
  | [u], _ => by
    show u ++ ((if u = [40] ∨ ([41] : List Nat) = [41] then [] else [32]) ++ [41]) = u ++ [41]
    rw [if_pos (Or.inr rfl)]
    rfl
  | u :: u' :: us, _ => by
    have ih := gl_close (u' :: us) (by simp)
    show u ++ ((if u = [40] ∨ u' = [41] then [] else [32]) ++ gl (u' :: us ++ [[41]])) = u ++ ((if u = [40] ∨ u' = [41] then [] else [32]) ++ gl (u' :: us)) ++ [41]
    rw [ih]
    simp only [List.append_assoc]
theorem gl_open (us : List (List Nat)) (h : us ≠ []) : gl ([40] :: us) = 40 :: gl us := by
  cases us with
  | nil => exact absurd rfl h
  | cons u us =>
    show [40] ++ ((if ([40] : List Nat) = [40] ∨ u = [41] then [] else [32]) ++ gl (u :: us)) = _
    rw [if_pos (Or.inl rfl)]
    rfl
theorem gl_par (us : List (List Nat)) (h : us ≠ []) : gl ([40] :: (us ++ [[41]])) = 40 :: (gl us ++ [41]) := by
  rw [gl_open _ (by simp [h]), gl_close us h]
theorem join_jn : ∀ (p : Str) (r : List Str), (Txt.join " " (p :: r)).cps.toList = jn ((p :: r).map fun s => s.cps.toList) := by
  have sp : (" " : Str).cps.toList = [32] := by decide +kernel
  have : ∀ (p : Str) (r : List Str), p.cps.toList ++ glueL [32] r = jn ((p :: r).map fun s => s.cps.toList) := by
    intro p r
    induction r generalizing p with
    | nil => exact List.append_nil _
    | cons q r ih =>
      show p.cps.toList ++ ([32] ++ (q.cps.toList ++ glueL [32] r)) = p.cps.toList ++ 32 :: jn ((q :: r).map fun s => s.cps.toList)
      rw [ih]
      rfl
  intro p r
  have h := glued_list " " p r
  rw [sp] at h
  exact h.trans (this p r)
def glS (ws : List Str) : Str := ⟨(gl (ws.map fun s => s.cps.toList)).toArray⟩
theorem text_is {p : Str} {r : List Str} (h : ((p :: r).map fun s => s.cps.toList).all good = true) : Txt.replace (Txt.replace (Txt.join " " (p :: r)) "( " "(") " )" ")" = glS (p :: r) := by
  have a1 : ("( " : Str).cps.toList = [40, 32] := by decide +kernel
  have a2 : ("(" : Str).cps.toList = [40] := by decide +kernel
  have a3 : (" )" : Str).cps.toList = [32, 41] := by decide +kernel
  have a4 : (")" : Str).cps.toList = [41] := by decide +kernel
  have e1 := replace_list (x := Txt.join " " (p :: r)) (y := "( ") (z := "(") (by decide +kernel)
  rw [a1, a2, join_jn, repl1 _ h] at e1
  have e2 := replace_list (x := Txt.replace (Txt.join " " (p :: r)) "( " "(") (y := " )") (z := ")") (by decide +kernel)
  rw [a3, a4, e1, repl2 _ h] at e2
  refine Str.ext' (Array.ext' ?_)
  rw [e2]
  rfl
end GL
set_option Elab.async false
set_option linter.unusedVariables false
set_option linter.unusedSectionVars false
set_option maxRecDepth 100000
set_option maxHeartbeats 1000000
namespace KP
open PySem PySem.Spec PyProof.Rows L2 KA OW
/-! ### terms as they are drawn -/
inductive Lf where
  | kind (n : Nat)
  | name (s : Str)
  | thing (s : Str)
  | maker (s : Str) (n : Nat)
  | eater (s : Str) (n : Nat)
def Lf.wd : Lf → Str
  | .kind _ => "kind"
  | .name _ => "name"
  | .thing _ => "thing"
  | .maker _ _ => "maker"
  | .eater _ _ => "eater"
def Lf.d : Lf → PyData
  | .kind n => .tuple [.str "kind", .int (n : Int)]
  | .name s => .tuple [.str "name", .str s]
  | .thing s => .tuple [.str "thing", .str s]
  | .maker s n => .tuple [.str "maker", .str s, .int (n : Int)]
  | .eater s n => .tuple [.str "eater", .str s, .int (n : Int)]
abbrev numS (n : Nat) : Str := ((toString (n : Int) : String) : Str)
def Lf.w : Lf → Str
  | .kind n => "*" ++ numS n
  | .name s => "@" ++ s
  | .thing s => s
  | .maker s n => s ++ "#" ++ numS n
  | .eater s n => s ++ "!" ++ numS n
def Lf.ok : Lf → Bool
  | .kind n => decide (n ≤ 5)
  | .name s => nameX s
  | .thing s => nameX s
  | .maker s n => nameX s && decide (n ≤ 10 ^ 29)
  | .eater s n => nameX s && decide (n ≤ 5)
inductive Tm where
  | at_ (n : Nat)
  | lf (l : Lf)
  | all (a b : Tm)
  | fn (a b : Tm)
  | app (a b : Tm)
  | self (a b : Tm)
  | tri (k : Bool) (a b c : Tm)
def triW (k : Bool) : Str := if k = true then "put" else "same"
def Tm.d : Tm → PyData
  | .at_ n => .tuple [.str "at", .int (n : Int)]
  | .lf l => l.d
  | .all a b => .tuple [.str "all", a.d, b.d]
  | .fn a b => .tuple [.str "fun", a.d, b.d]
  | .app a b => .tuple [.str "app", a.d, b.d]
  | .self a b => .tuple [.str "self", a.d, b.d]
  | .tri k a b c => .tuple [.str (triW k), a.d, b.d, c.d]
def Tm.ok : Tm → Bool
  | .at_ n => decide (n ≤ 100000)
  | .lf l => l.ok
  | .all a b | .fn a b | .app a b | .self a b => a.ok && b.ok
  | .tri _ a b c => a.ok && b.ok && c.ok
/-- how many parts -/
def Tm.sz : Tm → Nat
  | .at_ _ | .lf _ => 1
  | .all a b | .fn a b | .app a b | .self a b => a.sz + b.sz + 1
  | .tri _ a b c => a.sz + b.sz + c.sz + 1
def Tm.lv : Tm → Nat
  | .at_ _ | .lf _ => 0
  | .app _ _ => 1
  | .self _ _ | .tri _ _ _ _ => 2
  | .all _ _ | .fn _ _ => 3
/-- places free beyond u binders, as they come -/
def fr (u : Nat) : Tm → List Nat
  | .at_ n => if u ≤ n then [n - u] else []
  | .lf _ => []
  | .all a b | .fn a b => fr u a ++ fr (u + 1) b
  | .app a b | .self a b => fr u a ++ fr u b
  | .tri _ a b c => fr u a ++ (fr u b ++ fr u c)
theorem fr_shift : ∀ (t : Tm) (u v i : Nat), i ∈ fr (u + v) t ↔ i + u ∈ fr v t
  | .at_ n, u, v, i => by
    unfold fr
    by_cases h : u + v ≤ n
    · rw [if_pos h, if_pos (by omega), List.mem_singleton, List.mem_singleton]
      omega
    · rw [if_neg h]
      by_cases h2 : v ≤ n
      · rw [if_pos h2, List.mem_singleton]
        constructor
        · intro z; cases z
        · omega
      · rw [if_neg h2]
        constructor <;> intro z <;> cases z
  | .lf _, u, v, i => by
    unfold fr
    constructor <;> intro z <;> cases z
  | .all a b, u, v, i | .fn a b, u, v, i => by
    have h1 := fr_shift a u v i
    have h2 := fr_shift b u (v + 1) i
    unfold fr
    rw [List.mem_append, List.mem_append, h1, ← h2, Nat.add_assoc]
  | .app a b, u, v, i | .self a b, u, v, i => by
    have h1 := fr_shift a u v i
    have h2 := fr_shift b u v i
    unfold fr
    rw [List.mem_append, List.mem_append, h1, h2]
  | .tri _ a b c, u, v, i => by
    have h1 := fr_shift a u v i
    have h2 := fr_shift b u v i
    have h3 := fr_shift c u v i
    unfold fr
    rw [List.mem_append, List.mem_append, List.mem_append, List.mem_append, h1, h2, h3]
theorem fr_one {t : Tm} {i : Nat} : i ∈ fr 1 t ↔ i + 1 ∈ fr 0 t := fr_shift t 1 0 i
def cnt (ar : List Bool) : Nat := ar.count true
/-- where the names that aren't there are left out -/
def st (ar : List Bool) : Tm → Tm
  | .at_ n => .at_ (cnt (ar.take n))
  | .lf l => .lf l
  | .all a b => .all (st ar a) (st (true :: ar) b)
  | .fn a b => .fn (st ar a) (st (true :: ar) b)
  | .app a b => .app (st ar a) (st ar b)
  | .self a b => .self (st ar a) (st ar b)
  | .tri k a b c => .tri k (st ar a) (st ar b) (st ar c)
/-- one place lower, where that place isn't free -/
def lw (k : Nat) : Tm → Option Tm
  | .at_ n => if n = k then none else some (.at_ (if k < n then n - 1 else n))
  | .lf l => some (.lf l)
  | .all a b => match lw k a, lw (k + 1) b with
    | some x, some y => some (.all x y)
    | _, _ => none
  | .fn a b => match lw k a, lw (k + 1) b with
    | some x, some y => some (.fn x y)
    | _, _ => none
  | .app a b => match lw k a, lw k b with
    | some x, some y => some (.app x y)
    | _, _ => none
  | .self a b => match lw k a, lw k b with
    | some x, some y => some (.self x y)
    | _, _ => none
  | .tri q a b c => match lw k a, lw k b, lw k c with
    | some x, some y, some z => some (.tri q x y z)
    | _, _, _ => none
theorem cnt_rep (k : Nat) : cnt (List.replicate k true) = k := by
  unfold cnt
  rw [List.count_replicate_self]
theorem cnt_app (a b : List Bool) : cnt (a ++ b) = cnt a + cnt b := List.count_append
theorem lw_st : ∀ (t : Tm) (k : Nat) (ar : List Bool), lw k (st (List.replicate k true ++ true :: ar) t) = if k ∈ fr 0 t then none else some (st (List.replicate k true ++ false :: ar) t)
  | .at_ n, k, ar => by
    have tk : ∀ b : Bool, cnt ((List.replicate k true ++ b :: ar).take n) = if n ≤ k then n else k + (cnt [b] + cnt (ar.take (n - k - 1))) := fun b => by
      rw [List.take_append, cnt_app, List.take_replicate, cnt_rep, List.length_replicate]
      split
      · rename_i h
        rw [show n - k = 0 by omega, List.take_zero, Nat.min_eq_left h]
        rfl
      · rename_i h
        rw [Nat.min_eq_right (by omega)]
        obtain ⟨m, e⟩ : ∃ m, n - k = m + 1 := ⟨n - k - 1, by omega⟩
        rw [e, List.take_succ_cons, show m + 1 - 1 = m by omega, ← cnt_app]
        rfl
    show (if cnt ((List.replicate k true ++ true :: ar).take n) = k then none else some (Tm.at_ (if k < cnt ((List.replicate k true ++ true :: ar).take n) then cnt ((List.replicate k true ++ true :: ar).take n) - 1 else cnt ((List.replicate k true ++ true :: ar).take n)))) = if k ∈ (if 0 ≤ n then [n - 0] else []) then none else some (Tm.at_ (cnt ((List.replicate k true ++ false :: ar).take n)))
    rw [tk, tk, if_pos (Nat.zero_le n)]
    have mm : k ∈ [n - 0] ↔ k = n := by rw [List.mem_singleton, Nat.sub_zero]
    have c1 : cnt [true] = 1 := rfl
    have c0 : cnt [false] = 0 := rfl
    rw [c1, c0]
    by_cases h : n ≤ k
    · rw [if_pos h, if_pos h]
      by_cases h2 : n = k
      · rw [if_pos h2, if_pos (mm.mpr h2.symm)]
      · rw [if_neg h2, if_neg (by omega), if_neg (fun z => h2 (mm.mp z).symm)]
    · rw [if_neg h, if_neg h, if_neg (by omega), if_pos (by omega), if_neg (fun z => by have := mm.mp z; omega), show k + (1 + cnt (ar.take (n - k - 1))) - 1 = k + (0 + cnt (ar.take (n - k - 1))) by omega]
  | .lf l, k, ar => by
    show some (Tm.lf l) = if k ∈ ([] : List Nat) then none else some (Tm.lf l)
    rw [if_neg (by intro z; cases z)]
  | .all a b, k, ar | .fn a b, k, ar => by
    have h1 := lw_st a k ar
    have h2 := lw_st b (k + 1) ar
    have e : ∀ x : Bool, List.replicate (k + 1) true ++ x :: ar = true :: (List.replicate k true ++ x :: ar) := fun x => by rw [List.replicate_succ, List.cons_append]
    rw [e, e] at h2
    unfold st lw
    rw [h1, h2]
    have m : k + 1 ∈ fr 0 b ↔ k ∈ fr (0 + 1) b := fr_one.symm
    by_cases c1 : k ∈ fr 0 a
    · rw [if_pos c1]
      exact (if_pos (List.mem_append.mpr (Or.inl c1))).symm
    · rw [if_neg c1]
      by_cases c2 : k ∈ fr (0 + 1) b
      · rw [if_pos (m.mpr c2)]
        exact (if_pos (List.mem_append.mpr (Or.inr c2))).symm
      · rw [if_neg (fun z => c2 (m.mp z))]
        exact (if_neg (fun z => (List.mem_append.mp z).elim c1 c2)).symm
  | .app a b, k, ar | .self a b, k, ar => by
    have h1 := lw_st a k ar
    have h2 := lw_st b k ar
    unfold st lw
    rw [h1, h2]
    by_cases c1 : k ∈ fr 0 a
    · rw [if_pos c1]
      exact (if_pos (List.mem_append.mpr (Or.inl c1))).symm
    · rw [if_neg c1]
      by_cases c2 : k ∈ fr 0 b
      · rw [if_pos c2]
        exact (if_pos (List.mem_append.mpr (Or.inr c2))).symm
      · rw [if_neg c2]
        exact (if_neg (fun z => (List.mem_append.mp z).elim c1 c2)).symm
  | .tri q a b c, k, ar => by
    have h1 := lw_st a k ar
    have h2 := lw_st b k ar
    have h3 := lw_st c k ar
    unfold st lw
    rw [h1, h2, h3]
    by_cases c1 : k ∈ fr 0 a
    · rw [if_pos c1]
      exact (if_pos (List.mem_append.mpr (Or.inl c1))).symm
    · rw [if_neg c1]
      by_cases c2 : k ∈ fr 0 b
      · rw [if_pos c2]
        exact (if_pos (List.mem_append.mpr (Or.inr (List.mem_append.mpr (Or.inl c2))))).symm
      · rw [if_neg c2]
        by_cases c3 : k ∈ fr 0 c
        · rw [if_pos c3]
          exact (if_pos (List.mem_append.mpr (Or.inr (List.mem_append.mpr (Or.inr c3))))).symm
        · rw [if_neg c3]
          exact (if_neg (fun z => (List.mem_append.mp z).elim c1 fun z => (List.mem_append.mp z).elim c2 c3)).symm
/-- the free places have names -/
def Cl (ar : List Bool) (t : Tm) : Prop := ∀ i ∈ fr 0 t, ar[i]? = some true
theorem Cl.under {ar : List Bool} {b : Tm} (h : ∀ i ∈ fr 1 b, ar[i]? = some true) : Cl (true :: ar) b := fun i hi => by
  cases i with
  | zero => rfl
  | succ i => exact h i (fr_one.mpr hi)
theorem Cl.skip {ar : List Bool} {b : Tm} (h : ∀ i ∈ fr 1 b, ar[i]? = some true) (n : 0 ∉ fr 0 b) : Cl (false :: ar) b := fun i hi => by
  cases i with
  | zero => exact absurd hi n
  | succ i => exact h i (fr_one.mpr hi)
/-! ### names, words -/
def xw (n : Nat) : Str := "x" ++ numS n
def nms : List Bool → List Str
  | [] => []
  | b :: ar => (if b = true then xw (cnt ar) else "") :: nms ar
abbrev sO : Str := "("
abbrev sC : Str := ")"
abbrev sDot : Str := "."
abbrev sTo : Str := "->"
def br (b : Bool) (ws : List Str) : List Str := if b = true then sO :: (ws ++ [sC]) else ws
def ws (ar : List Bool) : Tm → List Str
  | .at_ n => [(nms ar).getD n ""]
  | .lf l => [l.w]
  | .all a b => if 0 ∈ fr 0 b then "all" :: xw (cnt ar) :: ":" :: (ws ar a ++ sDot :: ws (true :: ar) b) else br (decide (2 < a.lv)) (ws ar a) ++ sTo :: ws (false :: ar) b
  | .fn a b => "fun" :: xw (cnt ar) :: ":" :: (ws ar a ++ sDot :: ws (true :: ar) b)
  | .app a b => br (decide (1 < a.lv)) (ws ar a) ++ br (decide (0 < b.lv)) (ws ar b)
  | .self a b => "self" :: (br (decide (0 < a.lv)) (ws ar a) ++ br (decide (0 < b.lv)) (ws ar b))
  | .tri k a b c => triW k :: (br (decide (0 < a.lv)) (ws ar a) ++ (br (decide (0 < b.lv)) (ws ar b) ++ br (decide (0 < c.lv)) (ws ar c)))
theorem nms_at : ∀ {ar : List Bool} {i : Nat}, ar[i]? = some true → (nms ar)[i]? = some (xw (cnt ar - 1 - cnt (ar.take i)))
  | b :: ar, 0, h => by
    cases h
    show some (if true = true then xw (cnt ar) else "") = _
    rw [if_pos rfl]
    have : cnt (true :: ar) = cnt ar + 1 := by
      unfold cnt
      rw [List.count_cons_self]
    rw [this, List.take_zero]
    rfl
  | b :: ar, i + 1, h => by
    have ih := nms_at (ar := ar) (i := i) h
    show (nms ar)[i]? = _
    rw [ih, List.take_succ_cons]
    have e1 : cnt (b :: ar) = cnt [b] + cnt ar := cnt_app [b] ar
    have e2 : cnt (b :: ar.take i) = cnt [b] + cnt (ar.take i) := cnt_app [b] _
    rw [e1, e2]
    congr 2
    omega
  | [], _, h => by cases h
/-! the words are such -/
def cds (ws : List Str) : List (List Nat) := ws.map fun s => s.cps.toList
structure Nice (ws : List Str) : Prop where
  ne : ws ≠ []
  gd : (cds ws).all GL.good = true
  hd : (cds ws).head? ≠ some [41]
  ls : (cds ws).getLast? ≠ some [40]
def plainW (w : Str) : Bool := !w.cps.toList.isEmpty && w.cps.toList.all GL.plain
theorem Nice.one {w : Str} (h : plainW w = true) : Nice [w] := by
  unfold plainW at h
  have h' := h
  rw [Bool.and_eq_true, List.all_eq_true] at h
  have g : ∀ z, GL.plain z = false → w.cps.toList ≠ [z] := fun z hz e => by
    have := h.2 z (by rw [e]; exact List.mem_singleton_self _)
    rw [hz] at this
    cases this
  refine ⟨by simp, ?_, fun e => ?_, fun e => ?_⟩
  · show (GL.good w.cps.toList && true) = true
    unfold GL.good
    rw [h']
    simp
  · exact g 41 (by decide) (Option.some.inj e)
  · exact g 40 (by decide) (Option.some.inj e)
theorem cds_app (us vs : List Str) : cds (us ++ vs) = cds us ++ cds vs := List.map_append
theorem cds_ne {us : List Str} (h : us ≠ []) : cds us ≠ [] := fun e => h (List.map_eq_nil_iff.mp e)
theorem Nice.app {us vs : List Str} (h : Nice us) (g : Nice vs) : Nice (us ++ vs) := by
  refine ⟨by simp [h.ne], by rw [cds_app, List.all_append, h.gd, g.gd]; rfl, ?_, ?_⟩
  · rw [cds_app, List.head?_append]
    cases e : (cds us).head? with
    | none => exact absurd (List.head?_eq_none_iff.mp e) (cds_ne h.ne)
    | some x =>
      have := h.hd
      rw [e] at this
      exact this
  · rw [cds_app, List.getLast?_append]
    cases e : (cds vs).getLast? with
    | none => exact absurd (List.getLast?_eq_none_iff.mp e) (cds_ne g.ne)
    | some x =>
      have := g.ls
      rw [e] at this
      exact this
theorem Nice.cons {w : Str} {vs : List Str} (h : plainW w = true) (g : Nice vs) : Nice (w :: vs) := (Nice.one h).app g
theorem Nice.br {us : List Str} {b : Bool} (h : Nice us) : Nice (br b us) := by
  cases b with
  | false => exact h
  | true =>
    have c1 : sO.cps.toList = [40] := by decide +kernel
    have c2 : sC.cps.toList = [41] := by decide +kernel
    have e : cds (sO :: (us ++ [sC])) = [40] :: (cds us ++ [[41]]) := by
      show sO.cps.toList :: cds (us ++ [sC]) = _
      rw [c1, cds_app]
      show _ = [40] :: (cds us ++ [[41]])
      rw [← c2]
      rfl
    refine ⟨by simp [KP.br], ?_, ?_, ?_⟩
    · show (cds (sO :: (us ++ [sC]))).all GL.good = true
      rw [e, List.all_cons, List.all_append, h.gd]
      rfl
    · show (cds (sO :: (us ++ [sC]))).head? ≠ _
      rw [e]
      exact fun z => absurd (Option.some.inj z) (by decide)
    · show (cds (sO :: (us ++ [sC]))).getLast? ≠ _
      rw [e, List.getLast?_cons, List.getLast?_append]
      exact fun z => absurd (show (41 : Nat) :: [] = [40] from Option.some.inj z) (by decide)
theorem glS_app {us vs : List Str} (h : Nice us) (g : Nice vs) : GL.glS (us ++ vs) = GL.glS us ++ " " ++ GL.glS vs := by
  have sp : (" " : Str).cps.toList = [32] := by decide +kernel
  refine Str.ext' (Array.ext' ?_)
  rw [Str.cps_append, Str.cps_append, Array.toList_append, Array.toList_append, sp]
  show GL.gl (cds (us ++ vs)) = GL.gl (cds us) ++ [32] ++ GL.gl (cds vs)
  rw [cds_app]
  cases e : cds vs with
  | nil => exact absurd e (cds_ne g.ne)
  | cons v r =>
    rw [GL.gl_app _ _ _ (cds_ne h.ne) h.ls (fun z => g.hd (by rw [e, z]; rfl)), List.append_assoc]
    rfl
theorem glS_one (w : Str) : GL.glS [w] = w := Str.ext' (Array.ext' rfl)
theorem glS_br {us : List Str} {b : Bool} (h : Nice us) : GL.glS (br b us) = if b = true then sO ++ GL.glS us ++ sC else GL.glS us := by
  cases b with
  | false => rfl
  | true =>
    have c1 : sO.cps.toList = [40] := by decide +kernel
    have c2 : sC.cps.toList = [41] := by decide +kernel
    rw [if_pos rfl]
    refine Str.ext' (Array.ext' ?_)
    rw [Str.cps_append, Str.cps_append, Array.toList_append, Array.toList_append, c1, c2]
    show GL.gl (cds (sO :: (us ++ [sC]))) = [40] ++ GL.gl (cds us) ++ [41]
    have e : cds (sO :: (us ++ [sC])) = [40] :: (cds us ++ [[41]]) := by
      show sO.cps.toList :: cds (us ++ [sC]) = _
      rw [c1, cds_app]
      show _ = [40] :: (cds us ++ [[41]])
      rw [← c2]
      rfl
    rw [e, GL.gl_par _ (cds_ne h.ne)]
    rfl
end KP
set_option Elab.async false
set_option linter.unusedVariables false
set_option linter.unusedSectionVars false
set_option maxRecDepth 100000
set_option maxHeartbeats 1000000
namespace OW
open PySem PySem.Spec PyProof.Rows L2 KA
variable [Tbs]
/-! ### calls by the arguments' names, in any order, with defaults in between -/
def pm {α : Type} (idx : List Nat) (l : List α) : List α := idx.filterMap fun i => l[i]?
theorem vals_get : ∀ {vs : List V} {us : List Value} (i : Nat), Vals vs us → (vs[i]? = none ∧ us[i]? = none) ∨ ∃ v u, vs[i]? = some v ∧ us[i]? = some u ∧ RelV v u
  | _, _, _, .nil => Or.inl ⟨rfl, rfl⟩
  | _, _, 0, .cons r _ => Or.inr ⟨_, _, rfl, rfl, r⟩
  | _, _, i + 1, .cons _ t => vals_get i t
theorem pm_vals {vs : List V} {us : List Value} (h : Vals vs us) : ∀ idx : List Nat, Vals (pm idx vs) (pm idx us)
  | [] => .nil
  | i :: idx => by
    have ih := pm_vals h idx
    unfold pm at ih ⊢
    rw [List.filterMap_cons, List.filterMap_cons]
    rcases vals_get i h with ⟨e1, e2⟩ | ⟨v, u, e1, e2, r⟩
    · rw [e1, e2]
      exact ih
    · rw [e1, e2]
      exact .cons r ih
theorem ar_get {W : Hp} : ∀ {vs : List V} {ss : List Sl} (i : Nat), ArAll W vs ss → (vs[i]? = none ∧ ss[i]? = none) ∨ ∃ v s, vs[i]? = some v ∧ ss[i]? = some s ∧ ArOk W v s
  | [], [], _, _ => Or.inl ⟨rfl, rfl⟩
  | v :: _, s :: _, 0, h => Or.inr ⟨v, s, rfl, rfl, h.1⟩
  | _ :: vs, _ :: ss, i + 1, h => ar_get (vs := vs) (ss := ss) i h.2
  | [], _ :: _, _, h => h.elim
  | _ :: _, [], _, h => h.elim
theorem pm_ar {W : Hp} {vs : List V} {ss : List Sl} (h : ArAll W vs ss) : ∀ idx : List Nat, ArAll W (pm idx vs) (pm idx ss)
  | [] => trivial
  | i :: idx => by
    have ih := pm_ar h idx
    unfold pm at ih ⊢
    rw [List.filterMap_cons, List.filterMap_cons]
    rcases ar_get i h with ⟨e1, e2⟩ | ⟨v, s, e1, e2, r⟩
    · rw [e1, e2]
      exact ih
    · rw [e1, e2]
      exact ⟨r, ih⟩
theorem vals_app {vs ws : List V} {us zs : List Value} (h : Vals vs us) (g : Vals ws zs) : Vals (vs ++ ws) (us ++ zs) := h.append g
abbrev gN {α : Type} (idx : List Nat) (ds : List α) : List α → List α → List α := fun us ws => pm idx (us ++ (ds ++ ws))
structure CalN (P : Program) (w : World) (K : PySem.W.Frag) (mg : Str → Option Value) (base : Heap) (k : Nat) (x : Str) (n : Nat) (ks : List Str) (idx : List Nat) (dvs : List V) (sp : Sp) : Prop where
  ex : ∃ (f : Addr) (fd : FuncData) (ps : List Str) (its : List Value), FnOk P w K mg base CX0 k f fd ps sp ∧ mg x = some (.ref f) ∧ PySem.W.keepIn K (.ref f) = true ∧ KBn K fd ps n ks (gN idx its) (gN idx dvs)
section
variable {X : Cx} {k j n : Nat} {ks : List Str} {idx : List Nat} {dvs : List V} {sp : Sp} {x : Str} {p pos : Pos} {kws : List Keyword} {e : Expr} {es : List Expr} {t tk : TA}
theorem pe_n0 (c : CalN X.prog X.w X.K X.mg X.base k x 0 ks idx dvs sp) (hr : Room j X.A) (hk : k ≤ j) (hg : Gl X x)
    (hkw : PK X kws tk) (hall : (backToKw pos (keywordEach kws X.env)).all (·.1.isSome) = true := by rfl) (hks : (backToKw pos (keywordEach kws X.env)).filterMap (·.1) = ks := by rfl)
    (hdb : (x == ("__debug__" : Str)) = false := by decide) (hpl : ((backTo pos (starEach [] X.env)).any (·.1) || (backToKw pos (keywordEach kws X.env)).any (·.1.isNone)) = false := by rfl) :
    PE X (.Call (.Name x p) [] kws pos) (tCallN 0 ks.length sp (gN idx dvs) C8.E0 tNil tk) := by
  obtain ⟨f, fd, ps, its, F, hm, kp, hb⟩ := c.ex
  refine ⟨fun pins s σ H Q I h => ?_⟩
  have h : tk σ H fun zs H2 => ([] : List V).length = 0 ∧ zs.length = ks.length ∧ sp (gN idx dvs [] zs) H2 Q C8.E0 := h
  refine wpAny_Call_Name_kw (ld_glob I hg hm ?_ hdb)
  refine PySem.W.callWith_KW0 (h₀ := X.base) I.ok.mod.kin kp hall (thn (hkw.run pos pins s σ H _ I h) fun ws s2 ⟨zs, H2, I2, rz, l1, l2, q2⟩ => ⟨I2.kIn, ?_⟩) hpl
  rw [hks]
  exact run_fnN (us := []) (vs := []) F (hr.mono hk) hb pass0 I2 .nil rz l1 l2 q2
theorem pe_n (c : CalN X.prog X.w X.K X.mg X.base k x n ks idx dvs sp) (hr : Room j X.A) (hk : k ≤ j) (hg : Gl X x) (ha : PA X (e :: es) t)
    (hkw : PK X kws tk) (hall : (backToKw pos (keywordEach kws X.env)).all (·.1.isSome) = true := by rfl) (hks : (backToKw pos (keywordEach kws X.env)).filterMap (·.1) = ks := by rfl)
    (hdb : (x == ("__debug__" : Str)) = false := by decide) (he : starEach (e :: es) X.env = (false, eval e X.env) :: starEach es X.env := by rfl)
    (hpl : ((backTo pos (starEach (e :: es) X.env)).any (·.1) || (backToKw pos (keywordEach kws X.env)).any (·.1.isNone)) = false := by rfl) :
    PE X (.Call (.Name x p) (e :: es) kws pos) (tCallN n ks.length sp (gN idx dvs) C8.E0 t tk) := by
  obtain ⟨f, fd, ps, its, F, hm, kp, hb⟩ := c.ex
  exact pe_callN F (hr.mono hk) hg hm kp hb pass0 ha hkw hall hks hdb he hpl
end
section
variable {P : Program} {w : World} {K : PySem.W.Frag} {mg : Str → Option Value} {base : Heap} {x qual : Str} {st : Stmt} {f : Addr} {fd : FuncData} {k n : Nat} {ps ks : List Str} {idx : List Nat} {sp : Sp}
theorem kbn_of (F : Fun K x qual st f fd) (h : ∀ (kV doc pm' : Value) (an : Option Addr) (cdv ct : Value) (us ws : List Value), us.length = n → ws.length = ks.length → bindArgs (PySem.W.fnOf x qual (defArgs st) (defBody st) (defScope st) .none kV doc pm' an cdv ct) ⟨us, ks.zip ws⟩ = pure (ps.zip (gN idx [] us ws))) :
    KBn K fd ps n ks (gN idx []) (gN idx []) := by
  obtain ⟨oc, od, kV, doc, pm', an, cdv, ct, osl, rfl, lk, hcd⟩ := F.ex
  exact ⟨fun s us ws _ l1 l2 => .of_eq (h kV doc pm' an cdv ct us ws l1 l2), fun r1 r2 => pm_vals (vals_app r1 (vals_app .nil r2)) _⟩
theorem kbn_d {params : Arguments} {body : List Stmt} {scope : Scope} {dvs : List V} {kws : List (Str × V)} (F : FunD K x qual params body scope dvs kws f fd) (hd : dvs ≠ [])
    (h : ∀ (T : Addr) (kV doc pm' : Value) (an : Option Addr) (cdv ct : Value) (us its ws : List Value), us.length = n → its.length = dvs.length → ws.length = ks.length →
      ∃ k, bindArgs (PySem.W.fnOf x qual params body scope (.ref T) kV doc pm' an cdv ct) ⟨us, ks.zip ws⟩ = seqItems? (.ref T) >>= k ∧ k (some its.toArray) = pure (ps.zip (gN idx its us ws))) :
    ∃ its, KBn K fd ps n ks (gN idx its) (gN idx dvs) :=
  F.kbindsD n ks (fun us ds ws => pm idx (us ++ (ds ++ ws))) hd (fun r1 r2 r3 => pm_vals (vals_app r1 (vals_app r2 r3)) _) h
end
section
variable {ρ ρ1 ρ' : List Sl} {t tk : TA} {ss zs ds : List Sl} {x : PyData} {xs : List PyData} {idx : List Nat} {dvs : List V} {n m k : Nat} {E : XK} {T : List Sl → (Rv → Prop) → Prop}
theorem ev_n (h : Es t ρ ss ρ1) (hk : Es tk ρ1 zs ρ') (hd : ∀ W, ArAll W dvs ds) (l1 : ss.length = n) (l2 : zs.length = m) (hn : (gN idx ds ss zs).length = k) (g : T (gN idx ds ss zs) fun r => r = .d x) : Ev (tCallN n m (spD k T) (gN idx dvs) E t tk) ρ (.d x) ρ' := fun c A σ H Q R f q =>
  h c A σ H _ R f fun vs A1 H1 R1 f1 S1 o1 => hk c A1 σ H1 _ R1 f1 fun us A2 H2 R2 f2 S2 o2 => by
    refine ⟨o1.length.trans l1, o2.length.trans l2, zz c.Z A2, gN idx ds ss zs, _, zz_ok R2, by rw [hz_eq]; exact pm_ar ((o1.mono S2).append ((hd _).append o2)) _, hn, g, fun r v H' hr S o => ?_⟩
    subst hr
    have o : Dn (hz (zz c.Z A2) H') v x := o
    rw [hz_eq] at o
    exact q v A2 H' (R2.upA S) f2 ((S1.trans S2).trans (vw_upA R2 S)) o
theorem el_n (h : Es t ρ ss ρ1) (hk : Es tk ρ1 zs ρ') (hd : ∀ W, ArAll W dvs ds) (l1 : ss.length = n) (l2 : zs.length = m) (hn : (gN idx ds ss zs).length = k) (g : T (gN idx ds ss zs) fun r => r = .l xs) : El (tCallN n m (spD k T) (gN idx dvs) E t tk) ρ xs ρ' := fun c A σ H Q R f q =>
  h c A σ H _ R f fun vs A1 H1 R1 f1 S1 o1 => hk c A1 σ H1 _ R1 f1 fun us A2 H2 R2 f2 S2 o2 => by
    refine ⟨o1.length.trans l1, o2.length.trans l2, zz c.Z A2, gN idx ds ss zs, _, zz_ok R2, by rw [hz_eq]; exact pm_ar ((o1.mono S2).append ((hd _).append o2)) _, hn, g, fun r v H' hr S o => ?_⟩
    subst hr
    obtain ⟨a, us', rfl, n', e, dx⟩ := o
    rw [hz_eq] at dx
    refine q a us' _ H' (R2.adopt S n' e) aset_at ((S1.trans S2).trans ?_) e (DnAll.mono vw_adopt dx)
    exact fun b o z => vw_adopt (A := A2) b o (by rw [hid_ne (ne_of_none (vw_some z).2.2 n')]; exact vw_upA R2 S _ _ z)
end
end OW
set_option Elab.async false
set_option linter.unusedVariables false
set_option linter.unusedSectionVars false
set_option maxRecDepth 100000
set_option maxHeartbeats 2000000
namespace OW
open PySem PySem.Spec PyProof.Rows L2 KA
variable [Tbs]
/-! ### a dict that only its slot has; a list of things of any kind that only its slot has -/
section
variable {c : Fr} {A : Am} {ρ ρ' ρ1 ρ2 : List Sl} {σ : L2.St} {H : Hp} {te tk tv : TE} {i : Nat} {K : KK} {ss rs : List Sl} {s : Sl} {ta : TA} {KF : PySem.W.Frag}
/-- the new thing goes to a slot, in whatever form -/
theorem Rp.setO (R : Rp c A ρ σ H) {a : Addr} (i0 : i ≠ 0) (hi : i < ρ.length) (e : A fl = some a) (hs : ∀ W, Same (vw c.Z A H) W → SlOk W H (some (some (.ref a))) (some a) s) : Rp c (aset (aset A i (some a)) fl none) (ρ.set i s) (σ.set i (some (.ref a))) H := by
  have ne : i ≠ fl := by have := R.sz; omega
  have back : ∀ j b, aset (aset A i (some a)) fl none j = some b → (j = i ∧ b = a) ∨ (j ≠ i ∧ j ≠ fl ∧ A j = some b) := fun j b z => by
    by_cases q : j = fl
    · rw [q, aset_at] at z
      cases z
    · rw [aset_ne q] at z
      by_cases q' : j = i
      · rw [q', aset_at] at z
        exact Or.inl ⟨q', (Option.some.inj z).symm⟩
      · rw [aset_ne q'] at z
        exact Or.inr ⟨q', q, z⟩
  have more : Same (vw c.Z A H) (vw c.Z (aset (aset A i (some a)) fl none) H) := vw_less fun j b z => by
    rcases back j b z with ⟨_, rfl⟩ | ⟨_, _, z⟩
    · exact ⟨_, e⟩
    · exact ⟨_, z⟩
  refine ⟨by rw [List.length_set, List.length_set, R.len], by rw [List.length_set]; exact R.sz, ?_, ?_, ?_, R.keep, R.old.trans more, ?_, ?_, R.tz, R.tb.mono more fun _ _ => rfl⟩
  · intro k j b z z'
    rcases back k b z with ⟨q1, q2⟩ | ⟨n1, n2, y⟩
    · rcases back j _ z' with ⟨q3, _⟩ | ⟨n3, n4, y'⟩
      · rw [q1, q3]
      · exact absurd (R.inj _ _ _ (q2 ▸ y') e) n4
    · rcases back j b z' with ⟨q3, q4⟩ | ⟨n3, n4, y'⟩
      · exact absurd (R.inj _ _ _ (q4 ▸ y) e) n2
      · exact R.inj _ _ _ y y'
  · intro j b z
    rcases back j b z with ⟨rfl, rfl⟩ | ⟨n1, n2, z⟩
    · exact R.off _ _ e
    · exact R.off _ _ z
  · intro j b z
    rcases back j b z with ⟨rfl, rfl⟩ | ⟨n1, n2, z⟩
    · exact R.live _ _ e
    · exact R.live _ _ z
  · intro p q
    rw [aset_ne (by decide), aset_ne i0.symm]
    exact R.bor p q
  · intro j t z
    by_cases q : j = i
    · subst q
      rw [aset_ne ne, aset_at]
      rw [List.getElem?_set_self (by rw [R.len]; exact hi)]
      rw [List.getElem?_set_self hi] at z
      cases z
      exact hs _ more
    · rw [List.getElem?_set_ne (Ne.symm q)] at z ⊢
      rw [aset_ne (idx_small R.sz z), aset_ne q]
      exact (R.sl j t z).mono more fun _ _ _ h => h
/-- the thing that a slot has changes, and is of a form -/
theorem Rp.mutO (R : Rp c A ρ σ H) {a : Addr} {o : HO} (hi : i < ρ.length) (e : A i = some a) (hs : ∀ H', H' a = some o → SlOk (vw c.Z A H) H' σ[i]? (some a) s) : Rp c A (ρ.set i s) σ (upd H a o) := by
  have hv : vw c.Z A (upd H a o) = vw c.Z A H := vw_mut e
  refine ⟨by rw [List.length_set, R.len], by rw [List.length_set]; exact R.sz, R.inj, R.off, ?_, ?_, ?_, R.bor, ?_, R.tz, by rw [hv]; exact R.tb.mono (Same.refl _) (R.tb.upd_ (R.nt e))⟩
  · intro j b z
    by_cases q : b = a
    · rw [q, upd_same]
      simp
    · rw [upd_ne q]
      exact R.live _ _ z
  · intro b z t
    have nb : b ≠ a := fun q => R.off _ _ e (q ▸ z)
    rw [upd_ne nb]
    exact R.keep b z t
  · rw [hv]
    exact R.old
  · intro j t z
    rw [hv]
    by_cases q : j = i
    · subst q
      rw [List.getElem?_set_self hi] at z
      cases z
      rw [e]
      exact hs _ upd_same
    · rw [List.getElem?_set_ne (Ne.symm q)] at z
      refine (R.sl j t z).mono (Same.refl _) fun b ws e' hb => ?_
      have nb : b ≠ a := fun eb => q (R.inj _ _ _ e' (eb ▸ e))
      rw [upd_ne nb]
      exact hb
theorem sm_dk0 (k : K.nx (ρ.set i (.dk []))) (i0 : i ≠ 0 := by decide) (hi : i < ρ.length := by simp [uns]) : Sm (tAsg tDNewK (gName i)) ρ K := fun c A σ H D R f dk => fun p hp => by
  have R1 := R.fly (o := .dK []) hp
  exact dk.nx _ _ _ _ k (R1.setO (s := .dk []) i0 hi aset_at fun W S => ⟨p, rfl, rfl, upd_same⟩) aset_at
theorem sm_dkSet {kvs : List (Key × V)} {z : Int} {v : V} (h0 : ρ[i]? = some (.dk kvs)) (hv : Ev tv ρ (.p (isV v)) ρ) (hk : Ev tk ρ (.d (.int z)) ρ) (len : kvs.length < sizeLine) (k : K.nx (ρ.set i (.dk (putK kvs (Sum.inl z) v)))) : Sm (tAsg tv (gSub (tVar i) tk rSetD)) ρ K := fun c A σ H D R f dk =>
  hv c A σ H _ R f fun u A1 H1 R1 f1 S1 o1 => by
    obtain rfl := isv_v o1
    obtain ⟨a, e, e1, e2⟩ := R1.sl i _ h0
    refine ⟨_, e1, hk c A1 σ H1 _ R1 f1 fun w A2 H2 R2 f2 S2 o2 => ?_⟩
    obtain rfl := int_v o2
    obtain ⟨a', g, g1, g2⟩ := R2.sl i _ h0
    rw [e1] at g1
    cases g1
    refine ⟨a, _, rfl, DPut.k (k := Sum.inl z) g2 len, dk.nx _ _ _ _ k (R2.mutO (s := .dk _) (List.getElem?_eq_some_iff.mp h0).1 g fun H' h' => ⟨a, rfl, e1, h'⟩) f2⟩
theorem el_sortedDk {kvs : List (Key × V)} {ks ys : List Int} (h0 : ρ[i]? = some (.dk kvs)) (hks : kvs.map (·.1) = ks.map Sum.inl) (h64 : ks.length < 64) (hy : ∀ zs : List Int, zs.Perm ks → zs.Pairwise (· ≤ ·) → zs = ys) :
    El (tCB (fun xs H Q => ∃ (a : Addr) (kvs : List (Key × V)) (ks : List Int), xs = [.ref a] ∧ Rd H a (.dK kvs) ∧ kvs.map (·.1) = ks.map Sum.inl ∧ ks.length < 64 ∧
    ∀ (ys : List Int) (p : Addr), ys.Perm ks → ys.Pairwise (· ≤ ·) → H p = none → Q (.ref p) (upd H p (.lst (ys.map V.int)))) (tCons (tVar i) tNil)) ρ (ys.map .int) ρ := fun c A σ H Q R f q => by
  obtain ⟨a, e, e1, e2⟩ := R.sl i _ h0
  refine ⟨_, e1, a, kvs, ks, rfl, Rd.of e2, hks, h64, fun zs p hp hs n => ?_⟩
  rw [hy zs hp hs]
  refine q p _ _ _ (R.fly n) aset_at (vw_fly n) upd_same ?_
  have : ∀ zs : List Int, DnAll (vw c.Z (aset A fl (some p)) (upd H p (.lst (ys.map V.int)))) (zs.map V.int) (zs.map .int) := fun zs => by
    induction zs with
    | nil => exact .nil
    | cons z zs ih => exact .cons (.int z) ih
  exact this ys
end
end OW
set_option Elab.async false
set_option linter.unusedVariables false
set_option linter.unusedSectionVars false
set_option maxRecDepth 100000
set_option maxHeartbeats 2000000
namespace OW
open PySem PySem.Spec PyProof.Rows L2 KA
variable [Tbs]
/-! ### a def with defaults that refuses; calls of it; the script -/
structure CalXD (P : Program) (w : World) (K : PySem.W.Frag) (mg : Str → Option Value) (base : Heap) (k : Nat) (x : Str) (ps : List Str) (sp : Sp) (dvs : List V) : Prop where
  ex : ∃ (f : Addr) (fd : FuncData) (ds : List Value), FnOk P w K mg base (L2.CX P w) k f fd ps sp ∧ mg x = some (.ref f) ∧ PySem.W.keepIn K (.ref f) = true ∧ Binds K fd ps ds ∧ Vals dvs ds
theorem passF {X : Cx} {σ : L2.St} : PassesAt (L2.CX X.prog X.w) X σ (fun _ _ _ => False) := fun _ _ _ _ _ _ c => by
  obtain ⟨_, _, _, _, _, _, _, _, _, _, _, _, z⟩ := c
  exact z.elim
section
variable {X : Cx} {j k : Nat} {x : Str} {ps : List Str} {sp : Sp} {dvs : List V} {W : WX} {e : Expr} {es : List Expr} {t : TA} {p pos : Pos}
theorem pe_xF (c : CalX X.prog X.w X.K X.mg X.base k x ps sp) (hr : Room j X.A) (hk : k ≤ j) (hg : Gl X x) (ha : PA X (e :: es) t)
    (hdb : (x == ("__debug__" : Str)) = false := by decide) (he : starEach (e :: es) X.env = (false, eval e X.env) :: starEach es X.env := by rfl) (hpl : (backTo pos (starEach es X.env)).any (·.1) = false := by rfl) : PE X (.Call (.Name x p) (e :: es) [] pos) (tCallS sp (fun _ => fun _ _ _ => False) t) := by
  obtain ⟨f, fd, F, m, kp, b⟩ := c.ex
  exact pe_callS F (hr.mono hk) hg m kp b (fun σ => passF) ha hdb he hpl
theorem pe_xDF (c : CalXD X.prog X.w X.K X.mg X.base k x ps sp dvs) (hr : Room j X.A) (hk : k ≤ j) (hg : Gl X x) (ha : PA X (e :: es) t)
    (hdb : (x == ("__debug__" : Str)) = false := by decide) (he : starEach (e :: es) X.env = (false, eval e X.env) :: starEach es X.env := by rfl) (hpl : (backTo pos (starEach es X.env)).any (·.1) = false := by rfl) : PE X (.Call (.Name x p) (e :: es) [] pos) (tCallSD sp dvs (fun _ => fun _ _ _ => False) t) := by
  obtain ⟨f, fd, ds, F, m, kp, b, v⟩ := c.ex
  exact pe_callSD F (hr.mono hk) hg m kp b v (fun σ => passF) ha hdb he hpl
end
section
variable {ρ ρ' : List Sl} {tr : TA} {ss ds : List Sl} {x : PyData} {xs : List PyData} {n : Nat} {E : L2.St → XK} {T : List Sl → (Rv → Prop) → (Addr → Sl → Prop) → Prop} {dvs : List V}
theorem ev_callXD (h : Es tr ρ ss ρ') (hd : ∀ W, ArAll W dvs ds) (hn : (ss ++ ds).length = n) (g : T (ss ++ ds) (fun r => r = .d x) fun _ _ => False) : Ev (tCallSD (spX n T) dvs E tr) ρ (.d x) ρ' := fun c A σ H Q R f q =>
  h c A σ H _ R f fun vs A1 H1 R1 f1 S1 o1 => by
    refine ⟨zz c.Z A1, ss ++ ds, _, _, zz_ok R1, by rw [hz_eq]; exact o1.append (hd _), hn, g, fun r v H' hr S o => ?_, fun _ _ _ _ _ z => z.elim⟩
    subst hr
    have o : Dn (hz (zz c.Z A1) H') v x := o
    rw [hz_eq] at o
    exact q v A1 H' (R1.upA S) f1 (S1.trans (vw_upA R1 S)) o
end
section
variable {P : Program} {w : World} {K : PySem.W.Frag} {mg : Str → Option Value} {base : Heap}
theorem fn_xD {x qual : Str} {st : Stmt} {f : Addr} {fd : FuncData} {N ps : List Str} {k n : Nat} {dvs : List V} {kws : List (Str × V)} {T : List Sl → (Rv → Prop) → (Addr → Sl → Prop) → Prop} (F : FunD K x qual (defArgs st) (defBody st) (defScope st) dvs kws f fd) (S : FnScope N ps (defScope st)) (hn : ps.length = n := by rfl) (hN : n + N.length < fl := by decide)
    (body : ∀ (cdv : Value) (A : Around) (outer : List Env) (s : Shared) (H : Hp) (E : XK), Room k (A.deeper (envOfC qual (defScope st) s.heap.objs.size f cdv)) →
      ∃ t, PSs (cxOf (L2.CX P w) P w K mg base N qual (defScope st) f cdv A outer s H E) (defBody st) t ∧ ∀ as Kr X, as.length = n → T as Kr X →
        Sm t (as ++ uns (N.length - n)) { nx := fun _ => Kr (.d .none), rt := fun r _ => Kr r } ∨ ∃ C s ρ', X C s ∧ Rs (fun cls d _ H => E cls d H) t (as ++ uns (N.length - n)) C s ρ') :
    FnOk P w K mg base (L2.CX P w) (k + 1) f fd ps (spX n T) := by
  refine F.ok S (fun vs H Q E h => ?_) (fun cdv A outer s H vs Q E hr h => ?_)
  · obtain ⟨Z, as, Kr, X, hZ, ha, hl, _⟩ := h
    rw [ha.length, hl, hn]
  · obtain ⟨Z, as, Kr, X, hZ, ha, hl, hT, go, bad⟩ := h
    obtain ⟨t, ht, hb⟩ := body cdv A outer s H E hr
    have start := rp_start (N := N) (vs := vs) hN hZ ha hl
    rcases hb as Kr X hl hT with hb | ⟨C, s, ρ', hX, hb⟩
    · refine ⟨t, ht, hb ⟨Z, none, H, hz Z H⟩ _ _ H _ start rfl ?_⟩
      refine ⟨fun ρ' A' σ' H' hk R f => go _ _ _ hk (rp_aft R) .non, fun r ρ' v A' σ' H' hk R o => go r v H' hk (rp_aft R) ?_, fun _ _ _ _ h => h.elim, fun _ _ _ _ h => h.elim⟩
      exact rv_out (fun b o e nz _ => R.old _ _ (hz_mk nz e)) (fun b z => Or.inl z) R.inj R.off R.bor o
    · refine ⟨t, ht, hb ⟨Z, none, H, hz Z H⟩ _ _ H _ start rfl fun d v A' σ' H' R' f' e o => bad C s d v H' hX (rp_aft R') (vw_hz _ _ e) (o.mono vw_hz)⟩
end
/-! the script, where tables are hidden -/
theorem sql_mono {K : PySem.W.Frag} {H H' : Hp} {a : Addr} {xs : List V} (S : Same H H') (h : SqL K H a xs) : SqL K H' a xs := by
  rcases h with (h | ⟨ob, h⟩) | h
  · exact Or.inl (Or.inl (S _ _ h))
  · exact Or.inl (Or.inr ⟨ob, S _ _ h⟩)
  · exact Or.inr h
def scrMo (K : PySem.W.Frag) (ns : List Int) : Mo := ⟨fun u W => ∃ a, u = .ref a ∧ SqL K W a (ns.map V.int), fun S ⟨a, e, h⟩ => ⟨a, e, sql_mono S h⟩⟩
theorem sql_tabs {K : PySem.W.Frag} {H : Hp} {a : Addr} {xs : List V} (t : ∀ b, tabA b → H b = some (.tbl #[])) (h : SqL K H a xs) : SqL K (hz tabA H) a xs := by
  have no : ∀ o, H a = some o → o ≠ .tbl #[] → ¬ tabA a := fun o e n q => by
    rw [t a q] at e
    exact n (Option.some.inj e).symm
  rcases h with (h | ⟨ob, h⟩) | h
  · exact Or.inl (Or.inl (hz_mk (no _ h (by simp)) h))
  · exact Or.inl (Or.inr ⟨ob, hz_mk (no _ h (by simp)) h⟩)
  · exact Or.inr h
theorem zok_tabs {H : Hp} (t : ∀ b, tabA b → H b = some (.tbl #[])) : ZOk tabA H := ⟨fun a h => by rw [t a h]; simp, fun _ h => h, fun p hp => ⟨#[], t _ ⟨p, hp, rfl⟩, True.intro, fun pos cv h => by simp [codeAmong] at h⟩⟩
section
variable {ρ ρ' ρ1 ρ2 : List Sl} {te ta tb ti : TE} {x y : PyData} {K KF : PySem.W.Frag} {ns : List Int}
theorem fv_lenScr : FV (fun xs H Q => ∃ p ys, xs = [.ref p] ∧ (SqL K H p ys ∨ SqT K H p ys) ∧ Q (.int ys.length) H) [.p (scrMo K ns)] (.d (.int (ns.length : Int))) := by
  intro W H vs Q S o q
  cases vs with
  | nil => exact o.elim
  | cons v vs => cases vs with
    | cons w vs => exact o.2.elim
    | nil =>
      have o1 : ∃ a, v = .ref a ∧ SqL K W a (ns.map V.int) := o.1
      obtain ⟨a, rfl, h⟩ := o1
      refine ⟨a, ns.map V.int, rfl, Or.inl (sql_mono S h), ?_⟩
      rw [List.length_map]
      exact q _ _ (Same.refl _) fun _ _ _ => Dn.int _
theorem et_neD (ha : Ev ta ρ (.d x) ρ1) (hb : Ev tb ρ1 (.d x) ρ2) (sh : SeqAt.shaped x = true) : Et (tTest (tOp KA.rNeD ta tb)) ρ false ρ2 :=
  (et_test (ev_op ha hb (fv_neD sh sh))).is (by rw [SeqAt.eqv_refl _ (SeqAt.canLay_of_shaped sh)]; rfl)
end
theorem pe_ixKT {X : Cx} {K : PySem.W.Frag} (e3 : X.K = K) {a b : Expr} {ta tb : TE} {pos : Pos} (ha : PE X a ta) (hb : PE X b tb) (hs : PlainIx b) : PE X (.Subscript a b pos) (tOp (rIxT K) ta tb) := by
  subst e3
  exact pe_ix ix_tup ha hb hs
end OW
set_option Elab.async false
set_option linter.unusedVariables false
set_option linter.unusedSectionVars false
set_option maxRecDepth 100000
set_option maxHeartbeats 2000000
namespace OW
open PySem PySem.Spec PyProof.Rows L2 KA
variable [Tbs]
/-! ### tuples and lists of things that are known by more than their data -/
def tupMo (ss : List Sl) : Mo := ⟨fun u W => ∃ t us, u = .ref t ∧ W t = some (.tup us) ∧ ArAll W us ss, fun S ⟨t, us, e, h, o⟩ => ⟨t, us, e, S _ _ h, o.mono S⟩⟩
def arL (ss : List Sl) : MoL := ⟨fun vs W => ArAll W vs ss, fun S h => h.mono S⟩
def lstsMo (ss : List Sl) : Mo := ⟨fun u W => ∃ b us, u = .ref b ∧ W b = some (.lst us) ∧ ArAll W us ss, fun S ⟨b, us, e, h, o⟩ => ⟨b, us, e, S _ _ h, o.mono S⟩⟩
def Elp (te : TE) (ρ : List Sl) (ss : List Sl) (ρ' : List Sl) : Prop := ∀ (c : Fr) (A : Am) (σ : L2.St) (H : Hp) (Q : VK), Rp c A ρ σ H → A fl = none →
  (∀ a vs A' H', Rp c A' ρ' σ H' → A' fl = some a → Same (vw c.Z A H) (vw c.Z A' H') → H' a = some (.lst vs) → ArAll (vw c.Z A' H') vs ss → Q (.ref a) H') → te σ H Q
/-! a thing in a slot: data whose value is told, or a list at a known address -/
inductive TK where
  | dat (v : V) (x : PyData)
  | lst (a : Addr) (xs : List PyData)
def TK.sl : TK → Sl | .dat v x => .p (exactMo v x) | .lst a xs => .la a xs
def TK.v : TK → V | .dat v _ => v | .lst a _ => .ref a
def TK.x : TK → PyData | .dat _ x => x | .lst _ xs => .list xs
def TK.isL : TK → Bool | .dat _ _ => false | .lst _ _ => true
section
variable {c : Fr} {A : Am} {ρ ρ' ρ1 ρ2 : List Sl} {σ : L2.St} {H H' : Hp} {te ta tb ti : TE} {s s' : Sl} {x y : PyData} {i j k m : Nat} {tr : TA} {xs ys : List PyData} {ss rs : List Sl} {K : KK} {a : Addr} {KF : PySem.W.Frag} {g : TG} {gs : TGs} {t : TS}
theorem ev_tupP (h : Es tr ρ ss ρ') (len : ss.length ≤ sizeLine := by simp [sizeLine_eq]) : Ev (tTup tr) ρ (.p (tupMo ss)) ρ' := fun c A σ H Q R f q =>
  h c A σ H _ R f fun vs A1 H1 R1 f1 S1 o1 => ⟨by rw [o1.length]; exact len, fun a ha =>
    q _ A1 _ (R1.up (Same.new ha)) f1 (S1.trans (vw_up (Same.new ha))) ⟨a, vs, rfl, new_view R1 ha upd_same, o1.mono (vw_up (Same.new ha))⟩⟩
theorem elp_lst (h : Es tr ρ ss ρ') (len : ss.length ≤ sizeLine := by simp [sizeLine_eq]) : Elp (tLst tr) ρ ss ρ' := fun c A σ H Q R f q =>
  h c A σ H _ R f fun vs A1 H1 R1 f1 S1 o1 => ⟨by rw [o1.length]; exact len, fun a ha =>
    q a vs _ _ (R1.fly ha) aset_at (S1.trans (vw_fly ha)) upd_same (o1.mono (vw_fly ha))⟩
theorem elp_cat (h0 : ρ[i]? = some (.lm (arL rs))) (h : Elp te ρ ss ρ) (len : rs.length + ss.length ≤ sizeLine) : Elp (tOp rCat (tVar i) te) ρ (rs ++ ss) ρ := fun c A σ H Q R f q => by
  obtain ⟨b, us, e, e1, e2, o⟩ := R.sl i _ h0
  refine ⟨_, e1, h c A σ H _ R f fun a vs A1 H1 R1 f1 S1 ea o1 => ?_⟩
  obtain ⟨b', us', g, g1, g2, o'⟩ := R1.sl i _ h0
  rw [e1] at g1
  cases g1
  have o' : ArAll (vw c.Z A1 H1) us' rs := o'
  refine ⟨b, a, us', vs, rfl, rfl, g2, ea, by rw [o'.length, o1.length]; exact len, fun p hp => ?_⟩
  have R2 := R1.land.fly (o := .lst (us' ++ vs)) hp
  have S2 : Same (vw c.Z A1 H1) (vw c.Z (aset (aset A1 fl none) fl (some p)) (upd H1 p (.lst (us' ++ vs)))) := vw_land.trans (vw_fly hp)
  exact q p _ _ _ R2 aset_at (S1.trans S2) upd_same ((o'.mono S2).append (o1.mono S2))
theorem sm_setLM (h : Elp te ρ ss ρ1) (k : K.nx (ρ1.set i (.lm (arL ss)))) (i0 : i ≠ 0 := by decide) (hi : i < ρ1.length := by simp [uns]) : Sm (tAsg te (gName i)) ρ K := fun c A σ H D R f dk =>
  h c A σ H _ R f fun a vs A1 H1 R1 f1 S1 e o => dk.nx _ _ _ _ k (R1.setO (s := .lm (arL ss)) i0 hi f1 fun W S => ⟨a, vs, rfl, rfl, e, o.mono S⟩) aset_at
theorem sm_appM (h0 : ρ[k]? = some (.lm (arL ss))) (h : Ev te ρ s ρ) (len : ss.length < sizeLine) (q : K.nx (ρ.set k (.lm (arL (ss ++ [s]))))) : Sm (tDrop (tBM KF "list" rAppend (tVar k) (tCons te tNil))) ρ K := fun c A σ H D R f dk => by
  obtain ⟨b, us, e, e1, e2, o⟩ := R.sl k _ h0
  refine ⟨_, e1, Or.inl ⟨rfl, us, SqL.of e2⟩, h c A σ H _ R f fun v A1 H1 R1 f1 S1 o1 => ?_⟩
  obtain ⟨b', us', g, g1, g2, o'⟩ := R1.sl k _ h0
  rw [e1] at g1
  cases g1
  have o' : ArAll (vw c.Z A1 H1) us' ss := o'
  exact ⟨b, us', v, rfl, rfl, g2, by rw [o'.length]; exact len, dk.nx _ _ _ _ q (R1.mutO (s := .lm (arL (ss ++ [s]))) (List.getElem?_eq_some_iff.mp h0).1 g fun H' h' => ⟨b, us' ++ [v], rfl, e1, h', o'.append ⟨o1, trivial⟩⟩) f1⟩
/-- what a slot has goes to no slot -/
theorem Rp.toFlG (R : Rp c A ρ σ H) (i0 : i ≠ 0) (h : ρ[i]? = some s) (e : A i = some a) : Rp c (aset (aset A i none) fl (some a)) (ρ.set i .any) σ H := by
  have ni : i ≠ fl := idx_small R.sz h
  have back : ∀ j b, aset (aset A i none) fl (some a) j = some b → (j = fl ∧ b = a) ∨ (j ≠ i ∧ j ≠ fl ∧ A j = some b) := fun j b z => by
    by_cases q : j = fl
    · rw [q, aset_at] at z
      exact Or.inl ⟨q, (Option.some.inj z).symm⟩
    · rw [aset_ne q] at z
      by_cases q' : j = i
      · rw [q', aset_at] at z
        cases z
      · rw [aset_ne q'] at z
        exact Or.inr ⟨q', q, z⟩
  refine ⟨by rw [List.length_set, R.len], by rw [List.length_set]; exact R.sz, ?_, ?_, ?_, R.keep, R.old.trans (vw_toFl e), ?_, ?_, R.tz, R.tb.mono (vw_toFl e) fun _ _ => rfl⟩
  · intro k j b z z'
    rcases back k b z with ⟨q1, q2⟩ | ⟨n1, n2, y⟩
    · rcases back j b z' with ⟨q3, _⟩ | ⟨n3, n4, y'⟩
      · rw [q1, q3]
      · exact absurd (R.inj _ _ _ (q2 ▸ y') e) n3
    · rcases back j b z' with ⟨q3, q4⟩ | ⟨n3, n4, y'⟩
      · exact absurd (R.inj _ _ _ (q4 ▸ y) e) n1
      · exact R.inj _ _ _ y y'
  · intro j b z
    rcases back j b z with ⟨_, q⟩ | ⟨_, _, y⟩
    · rw [q]
      exact R.off _ _ e
    · exact R.off _ _ y
  · intro j b z
    rcases back j b z with ⟨_, q⟩ | ⟨_, _, y⟩
    · rw [q]
      exact R.live _ _ e
    · exact R.live _ _ y
  · intro p z
    rw [aset_ne (by decide), aset_ne i0.symm]
    exact R.bor p z
  · intro j t z
    by_cases q : j = i
    · subst q
      have lt := (List.getElem?_eq_some_iff.mp h).1
      rw [List.getElem?_set_self lt] at z
      cases z
      show aset (aset A j none) fl (some a) j = none
      rw [aset_ne ni, aset_at]
    · rw [List.getElem?_set_ne (Ne.symm q)] at z
      rw [aset_ne (idx_small R.sz z), aset_ne q]
      exact (R.sl j t z).mono (vw_toFl e) fun _ _ _ h => h
/-- such a list is seen from then on -/
theorem ev_lmF (h : ρ[i]? = some (.lm (arL ss))) (i0 : i ≠ 0 := by decide) : Ev (tVar i) ρ (.p (lstsMo ss)) (ρ.set i .any) := fun c A σ H Q R f q => by
  obtain ⟨b, us, e, e1, e2, o⟩ := R.sl i _ h
  have R1 := R.toFlG i0 h e
  have R2 := R1.land
  have S : Same (vw c.Z A H) (vw c.Z (aset (aset (aset A i none) fl (some b)) fl none) H) := (vw_toFl e).trans vw_land
  have nb : vw c.Z (aset (aset (aset A i none) fl (some b)) fl none) H b = some (.lst us) := vw_mk (R1.off _ _ aset_at) (fun k z => by
    by_cases q : k = fl
    · rw [q, aset_at] at z
      cases z
    · rw [aset_ne q] at z
      exact q (R1.inj _ _ _ z aset_at)) e2
  exact ⟨_, e1, q _ _ H R2 aset_at S ⟨b, us, rfl, nb, ArAll.mono S o⟩⟩
theorem sm_forP (h : Ev te ρ (.p (lstsMo ss)) ρ1) (R : Nat → List Sl → Prop) (h0 : R 0 ρ1) (hs : ∀ (j : Nat) s ρ', ss[j]? = some s → R j ρ' → Turn g t s ρ' (R (j + 1)) K) (hd : ∀ ρ', R ss.length ρ' → K.nx ρ') : Sm (tFor (iList KF te) g t) ρ K := fun c A σ H D R0 f dk =>
  h c A σ H _ R0 f fun v A1 H1 R1 f1 S1 o1 => by
    obtain ⟨a, vs, rfl, e, dx⟩ := o1
    refine ⟨a, rfl, ⟨_, SqL.of (vw_sub _ _ e)⟩, for_list (xs := vs) (fun j σ' H' => Stp (c.to (vw c.Z A1 H1)) (R j) σ' H') ⟨ρ1, A1, h0, R1.refr, f1⟩ ?_ ?_ ?_⟩
    · rintro j σ' H' _ ⟨ρ', A', r, R', f'⟩
      exact SqL.of (vw_sub _ _ (R'.old _ _ e))
    · rintro j w σ' H' hj ⟨ρ', A', r, R', f'⟩
      have lt : j < ss.length := by rw [← dx.length]; exact (List.getElem?_eq_some_iff.mp hj).1
      have hs' := List.getElem?_eq_getElem lt
      obtain ⟨w', hw, o⟩ := arAll_at dx hs'
      rw [hj] at hw
      cases hw
      exact (hs j _ ρ' hs' r).run R' f' (o.mono R'.old) R1.old dk
    · rintro σ' H' ⟨ρ', A', r, R', f'⟩
      rw [dx.length] at r
      exact dk.nx _ _ _ _ (hd _ r) (R'.unfr R1.old) f'
theorem tg_tupP {n : Nat} (h : Tgs gs ss ρ ρ1) (len : ss.length = n := by rfl) : Tg (gTup KF n gs) (.p (tupMo ss)) ρ ρ1 := fun c A σ H v Q R f o q => by
  obtain ⟨a, vs, rfl, e, dx⟩ := o
  exact ⟨a, vs, rfl, SqT.of (vw_sub _ _ e), dx.length.trans len, h c A σ H vs _ R f dx q⟩
theorem Ev.w {P P' : Mo} (h : Ev te ρ (.p P) ρ') (hw : ∀ v W, P.P v W → P'.P v W) : Ev te ρ (.p P') ρ' := fun c A σ H Q R f q => h c A σ H Q R f fun v A1 H1 R1 f1 S1 o1 => q v A1 H1 R1 f1 S1 (hw _ _ o1)
theorem ev_tk {q : TK} (h : ρ[i]? = some q.sl) : Ev (tVar i) ρ (.p (isV q.v)) ρ := by
  cases q with
  | dat v x => exact (ev_varp h).w fun u W z => z.1
  | lst a xs =>
    intro c A σ H Q R f q
    obtain ⟨vs, e, e1, e2, dx⟩ := R.sl i _ h
    exact ⟨_, e1, q _ A H R f (Same.refl _) rfl⟩
/-- in the whole heap it is its data -/
theorem Rp.tk (R : Rp c A ρ σ H) {q : TK} (h : ρ[i]? = some q.sl) : σ[i]? = some (some q.v) ∧ Dn H q.v q.x := by
  cases q with
  | dat v x =>
    obtain ⟨_, u, e, rfl, d⟩ := R.sl i _ h
    exact ⟨e, Dn.mono vw_sub d⟩
  | lst a xs =>
    obtain ⟨vs, e, e1, e2, dx⟩ := R.sl i _ h
    exact ⟨e1, .lst e2 (DnAll.mono vw_sub dx)⟩
/-- what is lent to a call: the lists of some slots -/
def lentZ (c : Fr) (A : Am) (L : List Nat) : Addr → Prop := fun b => c.Z b ∨ ∃ i, i ∉ L ∧ A i = some b
theorem lent_same {L : List Nat} : Same (vw c.Z A H) (hz (lentZ c A L) H) := fun b o e => by
  obtain ⟨h1, h2, h3⟩ := vw_some e
  refine hz_mk ?_ h3
  rintro (z | ⟨i, _, z⟩)
  · exact h1 z
  · exact h2 i z
theorem Rp.lentOk (R : Rp c A ρ σ H) (L : List Nat) : ZOk (lentZ c A L) H where
  there b z := by
    rcases z with z | ⟨i, _, z⟩
    · exact R.there z
    · exact R.live _ _ z
  tz b t := Or.inl (R.tz b t)
  tb := R.tb.mono lent_same fun _ _ => rfl
theorem Rp.lentDn (R : Rp c A ρ σ H) {L : List Nat} {q : TK} (h : ρ[i]? = some q.sl) (hi : i ∈ L) : Dn (hz (lentZ c A L) H) q.v q.x := by
  cases q with
  | dat v x =>
    obtain ⟨_, u, e, rfl, d⟩ := R.sl i _ h
    exact Dn.mono lent_same d
  | lst a xs =>
    obtain ⟨vs, e, e1, e2, dx⟩ := R.sl i _ h
    refine .lst (hz_mk ?_ e2) (DnAll.mono lent_same dx)
    rintro (z | ⟨j, hj, z⟩)
    · exact R.off _ _ e z
    · rw [R.inj _ _ _ z e] at hj
      exact hj hi
/-- what is seen where lists are lent is seen else, but for these lists -/
theorem Rp.lentBack (R : Rp c A ρ σ H) {L : List Nat} (SS : Aft (lentZ c A L) H H') {b : Addr} {o : HO} (nl : ∀ vs, o ≠ .lst vs) (hL : ∀ i ∈ L, ∃ q : TK, ρ[i]? = some q.sl) (e : hz (lentZ c A L) H' b = some o) : vw c.Z A H' b = some o := by
  obtain ⟨h1, h2⟩ := hz_some e
  refine vw_mk (fun z => h1 (Or.inl z)) (fun i z => ?_) h2
  by_cases hi : i ∈ L
  · obtain ⟨q, hq⟩ := hL i hi
    cases q with
    | dat v x =>
      obtain ⟨e0, _⟩ := R.sl i _ hq
      rw [e0] at z
      cases z
    | lst a xs =>
      obtain ⟨vs, g, g1, g2, _⟩ := R.sl i _ hq
      rw [g] at z
      cases z
      rw [SS.same _ _ g2 (R.nt g)] at h2
      exact nl _ (Option.some.inj h2).symm
  · exact h1 (Or.inr ⟨i, hi, z⟩)
theorem Rp.upLentG (R : Rp c A ρ σ H) {L : List Nat} (SS : Aft (lentZ c A L) H H') (hL : ∀ i ∈ L, ∃ q : TK, ρ[i]? = some q.sl) : Rp c A ρ σ H' := by
  refine R.upA ⟨SS.same, ?_⟩
  rw [hz_eq]
  intro p hp
  obtain ⟨ps, g1, g2, g3⟩ := SS.tb p hp
  refine ⟨ps, g1, g2, fun pos cv h => ?_⟩
  obtain ⟨cc, k1, k2⟩ := g3 pos cv h
  refine ⟨cc, k1, R.lentBack SS (fun vs z => ?_) hL k2⟩
  unfold LamX.CodeO at z
  cases z
/-- a call of variables, lists lent: a pair of a word and the very thing comes of it -/
theorem evp_lendG {n : Nat} {T : List Sl → (Rv → Prop) → Prop} {E : XK} {P S : Mo} (L : List Nat) (hL : ∀ i ∈ L, ∃ q : TK, ρ[i]? = some q.sl)
    (args : ∀ (c : Fr) (A : Am) (σ : L2.St) (H : Hp), Rp c A ρ σ H → ∃ vs : List V, (∀ Q : List V → Hp → Prop, Q vs H → tr σ H Q) ∧ ArAll (hz (lentZ c A L) H) vs ss) (hn : ss.length = n) (g : T ss fun r => r = .p S)
    (conv : ∀ u (W1 W : Hp), (∀ b o, (∀ vs, o ≠ .lst vs) → W1 b = some o → W b = some o) → S.P u W1 → P.P u W) : Ev (tCall (spD n T) [] E tr) ρ (.p P) ρ := fun c A σ H Q R f q => by
  obtain ⟨vs, hv, ha⟩ := args c A σ H R
  refine hv _ ⟨lentZ c A L, ss, _, R.lentOk L, by rw [List.append_nil]; exact ha, hn, g, fun r v H' hr SS o => ?_⟩
  subst hr
  have up : Same (vw c.Z A H) (vw c.Z A H') := R.vwLent SS
  exact q v A H' (R.upLentG SS hL) f up (conv v _ _ (fun b o nl e => R.lentBack SS nl hL e) o)
/-- such a list changes, by another name of it -/
theorem sm_appV {n : Int} (hk : ρ[k]? = some (.p (isV (.ref a)))) (h0 : ρ[i]? = some (.la a xs)) (len : xs.length < sizeLine) (q : K.nx (ρ.set i (.la a (xs ++ [.int n])))) : Sm (tDrop (tBM KF "list" rAppend (tVar k) (tCons (tC (.int n)) tNil))) ρ K := fun c A σ H D R f dk => by
  obtain ⟨vs, e, e1, e2, dx⟩ := R.sl i _ h0
  obtain ⟨_, u, eu, hu⟩ := R.sl k _ hk
  obtain rfl : u = .ref a := hu
  exact ⟨_, eu, Or.inl ⟨rfl, vs, SqL.of e2⟩, a, vs, .int n, rfl, rfl, e2, by rw [dx.length]; exact len, dk.nx _ _ _ _ q (R.mutA h0 (dx.snoc (.int n))) f⟩
theorem sm_pickB {z : Int} (h5 : ρ[j]? = some (.p (lstMo m k a))) (he : El te ρ ys ρ) (hi : Ev ti ρ (.d (.int z)) ρ1) (h6 : ρ1[i]? = some (.wa a xs)) (ez : z = (k : Int)) (len : m + ys.length ≤ sizeLine) (q : K.nx ((ρ1.set i .any).set j (.la a xs))) (i0 : i ≠ 0 := by decide) (j0 : j ≠ 0 := by decide) (hj : j < (ρ1.set i .any).length := by simp [uns]) :
    Sm (tAsg (tOp (rIxL KF) (tOp rCat (tVar j) te) ti) (gName j)) ρ K := fun c A σ H D R f dk => by
  obtain ⟨_, u, e, b, vs, eu, eb, l, ek⟩ := R.sl j _ h5
  subst eu
  refine ⟨_, e, he c A σ H _ R f fun b2 us A1 H1 R1 f1 S1 e1 du => ?_⟩
  refine ⟨b, b2, vs, us, rfl, rfl, vw_sub _ _ (S1 _ _ eb), e1, by rw [l, du.length]; exact len, fun p hp => ?_⟩
  have R2 := R1.land.up (Same.new (o := .lst (vs ++ us)) hp)
  refine hi c _ σ _ _ R2 aset_at fun w A3 H3 R3 f3 S3 o3 => ?_
  obtain rfl := int_v o3
  have ep : H3 p = some (.lst (vs ++ us)) := vw_sub _ _ (S3 _ _ (new_view R1.land hp upd_same))
  have lt : k < vs.length := (List.getElem?_eq_some_iff.mp ek).1
  have at' : (vs ++ us)[k]? = some (.ref a) := by rw [List.getElem?_append_left lt]; exact ek
  obtain ⟨ws, e4, e5, dx⟩ := R3.sl i _ h6
  have R4 := R3.toFlG i0 h6 e4
  refine ⟨p, _, z, .ref a, rfl, rfl, SqL.of ep, ?_, dk.nx _ _ _ _ q (R4.setO (s := .la a xs) j0 hj aset_at fun W S => ⟨ws, rfl, rfl, e5, DnAll.mono ((vw_toFl e4).trans S) dx⟩) aset_at⟩
  subst ez
  exact at_of rfl at'
theorem sm_pick1 {z : Int} (h : Ew tr ρ i k m xs) (len : m ≤ sizeLine) (ρq : Addr → List Sl) (hi : ∀ a, Ev ti (ρ.set i (.wa a xs)) (.d (.int z)) (ρq a)) (h6 : ∀ a, (ρq a)[i]? = some (.wa a xs)) (ez : z = (k : Int)) (q : ∀ a, K.nx ((ρq a).set i (.la a xs))) :
    Sm (tAsg (tOp (rIxL KF) (tLst tr) ti) (gName i)) ρ K := fun c A σ H D R f dk =>
  h c A σ H _ R f fun a vs A1 H1 R1 f1 l e => ⟨by rw [l]; exact len, fun p hp => by
    have R2 := R1.up (Same.new (o := .lst vs) hp)
    refine hi a c _ σ _ _ R2 f1 fun w A3 H3 R3 f3 S3 o3 => ?_
    obtain rfl := int_v o3
    have ep : H3 p = some (.lst vs) := vw_sub _ _ (S3 _ _ (new_view R1 hp upd_same))
    refine ⟨p, vs, z, .ref a, rfl, rfl, SqL.of ep, ?_, dk.nx _ _ _ _ (q a) (R3.fillA (h6 a)) f3⟩
    subst ez
    exact at_of rfl e⟩
end
end OW
set_option Elab.async false
set_option linter.unusedVariables false
set_option linter.unusedSectionVars false
set_option maxRecDepth 100000
set_option maxHeartbeats 1000000
namespace OW
open PySem PySem.Spec PyProof.Rows L2 KA
variable [Tbs]
/-! ### a walk over a list or a tuple; isinstance of these two; a whole number in a list -/
theorem call_isSeq {X : Cx} : CallR X (.builtin "isinstance") (fun xs H Q => ∃ x tp d, xs = [x, .ref tp] ∧ H tp = some (.tup [.ty "list", .ty "tuple"]) ∧ Dn H x d ∧ Q (.bl (isLstD d || isTupD d)) H) := by
  intro pins s σ H xs us Q I r h
  obtain ⟨x, tp, d, rfl, ht, hd, q⟩ := h
  refine call_isiT pins s σ H _ us Q I r ⟨x, tp, _, _, [.type "list", .type "tuple"], _, rfl, ht, .cons (.ty _) (.cons (.ty _) .nil), hd.ty, ?_, q⟩
  have h1 := kit_ty (K := X.K) (KA.is_lst d)
  have h2 := kit_ty (K := X.K) (KA.is_tup d)
  unfold PySem.W.kitAny
  rw [h1]
  cases isLstD d with
  | true => rfl
  | false =>
    simp only [PySem.W.kitAny, h2]
    cases isTupD d <;> rfl
section
variable {X : Cx} {tg : Expr}
def iSeq (K : PySem.W.Frag) (tl : TE) : TI := fun σ H R => iList K tl σ H R ∨ iTup K tl σ H R
theorem pi_seq {l : Expr} {tl : TE} (hl : PE X l tl) : PI X tg l (iSeq X.K tl) :=
  ⟨fun pins s σ H R I h => h.elim (fun h => (pi_list hl).run pins s σ H R I h) fun h => (pi_tup hl).run pins s σ H R I h⟩
end
section
variable {ρ ρ1 ρ' : List Sl} {te : TE} {x : PyData} {xs : List PyData} {KF : PySem.W.Frag}
theorem fi_seqL (h : Ev te ρ (.d (.list xs)) ρ1) : Fi (iSeq KF te) ρ xs ρ1 := fun c A σ H R R0 f k => Or.inl (fi_list h c A σ H R R0 f k)
theorem fi_seqT (h : Ev te ρ (.d (.tuple xs)) ρ1) : Fi (iSeq KF te) ρ xs ρ1 := fun c A σ H R R0 f k => Or.inr (fi_tup h c A σ H R R0 f k)
theorem fv_isSeq : FV (fun xs H Q => ∃ x tp d, xs = [x, .ref tp] ∧ H tp = some (.tup [.ty "list", .ty "tuple"]) ∧ Dn H x d ∧ Q (.bl (isLstD d || isTupD d)) H) [.d x, .p (tupMo [.p (isV (.ty "list")), .p (isV (.ty "tuple"))])] (.d (.bool (isLstD x || isTupD x))) := fv_s (dB (isLstD x || isTupD x)) fun W H vs Q S o q => by
  cases vs with
  | nil => exact o.elim
  | cons v vs => cases vs with
    | nil => exact o.2.elim
    | cons u vs => cases vs with
      | cons _ _ => exact o.2.2.elim
      | nil =>
        have o2 : ∃ t us, u = .ref t ∧ W t = some (.tup us) ∧ ArAll W us [.p (isV (.ty "list")), .p (isV (.ty "tuple"))] := o.2.1
        obtain ⟨t, us, rfl, e, ar⟩ := o2
        cases us with
        | nil => exact ar.elim
        | cons a us => cases us with
          | nil => exact ar.2.elim
          | cons b us => cases us with
            | cons _ _ => exact ar.2.2.elim
            | nil =>
              obtain rfl := isv_v ar.1
              obtain rfl := isv_v ar.2.1
              exact ⟨v, t, x, rfl, S _ _ e, Dn.mono S o.1, q⟩
theorem inV_int {W : Hp} (a : Int) : ∀ {vs : List V} {bs : List Int}, DnAll W vs (bs.map .int) → vs.all flatV = true ∧ inV (.int a) vs = bs.any fun b => b == a
  | [], [], _ => ⟨rfl, rfl⟩
  | v :: vs, b :: bs, h => by
    cases h with
    | cons h t =>
      cases h
      obtain ⟨p, q⟩ := inV_int a t
      refine ⟨by rw [List.all_cons, p]; rfl, ?_⟩
      unfold inV at q ⊢
      rw [List.any_cons, List.any_cons, q]
      rfl
theorem fv_inI {a : Int} {bs : List Int} : FV2 (rIn KF false) (.d (.int a)) (.d (.list (bs.map .int))) (.d (.bool (bs.any fun b => b == a))) := fv2_s (dB (bs.any fun b => b == a)) fun W H v w Q S o o' q => by
  obtain rfl := int_v o
  obtain ⟨p, vs, rfl, e, dx⟩ := lst_v o'
  obtain ⟨h1, h2⟩ := inV_int a dx
  exact ⟨p, vs, rfl, Or.inl (SqL.of (S _ _ e)), rfl, h1, by rw [h2]; exact q⟩
theorem fv_notInI {a : Int} {bs : List Int} : FV2 (rIn KF true) (.d (.int a)) (.d (.list (bs.map .int))) (.d (.bool (!bs.any fun b => b == a))) := fv2_s (dB (!bs.any fun b => b == a)) fun W H v w Q S o o' q => by
  obtain rfl := int_v o
  obtain ⟨p, vs, rfl, e, dx⟩ := lst_v o'
  obtain ⟨h1, h2⟩ := inV_int a dx
  exact ⟨p, vs, rfl, Or.inl (SqL.of (S _ _ e)), rfl, h1, by rw [h2]; exact q⟩
end
end OW
set_option Elab.async false
set_option linter.unusedVariables false
set_option linter.unusedSectionVars false
set_option maxRecDepth 100000
set_option maxHeartbeats 2000000
namespace KP
open PySem PySem.Spec PyProof.Rows L2 KA OW
/-! ### a name that is drawn -/
abbrev sLawName : Stmt := top 41
abbrev nLawName : List Str := ["_law_box_here", "_law_small", "_law_some", "_law_way", "_law_found", "_law_turn"]
theorem scLawName : FnScope nLawName ["_law_box_here"] (defScope sLawName) := ⟨rfl, rfl, rfl, by decide +kernel, rfl, by decide +kernel, by decide +kernel⟩
theorem fv_inLs {KF : PySem.W.Frag} {a : Str} {bs : List Str} : FV2 (rIn KF false) (.d (.str a)) (.d (.list (bs.map .str))) (.d (.bool (bs.any fun b => b == a))) := fv2_s (dB (bs.any fun b => b == a)) fun W H v w Q S o o' q => by
  obtain rfl := str_v o
  obtain ⟨p, vs, rfl, e, dx⟩ := lst_v o'
  obtain ⟨h1, h2⟩ := inV_str a dx
  exact ⟨p, vs, rfl, Or.inl (SqL.of (S _ _ e)), rfl, h1, by rw [h2]; exact q⟩
def nmL : List Str := ["al", "alls", "funn", "x", "xx", "sames", "selfs", "puts", "thing", "maker", "bound", "arg", "mean", "hold"]
def rawF (p : Pu) (m : Int) : Str := Txt.join (Str.ofString "") ((drawN (1 + (takeF p m).1).toNat (takeF p m).2).1.map fun c => ⟨#[c]⟩)
def fixF (x : Str) : Str := if (noNames.any fun y => y == x) = true then cutS x none (some 7) ++ ("q" : Str) else x
def wayM (w : Int) : Int := if w % 2 = 0 then 3 else 8
def nameF (p : Pu) : Str × Pu :=
  if (takeF p 4).1 = 0 then (nmL.getD (takeF (takeF p 4).2 14).1.toNat "", (takeF (takeF p 4).2 14).2)
  else (fixF (rawF (takeF p 4).2 (wayM (takeF p 4).1)), (drawN (1 + (takeF (takeF p 4).2 (wayM (takeF p 4).1)).1).toNat (takeF (takeF p 4).2 (wayM (takeF p 4).1)).2).2)
theorem wayM_ok (w : Int) : 0 < wayM w ∧ wayM w ≤ 8 := by
  unfold wayM
  split <;> decide
theorem nmL_ok : ∀ i : Nat, i < 14 → nameX (nmL.getD i "") = true := by decide +kernel
theorem cutq_ok : ∀ y ∈ noNames, nameX (cutS y none (some 7) ++ ("q" : Str)) = true := by decide +kernel
theorem rawF_ok {p : Pu} {n : Nat} {m : Int} (h : PuOk p n) (m0 : 0 < m) (m8 : m ≤ 8) : nameX (fixF (rawF p m)) = true ∧ (rawF p m).length ≤ 8 := by
  obtain ⟨t0, t1, t2⟩ := takeF_ok (m := m) h m0
  obtain ⟨d1, d2, d3⟩ := drawN_ok t2 (1 + (takeF p m).1).toNat
  have codes := join_codes (drawN (1 + (takeF p m).1).toNat (takeF p m).2).1
  have len : (rawF p m).length = (1 + (takeF p m).1).toNat := by
    show (rawF p m).cps.size = _
    rw [← Array.length_toList]
    unfold rawF
    rw [codes, d2]
  have codes : (rawF p m).cps.toList = (drawN (1 + (takeF p m).1).toNat (takeF p m).2).1 := codes
  refine ⟨?_, by omega⟩
  unfold fixF
  generalize rawF p m = x at codes len
  split
  · rename_i c
    obtain ⟨y, hy, ey⟩ := List.any_eq_true.mp c
    obtain rfl : y = x := eq_of_beq ey
    exact cutq_ok y hy
  · rename_i c
    have c : (noNames.any fun y => y == x) = false := Bool.eq_false_iff.mpr c
    unfold nameX
    rw [c, codes, d3, len]
    rw [decide_eq_true (by omega : 1 ≤ (1 + (takeF p m).1).toNat), decide_eq_true (by omega : (1 + (takeF p m).1).toNat ≤ 8)]
    rfl
theorem nameF_ok {p : Pu} {n : Nat} (h : PuOk p n) : nameX (nameF p).1 = true ∧ PuOk (nameF p).2 (n + 10) := by
  obtain ⟨t0, t1, t2⟩ := takeF_ok (m := 4) h (by decide)
  unfold nameF
  split
  · obtain ⟨u0, u1, u2⟩ := takeF_ok (m := 14) t2 (by decide)
    exact ⟨nmL_ok _ (by omega), u2.more (by omega)⟩
  · have wm := wayM_ok (takeF p 4).1
    obtain ⟨u0, u1, u2⟩ := takeF_ok (m := wayM (takeF p 4).1) t2 wm.1
    obtain ⟨d1, d2, d3⟩ := drawN_ok u2 (1 + (takeF (takeF p 4).2 (wayM (takeF p 4).1)).1).toNat
    exact ⟨(rawF_ok t2 wm.1 wm.2).1, d1.more (by omega)⟩
def tNameL : List PyData → List Sl → (Rv → List PyData → Prop) → Prop := fun c as Kr => ∃ p n, c = p.ds ∧ as = [] ∧ PuOk p n ∧ n + 10 ≤ maxN ∧ Kr (.d (.str (nameF p).1)) (nameF p).2.ds
theorem got_nm {p : Pu} {n : Nat} (h : PuOk p n) (hn : n + 10 ≤ maxN) : tNameL p.ds ([] ++ []) (fun r c' => r = .d (.str (nameF p).1) ∧ c' = (nameF p).2.ds) := ⟨p, n, rfl, rfl, h, hn, rfl, rfl⟩
section
variable {P : Program} {w : World} {K : PySem.W.Frag} {mg : Str → Option Value} {base : Heap}
theorem ok_namel {f : Addr} {fd : FuncData} (F : Fun K "_law_name" "_law_name" sLawName f fd) (T : Txt K w mg) (C_law_take : C8.Cal P w K mg base 1 "_law_take" (spB 1 tTake) []) : FnOk P w K mg base CX0 2 f fd ["_law_box_here"] (spB 0 tNameL) := by
  refine fn_b F scLawName (body := fun cdv A outer s H E hr => ⟨_, (pss_cons (ps_set (i := 1) scLawName.nd rfl (Or.inr rfl) pe_str)
      (pss_cons (ps_set (i := 2) scLawName.nd rfl (Or.inl rfl) (pe_lst (pa_cons pe_str (pa_cons pe_str (pa_cons pe_str (pa_cons pe_str (pa_cons pe_str (pa_cons pe_str (pa_cons pe_str (pa_cons pe_str (pa_cons pe_str (pa_cons pe_str (pa_cons pe_str (pa_cons pe_str (pa_cons pe_str (pa_cons pe_str pa_nil))))))))))))))))
      (pss_cons (ps_set (i := 3) scLawName.nd rfl (Or.inl rfl) (C8.pe_c C_law_take hr (by omega) rfl (pa_cons (pv 0) (pa_cons pe_int pa_nil))))
      (pss_cons (ps_if (pt_cmpR op_eq (pv 3) pe_int (nomark _)) (pss_one (ps_ret (pe_ix ix_list (pv 2) (C8.pe_c C_law_take hr (by omega) rfl (pa_cons (pv 0) (pa_cons pe_int pa_nil))) (fun _ _ => rfl)))) pss_nil) (pss_cons (ps_set (i := 4) scLawName.nd rfl (Or.inl rfl) (pe_join pe_str (pe_lc (own := [("_law_turn", 5)]) (g := gName 5) (tt := tYes) rfl scLawName.nd (pi_range1 (by rfl) T.range (pa_cons (pe_op op_add pe_int (C8.pe_c C_law_take hr (by omega) rfl (pa_cons (pv 0) (pa_cons (pe_ix ix_list (pe_lst (pa_cons pe_int (pa_cons pe_int pa_nil))) (pe_op op_mod (pv 3) pe_int) (fun _ _ => rfl)) pa_nil)))) pa_nil)) (blkOk_by (N := nLawName) (sc := defScope sLawName) (by decide +kernel)) (fun _ _ _ _ _ => (pg_name (i := 5) scLawName.nd rfl (Or.inl rfl))) (fun _ _ _ _ _ => pts_nil) (fun _ _ _ _ _ => (pe_ix ix_str (pv 1) (C8.pe_c C_law_take hr (by omega) rfl (pa_cons (pv 0) (pa_cons pe_int pa_nil))) (fun _ _ => rfl))))))
      (pss_one (ps_ret (pe_ifExp (pt_cmpR op_in_seq (pv 4) (pe_lst (pa_cons pe_str (pa_cons pe_str (pa_cons pe_str (pa_cons pe_str (pa_cons pe_str pa_nil)))))) rfl) (pe_op op_add_str (pe_slice sl_str (pv 4) po_none (po_some pe_int)) pe_str) (pv 4))))))))), ?_⟩)
  rintro ct as Kr _ ⟨p, n, rfl, rfl, hp, hn, k⟩
  obtain ⟨t0, t1, t2⟩ := takeF_ok (m := 4) hp (by decide)
  unfold nameF at k
  refine sm_seq (sm_set ev_str (sm_seq (sm_set (Ev.of_el (el_lst (xs := nmL.map .str) (eds_cons ev_str (eds_cons ev_str (eds_cons ev_str (eds_cons ev_str (eds_cons ev_str (eds_cons ev_str (eds_cons ev_str (eds_cons ev_str (eds_cons ev_str (eds_cons ev_str (eds_cons ev_str (eds_cons ev_str (eds_cons ev_str (eds_cons ev_str eds_nil)))))))))))))) (by decide))) (sm_seq (sm_set (ev_callB (i := 0) rfl (es_cons ev_int es_nil) rfl ar_nil rfl (got_take hp (by omega) (by decide) (by decide))) ?_)))))
  refine sm_seq (sm_if (et_test (ev_op (ev_var rfl) ev_int fv_eqI)) (fun h => ?_) (fun h => sm_next ?_))
  · have h : (takeF p 4).1 = 0 := of_decide_eq_true h
    rw [if_pos h] at k
    obtain ⟨u0, u1, u2⟩ := takeF_ok (m := 14) t2 (by decide)
    refine sm_ret (ev_op (ev_var rfl) (ev_callB (i := 0) rfl (es_cons ev_int es_nil) rfl ar_nil rfl (got_take t2 (by omega) (by decide) (by decide))) (fv_ixL (x := .str (nmL.getD (takeF (takeF p 4).2 14).1.toNat "")) ?_)) ⟨_, rfl, k⟩
    obtain ⟨j, ej⟩ : ∃ j : Nat, (takeF (takeF p 4).2 14).1 = (j : Int) := ⟨(takeF (takeF p 4).2 14).1.toNat, by omega⟩
    rw [ej] at u1 ⊢
    refine at_nat ?_
    have : ∀ j : Nat, j < 14 → (nmL.map PyData.str)[j]? = some (.str (nmL.getD j "")) := fun j hj => by
      rw [List.getElem?_map, List.getD_eq_getElem?_getD, List.getElem?_eq_getElem (show j < nmL.length from hj)]
      rfl
    exact this j (by omega)
  · have h : ¬ (takeF p 4).1 = 0 := of_decide_eq_false h
    rw [if_neg h] at k
    have wm := wayM_ok (takeF p 4).1
    have ew : ∀ w : Int, atI ([.int 3, .int 8] : List PyData) (w % 2) = some (.int (wayM w)) := fun w => by
      have h1 := Int.emod_nonneg w (show (2 : Int) ≠ 0 by decide)
      have h2 := Int.emod_lt_of_pos w (show (0 : Int) < 2 by decide)
      unfold wayM
      by_cases z : w % 2 = 0
      · rw [z]
        rfl
      · rw [show w % 2 = 1 by omega]
        rfl
    have ew := ew (takeF p 4).1
    generalize takeF p 4 = q0 at *
    generalize wayM q0.1 = m at *
    obtain ⟨u0, u1, u2⟩ := takeF_ok (m := m) t2 wm.1
    have dk := fun j => drawN_ok u2 j
    have ww := rawF_ok t2 wm.1 wm.2
    have e2 : rawF q0.2 m = Txt.join (Str.ofString "") ((drawN (1 + (takeF q0.2 m).1).toNat (takeF q0.2 m).2).1.map fun c => (⟨#[c]⟩ : Str)) := rfl
    generalize hx : rawF q0.2 m = x at *
    generalize hq : takeF q0.2 m = q at u0 u1 u2 dk e2 k
    have d0 := dk (1 + q.1).toNat
    refine sm_seq (sm_set (ev_joinL (ys := (drawN (1 + q.1).toNat q.2).1.map fun c => (⟨#[c]⟩ : Str)) ev_str (Ev.of_el (El.is (el_lc (ρ0 := [.l q.2.ds, .d (.str letters), .d (.list (nmL.map .str)), .d (.int q0.1), .un, .un]) (fi_rng1 (eds_cons (ev_op ev_int (ev_callB (i := 0) rfl (es_cons (ev_op (Ev.of_el (el_lst (eds_cons ev_int (eds_cons ev_int eds_nil)))) (ev_op (ev_var rfl) ev_int (fv_intC (by decide))) (fv_ixL ew)) es_nil) rfl ar_nil rfl (hq ▸ got_take t2 (by omega) wm.1 (by omega))) fv_int) eds_nil) (by omega))
      (fun j => [.l (drawN j q.2).2.ds, .d (.str letters), .d (.list (nmL.map .str)), .d (.int q0.1), .un, .any]) (fun j => (drawN j q.2).1.map fun c => .str ⟨#[c]⟩) rfl ⟨.un, rfl, trivial⟩ rfl (by decide) ?_ fun j x ex an => ?_) ?_)) ?_) ?_)
    · intro j hj
      rw [rngD_len] at hj
      rw [List.length_map, (dk j).2.1]
      exact Nat.lt_of_lt_of_le hj (Nat.le_trans (by omega : (1 + q.1).toNat ≤ 8) (by rw [sizeLine_eq]; decide))
    · obtain ⟨lt, rfl⟩ := rngD_at ex
      obtain ⟨j0, j1, j2⟩ := takeF_ok (m := 26) (dk j).1 (by decide)
      refine ⟨_, _, ev_op (ev_var rfl) (ev_callB (i := 0) rfl (es_cons ev_int es_nil) rfl ar_nil rfl (got_take (dk j).1 (by omega) (by decide) (by decide))) (fv_ixS (by decide +kernel) (letter_is j0 j1)), ?_, rfl, _, rfl, trivial⟩
      show (drawN (j + 1) q.2).1.map _ = _
      rw [show (drawN (j + 1) q.2).1 = (drawN j q.2).1 ++ [97 + (takeF (drawN j q.2).2 26).1.toNat] from rfl, List.map_append]
      rfl
    · rw [rngD_len, List.map_map]
      rfl
    · rw [sum_ones, List.length_map, d0.2.1]
      have : (Str.ofString "").length = 0 := by decide +kernel
      rw [this]
      omega
    · rw [rngD_len, ← e2]
      have k : Kr (.d (.str (fixF x))) (drawN (1 + q.1).toNat q.2).2.ds := k
      unfold fixF at k
      have lc : (cutS x none (some 7)).length ≤ 20 := by
        rw [len_cps, cut_codes, List.length_take, List.length_drop, ← len_cps]
        omega
      refine sm_ret (x := .str (if (noNames.any fun y => y == x) = true then cutS x none (some 7) ++ ("q" : Str) else x)) (ev_if (et_test (ev_op (ev_var rfl) (Ev.of_el (el_lst (eds_cons ev_str (eds_cons ev_str (eds_cons ev_str (eds_cons ev_str (eds_cons ev_str eds_nil))))))) (fv_inLs (bs := noNames)))) (fun h => Ev.is (ev_op (ev_slS (ev_var rfl) eo_none (eo_some ev_int) (by rw [sizeLine_eq]; omega)) ev_str (fv_addS ?_)) ?_) (fun h => Ev.is (ev_var rfl) ?_)) ⟨_, rfl, k⟩
      · have : ("q" : Str).length = 1 := by decide +kernel
        rw [this, sizeLine_eq]
        omega
      · rw [if_pos h]
      · rw [if_neg (by rw [h]; decide)]
end
end KP
set_option Elab.async false
set_option linter.unusedVariables false
set_option linter.unusedSectionVars false
set_option maxRecDepth 100000
set_option maxHeartbeats 2000000
namespace KP
open PySem PySem.Spec PyProof.Rows L2 KA OW
/-! ### free places -/
abbrev sFreePlaces : Stmt := top 10
abbrev nFreePlaces : List Str := ["term", "found", "part", "above"]
theorem scFreePlaces : FnScope nFreePlaces ["term"] (defScope sFreePlaces) := ⟨rfl, rfl, rfl, by decide +kernel, rfl, by decide +kernel, by decide +kernel⟩
abbrev sHeadAndGiven : Stmt := top 11
abbrev nHeadAndGiven : List Str := ["term", "head", "given"]
theorem scHeadAndGiven : FnScope nHeadAndGiven ["term"] (defScope sHeadAndGiven) := ⟨rfl, rfl, rfl, by decide +kernel, rfl, by decide +kernel, by decide +kernel⟩
theorem at_shape {ds : List PyData} (h : tm (.tuple (.str "at" :: ds)) = true) : ∃ n, ds = [.int n] ∧ 0 ≤ n := by
  rw [tm_leaf (by decide +kernel)] at h
  match ds, h with
  | [x], te =>
    have te : cntB 0 x = true := te
    cases x <;> first | exact ⟨_, rfl, of_decide_eq_true te⟩ | cases te
  | [], te => cases te
  | [x, y], te =>
    have te : (nameB x && (if ("at" : Str) = "maker" then cntB 0 y else decide (("at" : Str) = "eater") && wholeB 0 5 y)) = true := te
    rw [if_neg (by decide), decide_eq_false (by decide), Bool.false_and, Bool.and_false] at te
    cases te
  | _ :: _ :: _ :: _, te => cases te
mutual
theorem wk_tm : ∀ (d : PyData) (p : List Nat) (u : Int), tm d = true → ∀ r ∈ wk d p u, tm r.2.1 = true
  | .tuple (x :: ds), p, u, t, r, h => by
    obtain ⟨w, ds', e⟩ := tm_shape t
    injection e with e
    injection e with e1 e2
    subst e1 e2
    have h : r ∈ (p, PyData.tuple (.str w :: ds), u) :: (if (parts w).isSome = true then wkL ds w p u 0 else []) := h
    rcases List.mem_cons.mp h with rfl | h
    · exact t
    · split at h
      · rename_i hp
        have tp := parts_tm t
        rw [show partsD (.tuple (.str w :: ds)) = ds from if_pos hp] at tp
        exact wkL_tm ds w p u 0 tp r h
      · cases h
  | .tuple [], _, _, h, _, _ | .none, _, _, h, _, _ | .bool _, _, _, h, _, _ | .int _, _, _, h, _, _ | .str _, _, _, h, _, _ | .list _, _, _, h, _, _ | .dict _, _, _, h, _, _ => by cases h
theorem wkL_tm : ∀ (ds : List PyData) (w : Str) (p : List Nat) (u : Int) (i : Nat), tmAll ds = true → ∀ r ∈ wkL ds w p u i, tm r.2.1 = true
  | [], _, _, _, _, _, r, h => by cases h
  | d :: ds, w, p, u, i, t, r, h => by
    have t : tm d = true ∧ tmAll ds = true := by simpa only [tmAll, Bool.and_eq_true] using t
    have h : r ∈ wk d (p ++ [i]) (u + passD w (i : Int)) ++ wkL ds w p u (i + 1) := h
    rcases List.mem_append.mp h with h | h
    · exact wk_tm d _ _ t.1 r h
    · exact wkL_tm ds w p u (i + 1) t.2 r h
end
mutual
theorem wk_len : ∀ (d : PyData) (p : List Nat) (u : Int), (wk d p u).length ≤ nodes d
  | .tuple (.str w :: ds), p, u => by
    have := wkL_len ds w p u 0
    show ((p, PyData.tuple (.str w :: ds), u) :: (if (parts w).isSome = true then wkL ds w p u 0 else [])).length ≤ 1 + nodesAll ds + 1
    split
    · rw [List.length_cons]
      omega
    · rw [List.length_cons]
      show 0 + 1 ≤ _
      omega
  | .tuple [], p, u | .none, p, u | .bool _, p, u | .int _, p, u | .str _, p, u | .list _, p, u | .dict _, p, u => by
    simp only [wk, nodes, nodesAll, List.length_cons, List.length_nil]
    try omega
  | .tuple (.none :: ds), p, u | .tuple (.bool _ :: ds), p, u | .tuple (.int _ :: ds), p, u | .tuple (.list _ :: ds), p, u | .tuple (.tuple _ :: ds), p, u | .tuple (.dict _ :: ds), p, u => by
    simp only [wk, nodes, nodesAll, List.length_cons, List.length_nil]
    try omega
theorem wkL_len : ∀ (ds : List PyData) (w : Str) (p : List Nat) (u : Int) (i : Nat), (wkL ds w p u i).length ≤ nodesAll ds
  | [], _, _, _, _ => Nat.le_refl _
  | d :: ds, w, p, u, i => by
    have h1 := wk_len d (p ++ [i]) (u + passD w (i : Int))
    have h2 := wkL_len ds w p u (i + 1)
    show (wk d (p ++ [i]) (u + passD w (i : Int)) ++ wkL ds w p u (i + 1)).length ≤ nodes d + nodesAll ds
    rw [List.length_append]
    omega
end
/-- the free place that a part is -/
def keyOf (r : Row3) : Option Int := match r.2.1 with
  | .tuple [.str w, .int n] => if w = "at" ∧ r.2.2 ≤ n then some (n - r.2.2) else none
  | _ => none
def putI (ks : List Int) (z : Int) : List Int := if z ∈ ks then ks else ks ++ [z]
def stepI (ks : List Int) (r : Row3) : List Int := match keyOf r with
  | some z => putI ks z
  | none => ks
def keysF (rs : List Row3) : List Int := rs.foldl stepI []
def freeD (d : PyData) : List Int := (keysF (wk d [] 0)).mergeSort fun a b => decide (a ≤ b)
theorem keysF_snoc {rs : List Row3} {r : Row3} : keysF (rs ++ [r]) = stepI (keysF rs) r := by
  unfold keysF
  rw [List.foldl_append]
  rfl
theorem putI_len {ks : List Int} {z : Int} : (putI ks z).length ≤ ks.length + 1 := by
  unfold putI
  split
  · omega
  · rw [List.length_append]
    exact Nat.le_refl _
theorem stepI_len {ks : List Int} {r : Row3} : (stepI ks r).length ≤ ks.length + 1 := by
  unfold stepI
  split
  · exact putI_len
  · omega
theorem foldI_len : ∀ (rs : List Row3) (ks : List Int), (rs.foldl stepI ks).length ≤ ks.length + rs.length
  | [], ks => Nat.le_refl _
  | r :: rs, ks => by
    have := foldI_len rs (stepI ks r)
    have h := stepI_len (ks := ks) (r := r)
    rw [List.length_cons]
    show (rs.foldl stepI (stepI ks r)).length ≤ _
    omega
theorem keysF_len (rs : List Row3) : (keysF rs).length ≤ rs.length := by
  have := foldI_len rs []
  rw [List.length_nil, Nat.zero_add] at this
  exact this
theorem put_keys {kvs : List (Key × V)} {ks : List Int} {z : Int} {v : V} (h : kvs.map (·.1) = ks.map Sum.inl) : (putK kvs (Sum.inl z) v).map (·.1) = (putI ks z).map Sum.inl := by
  have an : (kvs.any fun kv => decide (kv.1 = Sum.inl z)) = true ↔ z ∈ ks := by
    rw [List.any_eq_true]
    constructor
    · rintro ⟨kv, hm, e⟩
      have e := of_decide_eq_true e
      have m : kv.1 ∈ ks.map Sum.inl := h ▸ List.mem_map_of_mem hm
      rw [e] at m
      obtain ⟨y, hy, ey⟩ := List.mem_map.mp m
      injection ey with ey
      exact ey ▸ hy
    · intro hz
      have m : (Sum.inl z : Key) ∈ kvs.map (·.1) := by
        rw [h]
        exact List.mem_map_of_mem hz
      obtain ⟨kv, hm, e⟩ := List.mem_map.mp m
      exact ⟨kv, hm, decide_eq_true e⟩
  unfold putK putI
  by_cases c : z ∈ ks
  · rw [if_pos (an.mpr c), if_pos c, ← h, List.map_map]
    refine List.map_congr_left fun kv _ => ?_
    show (if kv.1 = Sum.inl z then (kv.1, v) else kv).1 = kv.1
    split <;> rfl
  · rw [if_neg (fun q => c (an.mp q)), if_neg c, List.map_append, List.map_append, h]
    rfl
theorem sorted_is {ks : List Int} : ∀ zs : List Int, zs.Perm ks → zs.Pairwise (· ≤ ·) → zs = ks.mergeSort fun a b => decide (a ≤ b) := fun zs p h => by
  have s := List.pairwise_mergeSort (le := fun a b : Int => decide (a ≤ b)) (fun a b c h1 h2 => by simp only [decide_eq_true_eq] at *; omega) (fun a b => by simp only [Bool.or_eq_true, decide_eq_true_eq]; omega) ks
  have s' : (ks.mergeSort fun a b => decide (a ≤ b)).Pairwise (· ≤ ·) := s.imp fun h => of_decide_eq_true h
  exact List.Perm.eq_of_pairwise (le := (· ≤ ·)) (fun a b _ _ h1 h2 => Int.le_antisymm h1 h2) h s' (p.trans (List.mergeSort_perm ks _).symm)
def tFreePlaces : List Sl → (Rv → Prop) → Prop := fun as Kr => ∃ d, as = [.d d] ∧ tm d = true ∧ nodes d ≤ 900000 ∧ (keysF (wk d [] 0)).length < 64 ∧ Kr (.l ((freeD d).map .int))
def givenD (h : PyData) (ss : List PyData) : PyData := ss.foldl (fun acc s => .tuple [.str "app", acc, s]) h
theorem givenD_snoc {h s : PyData} {ss : List PyData} : givenD h (ss ++ [s]) = .tuple [.str "app", givenD h ss, s] := by
  unfold givenD
  rw [List.foldl_append]
  rfl
def tHeadGiven : List Sl → (Rv → Prop) → Prop := fun as Kr => ∃ h ss, as = [.d (givenD h ss)] ∧ tm h = true ∧ wdD h ≠ "app" ∧ ss.length ≤ 1000000 ∧ Kr (.d (.tuple [h, .list ss]))
section
variable {P : Program} {w : World} {K : PySem.W.Frag} {mg : Str → Option Value} {base : Heap}
theorem ok_freeplaces {f : Addr} {fd : FuncData} (F : Fun K "free_places" "free_places" sFreePlaces f fd) (Tsorted : mg "sorted" = none) (C_inner_terms : C8.Cal P w K mg base 2 "inner_terms" (spD 1 tInner) []) : FnOk P w K mg base CX0 3 f fd ["term"] (spD 1 tFreePlaces) := by
  refine fn_d F scFreePlaces (body := fun cdv A outer s H E hr => ?_)
  have hu1 : (A.deeper (envOfC "free_places" (defScope sFreePlaces) s.heap.objs.size f cdv)).units + 1 < cLine := by have := hr.un; omega
  refine ⟨_, (pss_cons (ps_set (i := 1) scFreePlaces.nd rfl (Or.inl rfl) pe_dnewK)
      (pss_cons (ps_for PassesOwn.never rfl (pi_list (C8.pe_c C_inner_terms hr (by omega) rfl (pa_cons (pv 0) pa_nil))) (pg_tup rfl (pgs_cons (pg_name (i := 2) scFreePlaces.nd rfl (Or.inl rfl)) (pgs_cons (pg_name (i := 3) scFreePlaces.nd rfl (Or.inl rfl)) pgs_nil))) (pss_one (ps_if (PW.pt (pw_and (pt_cmpR op_eq (pe_ix ix_tup (pv 2) pe_int (fun _ _ => rfl)) pe_str (nomark _)) (pw_and1 (pt_cmpR op_ge (pe_ix ix_tup (pv 2) pe_int (fun _ _ => rfl)) (pv 3) (nomark _))))) (pss_one (ps_asg pe_bl (pg_sub (pv 1) (pe_op op_sub (pe_ix ix_tup (pv 2) pe_int (fun _ _ => rfl)) (pv 3)) (set_dict hu1)))) pss_nil)))
      (pss_one (ps_ret (pe_callB (call_sortedDI (by rfl)) (by rfl) Tsorted (by decide +kernel) (pa_cons (pv 1) pa_nil)))))), ?_⟩
  rintro as Kr _ ⟨d, rfl, td, nd, k64, k⟩
  have wl := wk_len d [] 0
  refine (sm_seq (sm_dk0 (i := 1) (sm_seq (sm_for (fi_list (Ev.of_el (el_call (xs := (wk d [] 0).map rowI) (es_cons (ev_var rfl) es_nil) ar_nil rfl ⟨_, rfl, td, by omega, rfl⟩))) (fun j ρ => ∃ kvs s2 s3, ρ = [.d d, .dk kvs, s2, s3] ∧ kvs.map (·.1) = (keysF ((wk d [] 0).take j)).map Sum.inl) ⟨_, _, _, rfl, rfl⟩ (fun j x ρ e r => ?_) (fun ρ r => ?_)))))
  · obtain ⟨kvs, s2, s3, rfl, hk⟩ := r
    rw [List.getElem?_map] at e
    cases er : (wk d [] 0)[j]? with
    | none => rw [er] at e; cases e
    | some r =>
    rw [er] at e
    obtain rfl := Option.some.inj e
    have rm := List.mem_of_getElem? er
    have tr := wk_tm d [] 0 td r rm
    have hj := (List.getElem?_eq_some_iff.mp er).1
    obtain ⟨p, g, u⟩ := r
    have tr : tm g = true := tr
    obtain ⟨wd, ds, rfl⟩ := tm_shape tr
    have hlen : kvs.length < sizeLine := by
      have e1 : kvs.length = (keysF ((wk d [] 0).take j)).length := by
        have := congrArg List.length hk
        rw [List.length_map, List.length_map] at this
        exact this
      have e2 := keysF_len ((wk d [] 0).take j)
      rw [List.length_take] at e2
      rw [sizeLine_eq]
      omega
    refine ⟨_, (tg_tup (xs := [.tuple (.str wd :: ds), .int u]) (tgs_cons tg_name (tgs_cons tg_name tgs_nil))), ?_⟩
    by_cases hw : wd = "at"
    · subst hw
      obtain ⟨n, rfl, n0⟩ := at_shape tr
      refine (sm_if (et_and (a := true) ((et_test (ev_op (ev_op (ev_var rfl) ev_int (fv_ixT at0)) ev_str fv_eqS)).is (by simp)) fun _ => (et_test (ev_op (ev_op (ev_var rfl) ev_int (fv_ixT at1)) (ev_var rfl) fv_cmpI))) (fun h => (sm_dkSet (i := 1) (z := n - u) rfl ev_cv (ev_op (ev_op (ev_var rfl) ev_int (fv_ixT at1)) (ev_var rfl) fv_int) hlen ?_)) (fun h => (sm_next ?_)))
      · refine ⟨_, _, _, rfl, ?_⟩
        have hn : u ≤ n := by simpa using h
        rw [put_keys hk, take_snoc er, keysF_snoc]
        have : keyOf (p, PyData.tuple [.str "at", .int n], u) = some (n - u) := if_pos ⟨rfl, hn⟩
        unfold stepI
        rw [this]
      · refine ⟨_, _, _, rfl, ?_⟩
        have hn : ¬ u ≤ n := by simpa using h
        rw [hk, take_snoc er, keysF_snoc]
        have : keyOf (p, PyData.tuple [.str "at", .int n], u) = none := if_neg fun z => hn z.2
        unfold stepI
        rw [this]
    · refine (sm_if (et_and (a := false) (b := true) (ρ2 := _) ((et_test (ev_op (ev_op (ev_var rfl) ev_int (fv_ixT at0)) ev_str fv_eqS)).is (by simp [hw])) (fun h => by cases h)) (fun h => by cases h) (fun h => (sm_next ?_)))
      refine ⟨_, _, _, rfl, ?_⟩
      rw [hk, take_snoc er, keysF_snoc]
      have : keyOf (p, PyData.tuple (.str wd :: ds), u) = none := by
        unfold keyOf
        split
        · rename_i e
          injection e with e
          injection e with e1 e2
          injection e1 with e1
          subst e1
          exact if_neg fun z => hw z.1
        · rfl
      unfold stepI
      rw [this]
  · obtain ⟨kvs, s2, s3, rfl, hk⟩ := r
    rw [List.length_map, List.take_length] at hk
    exact sm_retL (el_sortedDk (i := 1) rfl hk k64 sorted_is) k
theorem ok_headgiven {f : Addr} {fd : FuncData} (F : Fun K "head_and_given" "head_and_given" sHeadAndGiven f fd) : FnOk P w K mg base CX0 1 f fd ["term"] (spD 1 tHeadGiven) := by
  refine fn_d F scHeadAndGiven (body := fun cdv A outer s H E hr => ⟨_, (pss_cons (ps_set (i := 1) scHeadAndGiven.nd rfl (Or.inl rfl) (pv 0))
      (pss_cons (ps_set (i := 2) scHeadAndGiven.nd rfl (Or.inl rfl) (pe_lst pa_nil))
      (pss_cons (ps_while PassesOwn.never (pt_cmpR op_eq (pe_ix ix_tup (pv 1) pe_int (fun _ _ => rfl)) pe_str (nomark _)) (pss_cons (ps_expr (pe_bm PySem.F.plainAttrs_list PySem.F.slot_list_append PySem.F.type_list_append mt_append (pv 2) (pa_cons (pe_ix ix_tup (pv 1) pe_int (fun _ _ => rfl)) pa_nil)))
      (pss_one (ps_set (i := 1) scHeadAndGiven.nd rfl (Or.inl rfl) (pe_ix ix_tup (pv 1) pe_int (fun _ _ => rfl))))))
      (pss_cons (ps_expr (pe_bm0 PySem.F.plainAttrs_list PySem.F.slot_list_reverse PySem.F.type_list_reverse mt_reverse (pv 2)))
      (pss_one (ps_ret (pe_tup (pa_cons (pv 1) (pa_cons (pv 2) pa_nil))))))))), ?_⟩)
  rintro as Kr _ ⟨h, ss, rfl, th, wn, ln, k⟩
  obtain ⟨wd, ds, rfl⟩ := tm_shape th
  have wn : wd ≠ "app" := wn
  refine (sm_seq (sm_set (ev_var rfl) (sm_seq (sm_setL (el_lst eds_nil) (sm_seq (sm_while (fun m ρ => ∃ pre post, ss = pre ++ post ∧ m = pre.length ∧ ρ = [.d (givenD (.tuple (.str wd :: ds)) ss), .d (givenD (.tuple (.str wd :: ds)) pre), .l post.reverse]) ⟨_, ss, [], by simp, rfl, rfl⟩ (fun m ρ w => ?_)))))))
  obtain ⟨pre, post, e, rfl, rfl⟩ := w
  rcases List.eq_nil_or_concat pre with rfl | ⟨pre', s, rfl⟩
  · rw [show givenD (.tuple (.str wd :: ds)) [] = .tuple (.str wd :: ds) from rfl]
    refine ⟨false, _, (et_test (ev_op (ev_op (ev_var rfl) ev_int (fv_ixT at0)) ev_str fv_eqS)).is (by simp [wn]), (fun q => by cases q), fun _ => ?_⟩
    have e : ss = post := e
    subst e
    refine (sm_seq (sm_rev (k := 2) rfl (sm_ret (ev_tup (eds_cons (ev_var rfl) (eds_cons (ev_varF (xs := ss) (i := 2) ?_) eds_nil))) k)))
    rw [List.reverse_reverse]
    rfl
  · simp only [List.concat_eq_append] at e ⊢
    rw [givenD_snoc]
    have lp : post.length < sizeLine := by
      have := congrArg List.length e
      rw [List.length_append] at this
      rw [sizeLine_eq]
      omega
    refine ⟨true, _, (et_test (ev_op (ev_op (ev_var rfl) ev_int (fv_ixT at0)) ev_str fv_eqS)).is (by simp), (fun _ => (sm_seq (sm_app rfl (ev_op (ev_var rfl) ev_int (fv_ixT at2)) rfl (by rw [List.length_reverse]; exact lp) (sm_set (ev_op (ev_var rfl) ev_int (fv_ixT at1)) ?_)))), fun q => by cases q⟩
    refine ⟨pre'.length, by rw [List.length_append]; exact Nat.lt_succ_self _, pre', s :: post, by rw [e, List.append_assoc]; rfl, rfl, ?_⟩
    rw [List.reverse_cons]
    rfl
end
end KP
set_option Elab.async false
set_option linter.unusedVariables false
set_option linter.unusedSectionVars false
set_option maxRecDepth 100000
set_option maxHeartbeats 1000000
namespace KP
open PySem PySem.Spec PyProof.Rows L2 KA OW
/-! ### drawn terms as data -/
theorem pt_all : parts "all" = some 2 := by decide +kernel
theorem pt_fun : parts "fun" = some 2 := by decide +kernel
theorem pt_app : parts "app" = some 2 := by decide +kernel
theorem pt_self : parts "self" = some 2 := by decide +kernel
theorem pt_tri : ∀ k, parts (triW k) = some 3 := by decide +kernel
theorem tm_two {w : Str} {x y : PyData} (h : parts w = some 2) : tm (.tuple [.str w, x, y]) = (tm x && tm y) := by
  rw [tm_parts h]
  simp [tmAll]
theorem tm_three {w : Str} {x y z : PyData} (h : parts w = some 3) : tm (.tuple [.str w, x, y, z]) = (tm x && (tm y && tm z)) := by
  rw [tm_parts h]
  simp [tmAll]
theorem leaf_at (x : PyData) : leafB "at" [x] = cntB 0 x := by
  simp only [leafB]
  rw [if_pos trivial]
theorem leaf_kind (x : PyData) : leafB "kind" [x] = wholeB 0 5 x := by
  simp only [leafB]
  rw [if_neg (by decide +kernel), if_pos trivial]
theorem leaf_name (x : PyData) : leafB "name" [x] = nameB x := by
  simp only [leafB]
  rw [if_neg (by decide +kernel), if_neg (by decide +kernel), decide_true, Bool.true_or, Bool.true_and]
theorem leaf_thing (x : PyData) : leafB "thing" [x] = nameB x := by
  simp only [leafB]
  rw [if_neg (by decide +kernel), if_neg (by decide +kernel), decide_true, Bool.or_true, Bool.true_and]
theorem leaf_maker (x y : PyData) : leafB "maker" [x, y] = (nameB x && cntB 0 y) := by
  simp only [leafB]
  rw [if_pos trivial]
theorem leaf_eater (x y : PyData) : leafB "eater" [x, y] = (nameB x && wholeB 0 5 y) := by
  simp only [leafB]
  rw [if_neg (by decide +kernel), decide_true, Bool.true_and]
theorem five_ok {n : Nat} (h : n ≤ 5) : wholeB 0 5 (.int (n : Int)) = true := by
  show (decide ((0 : Int) ≤ n) && decide ((n : Int) ≤ 5)) = true
  rw [decide_eq_true (by omega), decide_eq_true (by omega)]
  rfl
theorem cnt_ok (n : Nat) : cntB 0 (.int (n : Int)) = true := by
  show decide ((0 : Int) ≤ n) = true
  exact decide_eq_true (by omega)
theorem lf_tm : ∀ {l : Lf}, l.ok = true → tm l.d = true
  | .kind n, h => (tm_leaf (wd := "kind") (by decide +kernel)).trans ((leaf_kind _).trans (five_ok (of_decide_eq_true h)))
  | .name s, h => (tm_leaf (wd := "name") (by decide +kernel)).trans ((leaf_name _).trans h)
  | .thing s, h => (tm_leaf (wd := "thing") (by decide +kernel)).trans ((leaf_thing _).trans h)
  | .maker s n, h => by
    have h : (nameX s && decide (n ≤ 10 ^ 29)) = true := h
    rw [Bool.and_eq_true] at h
    exact (tm_leaf (wd := "maker") (by decide +kernel)).trans ((leaf_maker _ _).trans (by rw [show nameB (.str s) = nameX s from rfl, h.1, cnt_ok]; rfl))
  | .eater s n, h => by
    have h : (nameX s && decide (n ≤ 5)) = true := h
    rw [Bool.and_eq_true] at h
    exact (tm_leaf (wd := "eater") (by decide +kernel)).trans ((leaf_eater _ _).trans (by rw [show nameB (.str s) = nameX s from rfl, h.1, five_ok (of_decide_eq_true h.2)]; rfl))
theorem tm_d : ∀ {t : Tm}, t.ok = true → tm t.d = true
  | .at_ n, _ => (tm_leaf (wd := "at") (by decide +kernel)).trans ((leaf_at _).trans (cnt_ok n))
  | .lf l, h => lf_tm (l := l) h
  | .all a b, h => by
    have h : (a.ok && b.ok) = true := h
    rw [Bool.and_eq_true] at h
    exact (tm_two pt_all).trans (by rw [tm_d h.1, tm_d h.2]; rfl)
  | .fn a b, h => by
    have h : (a.ok && b.ok) = true := h
    rw [Bool.and_eq_true] at h
    exact (tm_two pt_fun).trans (by rw [tm_d h.1, tm_d h.2]; rfl)
  | .app a b, h => by
    have h : (a.ok && b.ok) = true := h
    rw [Bool.and_eq_true] at h
    exact (tm_two pt_app).trans (by rw [tm_d h.1, tm_d h.2]; rfl)
  | .self a b, h => by
    have h : (a.ok && b.ok) = true := h
    rw [Bool.and_eq_true] at h
    exact (tm_two pt_self).trans (by rw [tm_d h.1, tm_d h.2]; rfl)
  | .tri k a b c, h => by
    have h : (a.ok && b.ok && c.ok) = true := h
    rw [Bool.and_eq_true, Bool.and_eq_true] at h
    exact (tm_three (pt_tri k)).trans (by rw [tm_d h.1.1, tm_d h.1.2, tm_d h.2]; rfl)
/-! how large -/
def Tm.hg : Tm → Nat
  | .at_ _ | .lf _ => 1
  | .all a b | .fn a b | .app a b | .self a b => max a.hg b.hg + 1
  | .tri _ a b c => max a.hg (max b.hg c.hg) + 1
theorem Bd.wd {w : Str} (h : fine (.str w) = true := by decide +kernel) : Bd 0 220 (.str w) := Bd.str h
theorem lf_bd {l : Lf} (h : l.ok = true) : Bd 1 500 l.d := by
  have two : ∀ {w s : Str}, fine (.str w) = true → nameX s = true → Bd 1 500 (.tuple [.str w, .str s]) := fun {w s} hw hs => (Bd.tup (BdAll.cons (Bd.str hw) (BdAll.one (Bd.str (name_fine hs))))).mono (Nat.le_refl _) (by omega)
  have thr : ∀ {w s : Str} {n : Nat}, fine (.str w) = true → nameX s = true → n ≤ 10 ^ 29 → Bd 1 500 (.tuple [.str w, .str s, .int (n : Int)]) := fun {w s n} hw hs hn => (Bd.tup (BdAll.cons (Bd.str hw) (BdAll.cons (Bd.str (name_fine hs)) (BdAll.one (Bd.int ⟨by omega, by omega⟩))))).mono (Nat.le_refl _) (by omega)
  cases l with
  | kind n =>
    have h : n ≤ 5 := of_decide_eq_true h
    exact (Bd.tup (BdAll.cons Bd.wd (BdAll.one (Bd.int ⟨by omega, by omega⟩)))).mono (Nat.le_refl _) (by omega)
  | name s => exact two (by decide +kernel) h
  | thing s => exact two (by decide +kernel) h
  | maker s n =>
    have h : (nameX s && decide (n ≤ 10 ^ 29)) = true := h
    rw [Bool.and_eq_true] at h
    exact thr (by decide +kernel) h.1 (of_decide_eq_true h.2)
  | eater s n =>
    have h : (nameX s && decide (n ≤ 5)) = true := h
    rw [Bool.and_eq_true] at h
    exact thr (by decide +kernel) h.1 (Nat.le_trans (of_decide_eq_true h.2) (by decide))
theorem two_bd {w : Str} {x y : PyData} {k1 k2 n1 n2 : Nat} (hw : fine (.str w) = true) (h : Bd k1 n1 x) (g : Bd k2 n2 y) : Bd (max k1 k2 + 1) (n1 + n2 + 500) (.tuple [.str w, x, y]) :=
  (Bd.tup (BdAll.cons (Bd.mono (Bd.str hw) (Nat.zero_le (max k1 k2)) (Nat.le_refl _)) (BdAll.cons (h.mono (Nat.le_max_left ..) (Nat.le_refl _)) (BdAll.one (g.mono (Nat.le_max_right ..) (Nat.le_refl _)))))).mono (Nat.le_refl _) (by omega)
theorem three_bd {w : Str} {x y z : PyData} {k1 k2 k3 n1 n2 n3 : Nat} (hw : fine (.str w) = true) (h : Bd k1 n1 x) (g : Bd k2 n2 y) (f : Bd k3 n3 z) : Bd (max k1 (max k2 k3) + 1) (n1 + n2 + n3 + 500) (.tuple [.str w, x, y, z]) :=
  (Bd.tup (BdAll.cons (Bd.mono (Bd.str hw) (Nat.zero_le (max k1 (max k2 k3))) (Nat.le_refl _)) (BdAll.cons (h.mono (by omega) (Nat.le_refl _)) (BdAll.cons (g.mono (by omega) (Nat.le_refl _)) (BdAll.one (f.mono (by omega) (Nat.le_refl _))))))).mono (Nat.le_refl _) (by omega)
theorem tri_fine : ∀ k, fine (.str (triW k)) = true := by decide +kernel
theorem bd_d : ∀ {t : Tm}, t.ok = true → Bd t.hg (500 * t.sz) t.d
  | .at_ n, h => by
    have h : n ≤ 100000 := of_decide_eq_true h
    exact (Bd.tup (BdAll.cons Bd.wd (BdAll.one (Bd.int ⟨by omega, by omega⟩)))).mono (Nat.le_refl _) (by show _ ≤ 500 * 1; omega)
  | .lf l, h => lf_bd (l := l) h
  | .all a b, h | .fn a b, h | .app a b, h | .self a b, h => by
    have h : (a.ok && b.ok) = true := h
    rw [Bool.and_eq_true] at h
    exact (two_bd (by decide +kernel) (bd_d h.1) (bd_d h.2)).mono (Nat.le_refl _) (by show _ ≤ 500 * (a.sz + b.sz + 1); omega)
  | .tri k a b c, h => by
    have h : (a.ok && b.ok && c.ok) = true := h
    rw [Bool.and_eq_true, Bool.and_eq_true] at h
    exact (three_bd (tri_fine k) (bd_d h.1.1) (bd_d h.1.2) (bd_d h.2)).mono (Nat.le_refl _) (by show _ ≤ 500 * (a.sz + b.sz + c.sz + 1); omega)
theorem nodes_d : ∀ t : Tm, nodes t.d ≤ 4 * t.sz
  | .at_ n => by show 3 ≤ 4; omega
  | .lf (.kind _) | .lf (.name _) | .lf (.thing _) => by show 3 ≤ 4; omega
  | .lf (.maker _ _) | .lf (.eater _ _) => by show 4 ≤ 4; omega
  | .all a b | .fn a b | .app a b | .self a b => by
    have h1 := nodes_d a
    have h2 := nodes_d b
    show (1 + (nodes a.d + (nodes b.d + 0))) + 1 ≤ 4 * (a.sz + b.sz + 1)
    omega
  | .tri k a b c => by
    have h1 := nodes_d a
    have h2 := nodes_d b
    have h3 := nodes_d c
    show (1 + (nodes a.d + (nodes b.d + (nodes c.d + 0)))) + 1 ≤ 4 * (a.sz + b.sz + c.sz + 1)
    omega
/-! free places -/
def natz (l : List Nat) : List Int := l.map Int.ofNat
theorem natz_app (a b : List Nat) : natz (a ++ b) = natz a ++ natz b := List.map_append
theorem wk_two {w : Str} {x y : PyData} {p : List Nat} {u : Int} (h : parts w = some 2) : wk (.tuple [.str w, x, y]) p u = (p, .tuple [.str w, x, y], u) :: (wk x (p ++ [0]) (u + passD w 0) ++ wk y (p ++ [1]) (u + passD w 1)) := by
  show (p, PyData.tuple [.str w, x, y], u) :: (if (parts w).isSome = true then wkL [x, y] w p u 0 else []) = _
  rw [h, if_pos (show (some 2 : Option Nat).isSome = true from rfl)]
  show _ :: (wk x (p ++ [0]) (u + passD w ((0 : Nat) : Int)) ++ (wk y (p ++ [1]) (u + passD w ((1 : Nat) : Int)) ++ [])) = _
  rw [List.append_nil]
  rfl
theorem wk_three {w : Str} {x y z : PyData} {p : List Nat} {u : Int} (h : parts w = some 3) : wk (.tuple [.str w, x, y, z]) p u = (p, .tuple [.str w, x, y, z], u) :: (wk x (p ++ [0]) (u + passD w 0) ++ (wk y (p ++ [1]) (u + passD w 1) ++ wk z (p ++ [2]) (u + passD w 2))) := by
  show (p, PyData.tuple [.str w, x, y, z], u) :: (if (parts w).isSome = true then wkL [x, y, z] w p u 0 else []) = _
  rw [h, if_pos (show (some 3 : Option Nat).isSome = true from rfl)]
  show _ :: (wk x (p ++ [0]) (u + passD w ((0 : Nat) : Int)) ++ (wk y (p ++ [1]) (u + passD w ((1 : Nat) : Int)) ++ (wk z (p ++ [2]) (u + passD w ((2 : Nat) : Int)) ++ []))) = _
  rw [List.append_nil]
  rfl
theorem pass_no {w : Str} {i : Int} (h : ¬ (i = 1 ∧ (w = "all" ∨ w = "fun"))) : passD w i = 0 := if_neg h
theorem step_no {w : Str} {ds : List PyData} {p : List Nat} {u : Int} {ks : List Int} (h : w ≠ "at") : stepI ks (p, .tuple (.str w :: ds), u) = ks := by
  unfold stepI keyOf
  split
  · rename_i e
    split at e
    · rename_i e2
      injection e2 with e2
      injection e2 with e2 _
      injection e2 with e2
      subst e2
      rw [if_neg fun z => h z.1] at e
      cases e
    · cases e
  · rfl
theorem keys_wk : ∀ (t : Tm) (p : List Nat) (u : Nat) (ks : List Int), (wk t.d p (u : Int)).foldl stepI ks = (natz (fr u t)).foldl putI ks
  | .at_ n, p, u, ks => by
    have e : wk (.tuple [.str "at", .int (n : Int)]) p (u : Int) = [(p, .tuple [.str "at", .int (n : Int)], (u : Int))] := by
      show (p, PyData.tuple [.str "at", .int (n : Int)], (u : Int)) :: (if (parts "at").isSome = true then _ else []) = _
      rw [if_neg (by decide +kernel)]
    show (wk (.tuple [.str "at", .int (n : Int)]) p (u : Int)).foldl stepI ks = _
    rw [e]
    show stepI ks (p, .tuple [.str "at", .int (n : Int)], (u : Int)) = (natz (if u ≤ n then [n - u] else [])).foldl putI ks
    by_cases h : u ≤ n
    · have k : keyOf (p, PyData.tuple [.str "at", .int (n : Int)], (u : Int)) = some ((n : Int) - u) := if_pos ⟨rfl, by show (u : Int) ≤ (n : Int); omega⟩
      unfold stepI
      rw [k, if_pos h]
      show putI ks ((n : Int) - u) = putI ks ((n - u : Nat) : Int)
      rw [Int.natCast_sub h]
    · have k : keyOf (p, PyData.tuple [.str "at", .int (n : Int)], (u : Int)) = none := if_neg fun z => h (by have := z.2; have : (u : Int) ≤ (n : Int) := this; omega)
      unfold stepI
      rw [k, if_neg h]
      rfl
  | .lf l, p, u, ks => by
    have no : ∀ {w : Str} {ds : List PyData}, (parts w).isSome = false → w ≠ "at" → (wk (.tuple (.str w :: ds)) p (u : Int)).foldl stepI ks = ks := fun {w ds} h n => by
      have e : wk (.tuple (.str w :: ds)) p (u : Int) = [(p, .tuple (.str w :: ds), (u : Int))] := by
        show (p, PyData.tuple (.str w :: ds), (u : Int)) :: (if (parts w).isSome = true then _ else []) = _
        rw [h, if_neg (by decide)]
      rw [e]
      exact step_no n
    cases l with
    | kind n => exact no (w := "kind") (by decide +kernel) (by decide)
    | name n => exact no (w := "name") (by decide +kernel) (by decide)
    | thing n => exact no (w := "thing") (by decide +kernel) (by decide)
    | maker s n => exact no (w := "maker") (by decide +kernel) (by decide)
    | eater s n => exact no (w := "eater") (by decide +kernel) (by decide)
  | .all a b, p, u, ks => by
    show (wk (.tuple [.str "all", a.d, b.d]) p (u : Int)).foldl stepI ks = (natz (fr u a ++ fr (u + 1) b)).foldl putI ks
    rw [wk_two pt_all, List.foldl_cons, step_no (by decide), List.foldl_append, natz_app, List.foldl_append, pass_no (by rintro ⟨z, _⟩; cases z), show passD "all" 1 = 1 from if_pos ⟨rfl, Or.inl rfl⟩, Int.add_zero, keys_wk a, show (u : Int) + 1 = ((u + 1 : Nat) : Int) from rfl, keys_wk b]
  | .fn a b, p, u, ks => by
    show (wk (.tuple [.str "fun", a.d, b.d]) p (u : Int)).foldl stepI ks = (natz (fr u a ++ fr (u + 1) b)).foldl putI ks
    rw [wk_two pt_fun, List.foldl_cons, step_no (by decide), List.foldl_append, natz_app, List.foldl_append, pass_no (by rintro ⟨z, _⟩; cases z), show passD "fun" 1 = 1 from if_pos ⟨rfl, Or.inr rfl⟩, Int.add_zero, keys_wk a, show (u : Int) + 1 = ((u + 1 : Nat) : Int) from rfl, keys_wk b]
  | .app a b, p, u, ks => by
    show (wk (.tuple [.str "app", a.d, b.d]) p (u : Int)).foldl stepI ks = (natz (fr u a ++ fr u b)).foldl putI ks
    rw [wk_two pt_app, List.foldl_cons, step_no (by decide), List.foldl_append, natz_app, List.foldl_append, pass_no (by decide), pass_no (by decide), Int.add_zero, keys_wk a, keys_wk b]
  | .self a b, p, u, ks => by
    show (wk (.tuple [.str "self", a.d, b.d]) p (u : Int)).foldl stepI ks = (natz (fr u a ++ fr u b)).foldl putI ks
    rw [wk_two pt_self, List.foldl_cons, step_no (by decide), List.foldl_append, natz_app, List.foldl_append, pass_no (by decide), pass_no (by decide), Int.add_zero, keys_wk a, keys_wk b]
  | .tri k a b c, p, u, ks => by
    have n1 : triW k ≠ "at" := by cases k <;> decide
    have n2 : ∀ i, passD (triW k) i = 0 := fun i => pass_no (by cases k <;> (rintro ⟨_, z | z⟩ <;> exact absurd z (by decide)))
    show (wk (.tuple [.str (triW k), a.d, b.d, c.d]) p (u : Int)).foldl stepI ks = (natz (fr u a ++ (fr u b ++ fr u c))).foldl putI ks
    rw [wk_three (pt_tri k), List.foldl_cons, step_no n1, List.foldl_append, List.foldl_append, natz_app, natz_app, List.foldl_append, List.foldl_append, n2, n2, n2, Int.add_zero, keys_wk a, keys_wk b, keys_wk c]
theorem put_mem : ∀ (l ks : List Int) (z : Int), z ∈ l.foldl putI ks ↔ z ∈ ks ∨ z ∈ l
  | [], ks, z => by simp
  | x :: l, ks, z => by
    rw [List.foldl_cons, put_mem l (putI ks x) z, List.mem_cons]
    have : z ∈ putI ks x ↔ z ∈ ks ∨ z = x := by
      unfold putI
      split
      · rename_i h
        constructor
        · exact Or.inl
        · rintro (h1 | rfl)
          · exact h1
          · exact h
      · rw [List.mem_append, List.mem_singleton]
    rw [this, or_assoc]
theorem put_len : ∀ (l ks : List Int), (l.foldl putI ks).length ≤ ks.length + l.length
  | [], ks => Nat.le_refl _
  | x :: l, ks => by
    have h1 := put_len l (putI ks x)
    have h2 := putI_len (ks := ks) (z := x)
    rw [List.foldl_cons, List.length_cons]
    omega
theorem free_mem {t : Tm} {n : Nat} : (n : Int) ∈ freeD t.d ↔ n ∈ fr 0 t := by
  unfold freeD
  rw [(List.mergeSort_perm _ _).mem_iff]
  show (n : Int) ∈ (wk t.d [] ((0 : Nat) : Int)).foldl stepI [] ↔ _
  rw [keys_wk, put_mem]
  unfold natz
  rw [List.mem_map]
  constructor
  · rintro (h | ⟨m, hm, e⟩)
    · cases h
    · rw [← Int.ofNat.inj e]
      exact hm
  · exact fun h => Or.inr ⟨n, h, rfl⟩
theorem free_nat {t : Tm} {z : Int} (h : z ∈ freeD t.d) : ∃ n, n ∈ fr 0 t ∧ z = (n : Int) := by
  unfold freeD at h
  rw [(List.mergeSort_perm _ _).mem_iff] at h
  have h : z ∈ (wk t.d [] ((0 : Nat) : Int)).foldl stepI [] := h
  rw [keys_wk, put_mem] at h
  rcases h with h | h
  · cases h
  · obtain ⟨m, hm, e⟩ := List.mem_map.mp h
    exact ⟨m, hm, e.symm⟩
theorem keys_few {t : Tm} : (keysF (wk t.d [] 0)).length ≤ (fr 0 t).length := by
  have h := put_len (natz (fr 0 t)) []
  have e : keysF (wk t.d [] 0) = (natz (fr 0 t)).foldl putI [] := keys_wk t [] 0 []
  rw [e]
  unfold natz at h ⊢
  rw [List.length_map, List.length_nil, Nat.zero_add] at h
  exact h
end KP
set_option Elab.async false
set_option linter.unusedVariables false
set_option linter.unusedSectionVars false
set_option maxRecDepth 100000
set_option maxHeartbeats 2000000
namespace KP
open PySem PySem.Spec PyProof.Rows L2 KA OW
/-! ### how long texts of numbers are -/
theorem numS_codes {n : Nat} : (numS n).cps.toList = (Nat.toDigits 10 n).map Char.toNat := by
  show (Str.ofString (toString (n : Int))).cps.toList = _
  rw [Str.ofString_eq_toList]
  show ((toString (n : Int)).toList.map Char.toNat) = _
  rw [Int.toString_eq_repr, Int.repr_eq_if, if_pos (by omega), Nat.toList_repr]
  rfl
theorem numS_len {n : Nat} (h : n < 10 ^ 30) : (numS n).length ≤ 30 := by
  rw [len_cps, numS_codes, List.length_map]
  exact digits10_le (by decide) h
theorem numS_plain {n : Nat} : (numS n).cps.toList.all GL.plain = true := by
  rw [List.all_eq_true]
  intro c hc
  have f : ∀ k, (k < 45 ∨ (45 < k ∧ k < 48) ∨ k = 91 ∨ k = 93) → c ≠ k := fun k hk e => int_text_free k hk (n : Int) (e ▸ hc)
  unfold GL.plain
  simp only [Bool.and_eq_true, bne_iff_ne, ne_eq]
  exact ⟨⟨f 32 (Or.inl (by decide)), f 40 (Or.inl (by decide))⟩, f 41 (Or.inl (by decide))⟩
theorem plain_of {a : Str} (h : a.cps.toList.all GL.plain = true) (l : 1 ≤ a.length) : plainW a = true := by
  unfold plainW
  rw [h, Bool.and_true]
  cases e : a.cps.toList with
  | nil =>
    rw [len_cps, e] at l
    cases l
  | cons c r => rfl
theorem plain_app {a b : Str} (h : a.cps.toList.all GL.plain = true) (g : b.cps.toList.all GL.plain = true) : (a ++ b).cps.toList.all GL.plain = true := by
  rw [Str.cps_append, Array.toList_append, List.all_append, h, g]
  rfl
theorem name_len {x : Str} (h : nameX x = true) : 1 ≤ x.length ∧ x.length ≤ 8 := by
  unfold nameX at h
  simp only [Bool.and_eq_true, decide_eq_true_eq] at h
  exact ⟨h.2.1.1, h.2.1.2⟩
theorem name_plain {x : Str} (h : nameX x = true) : x.cps.toList.all GL.plain = true := by
  unfold nameX at h
  simp only [Bool.and_eq_true, decide_eq_true_eq, List.all_eq_true] at h
  rw [List.all_eq_true]
  intro c hc
  have := h.2.2 c hc
  unfold letterB at this
  simp only [Bool.and_eq_true, decide_eq_true_eq] at this
  unfold GL.plain
  simp only [Bool.and_eq_true, bne_iff_ne, ne_eq]
  omega
theorem len_add (a b : Str) : (a ++ b).length = a.length + b.length := Str.length_append a b
theorem cLen : ∀ c : Str, c = "*" ∨ c = "@" ∨ c = "#" ∨ c = "!" ∨ c = "x" → c.length = 1 ∧ c.cps.toList.all GL.plain = true := by
  rintro c (rfl | rfl | rfl | rfl | rfl) <;> decide +kernel
theorem xw_ok {n : Nat} (h : n < 10 ^ 30) : plainW (xw n) = true ∧ (xw n).length ≤ 31 := by
  obtain ⟨l, p⟩ := cLen "x" (by simp)
  have := numS_len h
  have e := len_add "x" (numS n)
  refine ⟨plain_of (plain_app p numS_plain) ?_, ?_⟩ <;> (show _ ≤ _; unfold xw; omega)
theorem lw_ok {l : Lf} (h : l.ok = true) : plainW l.w = true ∧ l.w.length ≤ 50 := by
  obtain ⟨l1, p1⟩ := cLen "*" (by simp)
  obtain ⟨l2, p2⟩ := cLen "@" (by simp)
  obtain ⟨l3, p3⟩ := cLen "#" (by simp)
  obtain ⟨l4, p4⟩ := cLen "!" (by simp)
  cases l with
  | kind n =>
    have h : n ≤ 5 := of_decide_eq_true h
    have := numS_len (n := n) (by omega)
    have e := len_add "*" (numS n)
    exact ⟨plain_of (plain_app p1 numS_plain) (by show 1 ≤ ("*" ++ numS n).length; omega), by show ("*" ++ numS n).length ≤ _; omega⟩
  | name s =>
    have h : nameX s = true := h
    have := name_len h
    have e := len_add "@" s
    exact ⟨plain_of (plain_app p2 (name_plain h)) (by show 1 ≤ ("@" ++ s).length; omega), by show ("@" ++ s).length ≤ _; omega⟩
  | thing s =>
    have h : nameX s = true := h
    have := name_len h
    exact ⟨plain_of (name_plain h) this.1, by show s.length ≤ _; omega⟩
  | maker s n =>
    have h : (nameX s && decide (n ≤ 10 ^ 29)) = true := h
    rw [Bool.and_eq_true] at h
    have hn := of_decide_eq_true h.2
    have := name_len h.1
    have := numS_len (n := n) (by omega)
    have e := len_add (s ++ "#") (numS n)
    have e2 := len_add s "#"
    exact ⟨plain_of (plain_app (plain_app (name_plain h.1) p3) numS_plain) (by show 1 ≤ (s ++ "#" ++ numS n).length; omega), by show (s ++ "#" ++ numS n).length ≤ _; omega⟩
  | eater s n =>
    have h : (nameX s && decide (n ≤ 5)) = true := h
    rw [Bool.and_eq_true] at h
    have hn := of_decide_eq_true h.2
    have := name_len h.1
    have := numS_len (n := n) (by omega)
    have e := len_add (s ++ "!") (numS n)
    have e2 := len_add s "!"
    exact ⟨plain_of (plain_app (plain_app (name_plain h.1) p4) numS_plain) (by show 1 ≤ (s ++ "!" ++ numS n).length; omega), by show (s ++ "!" ++ numS n).length ≤ _; omega⟩
/-! the words of a term are such -/
def wl (ws : List Str) : Nat := (ws.map fun s => s.length + 1).sum
theorem wl_app (a b : List Str) : wl (a ++ b) = wl a + wl b := by
  unfold wl
  rw [List.map_append, List.sum_append]
theorem wl_cons (a : Str) (b : List Str) : wl (a :: b) = a.length + 1 + wl b := by
  unfold wl
  rw [List.map_cons, List.sum_cons]
theorem wl_br (b : Bool) (ws : List Str) : wl (br b ws) ≤ wl ws + 4 := by
  cases b with
  | false => exact Nat.le_add_right ..
  | true =>
    show wl (sO :: (ws ++ [sC])) ≤ _
    rw [wl_cons, wl_app, wl_cons]
    have h1 : sO.length = 1 := by decide +kernel
    have h2 : sC.length = 1 := by decide +kernel
    have h3 : wl [] = 0 := rfl
    omega
theorem cW : ∀ c : Str, c = "all" ∨ c = "fun" ∨ c = ":" ∨ c = sDot ∨ c = sTo ∨ c = "self" ∨ c = "same" ∨ c = "put" → plainW c = true ∧ c.length ≤ 4 := by
  rintro c (rfl | rfl | rfl | rfl | rfl | rfl | rfl | rfl) <;> decide +kernel
theorem triW_ok (k : Bool) : plainW (triW k) = true ∧ (triW k).length ≤ 4 := by
  cases k
  · exact cW _ (by simp [triW])
  · exact cW _ (by simp [triW])
theorem cl_two {ar : List Bool} {a b : List Nat} (h : ∀ i ∈ a ++ b, ar[i]? = some true) : (∀ i ∈ a, ar[i]? = some true) ∧ ∀ i ∈ b, ar[i]? = some true := ⟨fun i hi => h i (List.mem_append_left _ hi), fun i hi => h i (List.mem_append_right _ hi)⟩
theorem and2 {a b : Bool} (h : (a && b) = true) : a = true ∧ b = true := by rwa [Bool.and_eq_true] at h
theorem ws_ok : ∀ {t : Tm} {ar : List Bool}, t.ok = true → Cl ar t → cnt ar + t.sz < 10 ^ 30 → Nice (ws ar t) ∧ wl (ws ar t) ≤ 100 * t.sz
  | .at_ n, ar, h, hc, hb => by
    have e := nms_at (hc n (by unfold fr; rw [if_pos (Nat.zero_le n)]; exact List.mem_singleton_self _))
    have e2 : ws ar (.at_ n) = [xw (cnt ar - 1 - cnt (ar.take n))] := by
      show [(nms ar).getD n ""] = _
      rw [List.getD_eq_getElem?_getD, e]
      rfl
    have hx := xw_ok (n := cnt ar - 1 - cnt (ar.take n)) (by omega)
    rw [e2]
    refine ⟨Nice.one hx.1, ?_⟩
    rw [wl_cons]
    show _ + 1 + 0 ≤ 100 * 1
    omega
  | .lf l, ar, h, hc, hb => by
    have hx := lw_ok (l := l) h
    refine ⟨Nice.one hx.1, ?_⟩
    show wl [l.w] ≤ _
    rw [wl_cons]
    show _ + 1 + 0 ≤ 100 * 1
    omega
  | .all a b, ar, h, hc, hb => by
    obtain ⟨ha, hb'⟩ := and2 (a := a.ok) (b := b.ok) h
    obtain ⟨ca, cb⟩ := cl_two (a := fr 0 a) (b := fr 1 b) hc
    have hb : cnt ar + (a.sz + b.sz + 1) < 10 ^ 30 := hb
    obtain ⟨na, la⟩ := ws_ok (t := a) (ar := ar) ha ca (by omega)
    have hx := xw_ok (n := cnt ar) (by omega)
    have k1 := cW "all" (by simp)
    have k2 := cW ":" (by simp)
    have k3 := cW sDot (by simp)
    have k4 := cW sTo (by simp)
    show Nice (if 0 ∈ fr 0 b then _ else _) ∧ wl (if 0 ∈ fr 0 b then _ else _) ≤ 100 * (a.sz + b.sz + 1)
    by_cases z : 0 ∈ fr 0 b
    · rw [if_pos z]
      have ct : cnt (true :: ar) = cnt ar + 1 := by
        unfold cnt
        rw [List.count_cons_self]
      obtain ⟨nb, lb⟩ := ws_ok (t := b) (ar := true :: ar) hb' (Cl.under cb) (by omega)
      refine ⟨Nice.cons k1.1 (Nice.cons hx.1 (Nice.cons k2.1 (na.app (Nice.cons k3.1 nb)))), ?_⟩
      rw [wl_cons, wl_cons, wl_cons, wl_app, wl_cons]
      omega
    · rw [if_neg z]
      have ct : cnt (false :: ar) = cnt ar := by
        unfold cnt
        rw [List.count_cons_of_ne (by decide)]
      obtain ⟨nb, lb⟩ := ws_ok (t := b) (ar := false :: ar) hb' (Cl.skip cb z) (by omega)
      refine ⟨na.br.app (Nice.cons k4.1 nb), ?_⟩
      have := wl_br (decide (2 < a.lv)) (ws ar a)
      rw [wl_app, wl_cons]
      omega
  | .fn a b, ar, h, hc, hb => by
    obtain ⟨ha, hb'⟩ := and2 (a := a.ok) (b := b.ok) h
    obtain ⟨ca, cb⟩ := cl_two (a := fr 0 a) (b := fr 1 b) hc
    have hb : cnt ar + (a.sz + b.sz + 1) < 10 ^ 30 := hb
    obtain ⟨na, la⟩ := ws_ok (t := a) (ar := ar) ha ca (by omega)
    have hx := xw_ok (n := cnt ar) (by omega)
    have k1 := cW "fun" (by simp)
    have k2 := cW ":" (by simp)
    have k3 := cW sDot (by simp)
    have ct : cnt (true :: ar) = cnt ar + 1 := by
      unfold cnt
      rw [List.count_cons_self]
    obtain ⟨nb, lb⟩ := ws_ok (t := b) (ar := true :: ar) hb' (Cl.under cb) (by omega)
    show Nice ("fun" :: xw (cnt ar) :: ":" :: (ws ar a ++ sDot :: ws (true :: ar) b)) ∧ wl ("fun" :: xw (cnt ar) :: ":" :: (ws ar a ++ sDot :: ws (true :: ar) b)) ≤ 100 * (a.sz + b.sz + 1)
    refine ⟨Nice.cons k1.1 (Nice.cons hx.1 (Nice.cons k2.1 (na.app (Nice.cons k3.1 nb)))), ?_⟩
    rw [wl_cons, wl_cons, wl_cons, wl_app, wl_cons]
    omega
  | .app a b, ar, h, hc, hb => by
    obtain ⟨ha, hb'⟩ := and2 (a := a.ok) (b := b.ok) h
    obtain ⟨ca, cb⟩ := cl_two (a := fr 0 a) (b := fr 0 b) hc
    have hb : cnt ar + (a.sz + b.sz + 1) < 10 ^ 30 := hb
    obtain ⟨na, la⟩ := ws_ok (t := a) (ar := ar) ha ca (by omega)
    obtain ⟨nb, lb⟩ := ws_ok (t := b) (ar := ar) hb' cb (by omega)
    have h1 := wl_br (decide (1 < a.lv)) (ws ar a)
    have h2 := wl_br (decide (0 < b.lv)) (ws ar b)
    refine ⟨na.br.app nb.br, ?_⟩
    show wl (br (decide (1 < a.lv)) (ws ar a) ++ br (decide (0 < b.lv)) (ws ar b)) ≤ 100 * (a.sz + b.sz + 1)
    rw [wl_app]
    omega
  | .self a b, ar, h, hc, hb => by
    obtain ⟨ha, hb'⟩ := and2 (a := a.ok) (b := b.ok) h
    obtain ⟨ca, cb⟩ := cl_two (a := fr 0 a) (b := fr 0 b) hc
    have hb : cnt ar + (a.sz + b.sz + 1) < 10 ^ 30 := hb
    obtain ⟨na, la⟩ := ws_ok (t := a) (ar := ar) ha ca (by omega)
    obtain ⟨nb, lb⟩ := ws_ok (t := b) (ar := ar) hb' cb (by omega)
    have h1 := wl_br (decide (0 < a.lv)) (ws ar a)
    have h2 := wl_br (decide (0 < b.lv)) (ws ar b)
    have k1 := cW "self" (by simp)
    refine ⟨Nice.cons k1.1 (na.br.app nb.br), ?_⟩
    show wl ("self" :: (br (decide (0 < a.lv)) (ws ar a) ++ br (decide (0 < b.lv)) (ws ar b))) ≤ 100 * (a.sz + b.sz + 1)
    rw [wl_cons, wl_app]
    omega
  | .tri k a b c, ar, h, hc, hb => by
    obtain ⟨hab, hcc⟩ := and2 (a := a.ok && b.ok) (b := c.ok) h
    obtain ⟨ha, hb'⟩ := and2 hab
    obtain ⟨ca, cbc⟩ := cl_two (a := fr 0 a) (b := fr 0 b ++ fr 0 c) hc
    obtain ⟨cb, cc⟩ := cl_two cbc
    have hb : cnt ar + (a.sz + b.sz + c.sz + 1) < 10 ^ 30 := hb
    obtain ⟨na, la⟩ := ws_ok (t := a) (ar := ar) ha ca (by omega)
    obtain ⟨nb, lb⟩ := ws_ok (t := b) (ar := ar) hb' cb (by omega)
    obtain ⟨nc, lc⟩ := ws_ok (t := c) (ar := ar) hcc cc (by omega)
    have h1 := wl_br (decide (0 < a.lv)) (ws ar a)
    have h2 := wl_br (decide (0 < b.lv)) (ws ar b)
    have h3 := wl_br (decide (0 < c.lv)) (ws ar c)
    have k1 := triW_ok k
    refine ⟨Nice.cons k1.1 (na.br.app (nb.br.app nc.br)), ?_⟩
    show wl (triW k :: (br (decide (0 < a.lv)) (ws ar a) ++ (br (decide (0 < b.lv)) (ws ar b) ++ br (decide (0 < c.lv)) (ws ar c)))) ≤ 100 * (a.sz + b.sz + c.sz + 1)
    rw [wl_cons, wl_app, wl_app]
    omega
end KP
set_option Elab.async false
set_option linter.unusedVariables false
set_option linter.unusedSectionVars false
set_option maxRecDepth 100000
set_option maxHeartbeats 2000000
namespace KP
open PySem PySem.Spec PyProof.Rows L2 KA OW
/-! ### words into one text; a word of a leaf; within brackets; whether a term fits -/
abbrev sTextOf : Stmt := top 25
abbrev nTextOf : List Str := ["words"]
theorem scTextOf : FnScope nTextOf ["words"] (defScope sTextOf) := ⟨rfl, rfl, rfl, by decide +kernel, rfl, by decide +kernel, by decide +kernel⟩
abbrev sWithin : Stmt := top 32
abbrev nWithin : List Str := ["part", "around", "many", "bracketed", "piece"]
theorem scWithin : FnScope nWithin ["part", "around", "many", "bracketed"] (defScope sWithin) := ⟨rfl, rfl, rfl, by decide +kernel, rfl, by decide +kernel, by decide +kernel⟩
abbrev sWordOf : Stmt := top 33
abbrev nWordOf : List Str := ["leaf", "around", "word"]
theorem scWordOf : FnScope nWordOf ["leaf", "around"] (defScope sWordOf) := ⟨rfl, rfl, rfl, by decide +kernel, rfl, by decide +kernel, by decide +kernel⟩
abbrev sFits : Stmt := top 29
abbrev nFits : List Str := ["term", "names", "free"]
theorem scFits : FnScope nFits ["term", "names"] (defScope sFits) := ⟨rfl, rfl, rfl, by decide +kernel, rfl, by decide +kernel, by decide +kernel⟩
theorem jn_len : ∀ l : List (List Nat), (GL.jn l).length ≤ (l.map fun w => w.length + 1).sum
  | [] => Nat.le_refl _
  | [w] => by
    show w.length ≤ w.length + 1 + 0
    omega
  | w :: v :: r => by
    have ih := jn_len (v :: r)
    show (w ++ 32 :: GL.jn (v :: r)).length ≤ w.length + 1 + ((v :: r).map fun w => w.length + 1).sum
    rw [List.length_append, List.length_cons]
    omega
theorem join_le {p : Str} {r : List Str} : (Txt.join " " (p :: r)).length ≤ wl (p :: r) := by
  have h := jn_len ((p :: r).map fun s => s.cps.toList)
  rw [← GL.join_jn, ← len_cps] at h
  refine Nat.le_trans h ?_
  unfold wl
  rw [List.map_map]
  refine Nat.le_of_eq (congrArg List.sum (List.map_congr_left fun s _ => ?_))
  show s.cps.toList.length + 1 = s.length + 1
  rw [← len_cps]
theorem sum_wl (ws : List Str) : (ws.map (·.length)).sum + ws.length = wl ws := by
  induction ws with
  | nil => rfl
  | cons a ws ih =>
    rw [wl_cons, ← ih, List.map_cons, List.sum_cons, List.length_cons]
    omega
def tTextOf : List Sl → (Rv → Prop) → Prop := fun as Kr => ∃ us, as = [.d (.list (us.map .str))] ∧ Nice us ∧ wl us ≤ 4000000 ∧ Kr (.d (.str (GL.glS us)))
/-- what is still to be told: a word, or a part with the names around it -/
def arD (ar : List Bool) : PyData := .tuple ((nms ar).reverse.map .str)
inductive Itm where
  | w (s : Str)
  | p (t : Tm) (ar : List Bool)
def Itm.d : Itm → PyData
  | .w s => .str s
  | .p t ar => .tuple [t.d, arD ar, .int (cnt ar : Int)]
def Itm.ws : Itm → List Str
  | .w s => [s]
  | .p t ar => KP.ws ar t
def brI (b : Bool) (i : Itm) : List Itm := if b = true then [.w sO, i, .w sC] else [i]
theorem brI_ws (b : Bool) (i : Itm) : (brI b i).flatMap Itm.ws = br b i.ws := by
  cases b with
  | false => exact List.append_nil _
  | true => exact congrArg (sO :: ·) (show [i, Itm.w sC].flatMap Itm.ws = i.ws ++ [sC] by simp [List.flatMap_cons, Itm.ws])
def tWithin : List Sl → (Rv → Prop) → Prop := fun as Kr => ∃ x y m b, as = [.d x, .d y, .d (.int m), .d (.bool b)] ∧ Kr (.l (if b = true then [.str sO, .tuple [x, y, .int m], .str sC] else [.tuple [x, y, .int m]]))
def tWordOf : List Sl → (Rv → Prop) → Prop := fun as Kr => ∃ t ar, as = [.d t.d, .d (arD ar)] ∧ t.lv = 0 ∧ t.ok = true ∧ Cl ar t ∧ cnt ar < 10 ^ 30 ∧ Kr (.d (.str ((ws ar t).headD "")))
def tFits : List Sl → (Rv → Prop) → Prop := fun as Kr => ∃ (t : Tm) (n : Nat), as = [.d t.d, .d (.int (n : Int))] ∧ t.ok = true ∧ t.sz ≤ 200000 ∧ (fr 0 t).length < 64 ∧ Kr (.d (.bool ((fr 0 t).all fun i => decide (i < n))))
theorem nms_len : ∀ ar : List Bool, (nms ar).length = ar.length
  | [] => rfl
  | _ :: ar => congrArg (· + 1) (nms_len ar)
theorem ev_notO {ρ : List Sl} {KF : PySem.W.Frag} {k : Nat} {xs : List PyData} (h : ρ[k]? = some (.l xs)) : Ev (tNotT KF (tVar k)) ρ (.d (.bool xs.isEmpty)) ρ := fun c A σ H Q R f q => by
  obtain ⟨a, vs, _, e2, e3, dx⟩ := R.sl k _ h
  refine ⟨_, e2, _, Or.inl ⟨vs, SqL.of e3, rfl⟩, ?_⟩
  have e : vs.isEmpty = xs.isEmpty := by cases dx <;> rfl
  rw [e]
  exact q _ A H R f (Same.refl _) (by rw [Bool.not_not]; exact .bl _)
section
variable {P : Program} {w : World} {K : PySem.W.Frag} {mg : Str → Option Value} {base : Heap}
theorem ok_textof {f : Addr} {fd : FuncData} (F : Fun K "text_of" "text_of" sTextOf f fd) : FnOk P w K mg base CX0 1 f fd ["words"] (spD 1 tTextOf) := by
  refine fn_dT F scTextOf (by decide +kernel) (by decide) (body := fun cdv A outer s H E hr => ⟨_, CwR.psst_one (CwR.pst_ret (CwR.pet_replT (CwR.pet_replC (pe_join pe_str (pv 0))))), ?_⟩)
  rintro as Kr _ ⟨us, rfl, nu, lu, k⟩
  cases us with
  | nil => exact absurd rfl nu.ne
  | cons p r =>
    have l0 : ("(" : Str).length = 1 := by decide +kernel
    have l1 : (")" : Str).length = 1 := by decide +kernel
    have ls : (" " : Str).length = 1 := by decide +kernel
    have j := join_le (p := p) (r := r)
    have q := TK.replace_len (Txt.join " " (p :: r)) "( " "("
    have s1 := sum_wl (p :: r)
    rw [l0] at q
    rw [← GL.text_is nu.gd] at k
    exact sm_ret (ev_repl (ev_repl (ev_joinL (a := " ") ev_str (ev_var rfl) (by rw [ls]; omega)) (by rw [l0]; omega)) (by rw [l1]; omega)) k
theorem ok_within {f : Addr} {fd : FuncData} (F : Fun K "_within" "_within" sWithin f fd) : FnOk P w K mg base CX0 1 f fd ["part", "around", "many", "bracketed"] (spD 4 tWithin) := by
  refine fn_d F scWithin (body := fun cdv A outer s H E hr => ⟨_, (pss_cons (ps_set (i := 4) scWithin.nd rfl (Or.inl rfl) (pe_tup (pa_cons (pv 0) (pa_cons (pv 1) (pa_cons (pv 2) pa_nil)))))
      (pss_one (ps_ret (pe_ifExp (pt_val (pv 3)) (pe_lst (pa_cons pe_str (pa_cons (pv 4) (pa_cons pe_str pa_nil)))) (pe_lst (pa_cons (pv 4) pa_nil)))))), ?_⟩)
  rintro as Kr _ ⟨x, y, m, b, rfl, k⟩
  refine (sm_seq (sm_set (ev_tup (eds_cons (ev_var rfl) (eds_cons (ev_var rfl) (eds_cons (ev_var rfl) eds_nil)))) ?_))
  cases b with
  | true => exact (sm_retL (el_if (et_B (ev_var rfl)) (fun h => (el_lst (eds_cons ev_str (eds_cons (ev_var rfl) (eds_cons ev_str eds_nil))))) (fun h => by cases h)) k)
  | false => exact (sm_retL (el_if (et_B (ev_var rfl)) (fun h => by cases h) (fun h => (el_lst (eds_cons (ev_var rfl) eds_nil)))) k)
theorem ok_fits {f : Addr} {fd : FuncData} (F : Fun K "fits" "fits" sFits f fd) (C_free_places : C8.Cal P w K mg base 3 "free_places" (spD 1 tFreePlaces) []) : FnOk P w K mg base CX0 4 f fd ["term", "names"] (spD 2 tFits) := by
  refine fn_d F scFits (body := fun cdv A outer s H E hr => ⟨_, (pss_cons (ps_set (i := 2) scFits.nd rfl (Or.inl rfl) (C8.pe_c C_free_places hr (by omega) rfl (pa_cons (pv 0) pa_nil)))
      (pss_one (ps_ret (pe_or (pe_notT (pv 2)) (pe_one (pe_cmpR op_lt (pe_ix ix_list (pv 2) (pe_un un_neg pe_int) (fun _ _ => rfl)) (pv 1) (nomark _))))))), ?_⟩)
  rintro as Kr _ ⟨t, n, rfl, ht, hs, hf, k⟩
  have nd := nodes_d t
  have few := keys_few (t := t)
  refine (sm_seq (sm_setL (el_call (es_cons (ev_var rfl) es_nil) ar_nil rfl ⟨_, rfl, tm_d ht, by omega, by omega, rfl⟩) ?_))
  rcases List.eq_nil_or_concat (freeD t.d) with e | ⟨l, z, e⟩
  · have no : fr 0 t = [] := List.eq_nil_iff_forall_not_mem.mpr fun i hi => by
      have := free_mem.mpr hi
      rw [e] at this
      cases this
    rw [no] at k
    rw [e]
    exact sm_ret (ev_orV (b := true) (ev_notO rfl) (fun q => by cases q)) k
  · rw [List.concat_eq_append] at e
    have srt : (freeD t.d).Pairwise (· ≤ ·) := by
      have s := List.pairwise_mergeSort (le := fun a b : Int => decide (a ≤ b)) (fun a b c h1 h2 => by simp only [decide_eq_true_eq] at *; omega) (fun a b => by simp only [Bool.or_eq_true, decide_eq_true_eq]; omega) (keysF (wk t.d [] 0))
      exact s.imp fun h => of_decide_eq_true h
    obtain ⟨m, hm, ez⟩ := free_nat (t := t) (z := z) (by rw [e]; exact List.mem_append_right _ (List.mem_singleton_self _))
    have le : ∀ i ∈ fr 0 t, i ≤ m := fun i hi => by
      have h1 := free_mem.mpr hi
      rw [e] at h1 srt
      rcases List.mem_append.mp h1 with h1 | h1
      · have := (List.pairwise_append.mp srt).2.2 _ h1 z (List.mem_singleton_self _)
        omega
      · have := List.mem_singleton.mp h1
        omega
    have ev : (fr 0 t).all (fun i => decide (i < n)) = decide (z < (n : Int)) := by
      by_cases c : m < n
      · rw [decide_eq_true (by omega), List.all_eq_true]
        exact fun i hi => decide_eq_true (by have := le i hi; omega)
      · rw [decide_eq_false (by omega)]
        refine Bool.eq_false_iff.mpr fun h => c ?_
        exact of_decide_eq_true (List.all_eq_true.mp h m hm)
    rw [ev] at k
    rw [e, List.map_append]
    exact sm_ret (ev_orV (a := false) (by
      have := ev_notO (KF := K) (ρ := [.d t.d, .d (.int (n : Int)), .l (l.map PyData.int ++ [z].map PyData.int)]) (k := 2) rfl
      rwa [show (l.map PyData.int ++ [z].map PyData.int).isEmpty = false by cases l <;> rfl] at this) fun _ => (ev_op (ev_ixO rfl (ev_negI ev_int) rfl (atI_last _ _)) (ev_var rfl) fv_cmpI)) k
end
end KP
set_option Elab.async false
set_option linter.unusedVariables false
set_option linter.unusedSectionVars false
set_option maxRecDepth 100000
set_option maxHeartbeats 2000000
namespace KP
open PySem PySem.Spec PyProof.Rows L2 KA OW
/-! ### the word of a leaf; the pieces of a term -/
abbrev sPieces : Stmt := top 31
abbrev nPieces : List Str := ["term", "around", "many", "word", "left", "name", "head", "given", "pieces", "part"]
theorem scPieces : FnScope nPieces ["term", "around", "many"] (defScope sPieces) := ⟨rfl, rfl, rfl, by decide +kernel, rfl, by decide +kernel, by decide +kernel⟩
theorem at_back {α : Type} {l : List α} {n : Nat} {v : α} (h : l[n]? = some v) : atI l.reverse (-1 - (n : Int)) = some v := by
  have lt := (List.getElem?_eq_some_iff.mp h).1
  unfold atI ixN
  rw [if_neg (by omega), List.length_reverse, if_pos (by omega)]
  show l.reverse[(-1 - (n : Int) + (l.length : Int)).toNat]? = some v
  rw [List.getElem?_reverse (by omega), ← h]
  congr 1
  omega
theorem log_ok {n : Nat} (h : n < 10 ^ 30) : ((n : Int)).natAbs.log2 < 1920 := by
  rw [Int.natAbs_natCast]
  by_cases z : n = 0
  · rw [z]
    decide
  · exact (Nat.log2_lt z).mpr (Nat.lt_of_lt_of_le h (by decide +kernel))
structure TxtP (K : PySem.W.Frag) (mg : Str → Option Value) : Prop where
  binding : ∃ a o its n, mg "BINDING" = some (.ref a) ∧ K.lookup a = some o ∧ o.cls = .type "tuple" ∧ o.data = .seq its n ∧ its.size ≤ sizeLine ∧ Vals ((["all", "fun"] : List Str).map V.str) its.toList
  longs : ∃ a o its n, mg "LONG_HEADS" = some (.ref a) ∧ K.lookup a = some o ∧ o.cls = .type "tuple" ∧ o.data = .seq its n ∧ its.size ≤ sizeLine ∧ Vals (noNames.map V.str) its.toList
  most_names : ∃ u, mg "MOST_NAMES" = some u ∧ RelV (.int 100) u
theorem fv_inG {K : PySem.W.Frag} {p : Addr} {bs : List Str} {a : Str} {o : Obj} {its : Array Value} {n : Nat} (l : K.lookup p = some o) (c : o.cls = .type "tuple") (d : o.data = .seq its n) (sz : its.size ≤ sizeLine) (v : Vals (bs.map V.str) its.toList) :
    FV2 (rIn K false) (.d (.str a)) (.p (isV (.ref p))) (.d (.bool (bs.any fun b => b == a))) := fv2_s (dB (bs.any fun b => b == a)) fun W H x y Q S o1 o2 q => by
  obtain rfl := str_v o1
  obtain rfl := isv_v o2
  have fl : (bs.map V.str).all flatV = true := by
    rw [List.all_map, List.all_eq_true]
    exact fun _ _ => rfl
  have e : inV (.str a) (bs.map V.str) = bs.any fun y => y == a := by
    unfold inV
    rw [List.any_map]
    rfl
  exact ⟨p, _, rfl, Or.inr (Or.inr ⟨o, its, n, l, c, d, sz, v⟩), rfl, fl, by rw [e]; exact q⟩
theorem fv_partedN {K : PySem.W.Frag} {a : Addr} {z : Str} (pn : ∀ z, ∃ r, PySem.W.nsIn K a z = some r ∧ RelO ((parts z).map fun n => V.int (n : Int)) r) :
    FV2 (fun x y H Q => ∃ (z : Str) (r : Option Value), x = .str z ∧ y = .ref a ∧ PySem.W.nsIn K a z = some r ∧ Q (.bl (!r.isSome)) H) (.d (.str z)) (.p (isV (.ref a))) (.d (.bool (!(parts z).isSome))) := by
  obtain ⟨r, h1, h2⟩ := pn z
  have e : r.isSome = (parts z).isSome := by
    cases hp : parts z with
    | none =>
      rw [hp] at h2
      cases r with
      | none => rfl
      | some u => exact h2.elim
    | some n =>
      rw [hp] at h2
      cases r with
      | none => exact h2.elim
      | some u => rfl
  exact fv2_s (dB (!(parts z).isSome)) fun W H v u Q S o o' q => ⟨z, r, str_v o, isv_v o', h1, by rw [e]; exact q⟩
def Tm.wd : Tm → Str
  | .at_ _ => "at"
  | .lf l => l.wd
  | .all _ _ => "all"
  | .fn _ _ => "fun"
  | .app _ _ => "app"
  | .self _ _ => "self"
  | .tri k _ _ _ => triW k
theorem d_shape : ∀ t : Tm, ∃ ds, t.d = .tuple (.str t.wd :: ds)
  | .at_ _ => ⟨_, rfl⟩
  | .lf (.kind _) => ⟨_, rfl⟩
  | .lf (.name _) => ⟨_, rfl⟩
  | .lf (.thing _) => ⟨_, rfl⟩
  | .lf (.maker _ _) => ⟨_, rfl⟩
  | .lf (.eater _ _) => ⟨_, rfl⟩
  | .all _ _ => ⟨_, rfl⟩
  | .fn _ _ => ⟨_, rfl⟩
  | .app _ _ => ⟨_, rfl⟩
  | .self _ _ => ⟨_, rfl⟩
  | .tri _ _ _ _ => ⟨_, rfl⟩
def wtab : List (Str × Nat) := [("at", 0), ("kind", 0), ("name", 0), ("thing", 0), ("maker", 0), ("eater", 0), ("all", 3), ("fun", 3), ("app", 1), ("self", 2), ("put", 2), ("same", 2)]
theorem tab_mem : ∀ t : Tm, (t.wd, t.lv) ∈ wtab := by
  have h : ∀ i : Fin 12, wtab[i] ∈ wtab := fun i => List.getElem_mem _
  intro t
  cases t with
  | at_ n => exact h 0
  | lf l =>
    cases l with
    | kind n => exact h 1
    | name s => exact h 2
    | thing s => exact h 3
    | maker s n => exact h 4
    | eater s n => exact h 5
  | all a b => exact h 6
  | fn a b => exact h 7
  | app a b => exact h 8
  | self a b => exact h 9
  | tri k a b c =>
    cases k with
    | true => exact h 10
    | false => exact h 11
theorem in_two (t : Tm) : ((["all", "fun"] : List Str).any fun b => b == t.wd) = decide (2 < t.lv) := (show ∀ p ∈ wtab, ((["all", "fun"] : List Str).any fun b => b == p.1) = decide (2 < p.2) by decide +kernel) _ (tab_mem t)
theorem in_long (t : Tm) : (noNames.any fun b => b == t.wd) = decide (1 < t.lv) := (show ∀ p ∈ wtab, (noNames.any fun b => b == p.1) = decide (1 < p.2) by decide +kernel) _ (tab_mem t)
theorem in_parts (t : Tm) : (parts t.wd).isSome = decide (0 < t.lv) := (show ∀ p ∈ wtab, (parts p.1).isSome = decide (0 < p.2) by decide +kernel) _ (tab_mem t)
theorem app_one (t : Tm) (h : t.wd = "app") : t.lv = 1 := (show ∀ p ∈ wtab, p.1 = "app" → p.2 = 1 by decide +kernel) _ (tab_mem t) h
def hdT : Tm → Tm
  | .app a _ => hdT a
  | t => t
def gvT : Tm → List Tm
  | .app a b => gvT a ++ [b]
  | _ => []
def pcs (ar : List Bool) : Tm → List Itm
  | .at_ n => [.w ((nms ar).getD n "")]
  | .lf l => [.w l.w]
  | .all a b => if 0 ∈ fr 0 b then [.w "all", .w (xw (cnt ar)), .w ":", .p a ar, .w sDot, .p b (true :: ar)] else brI (decide (2 < a.lv)) (.p a ar) ++ [.w sTo, .p b (false :: ar)]
  | .fn a b => [.w "fun", .w (xw (cnt ar)), .w ":", .p a ar, .w sDot, .p b (true :: ar)]
  | .app a b => brI (decide (1 < (hdT a).lv)) (.p (hdT a) ar) ++ (gvT (.app a b)).flatMap fun g => brI (decide (0 < g.lv)) (.p g ar)
  | .self a b => .w "self" :: [a, b].flatMap fun g => brI (decide (0 < g.lv)) (.p g ar)
  | .tri k a b c => .w (triW k) :: [a, b, c].flatMap fun g => brI (decide (0 < g.lv)) (.p g ar)
theorem spine_ws (ar : List Bool) : ∀ t : Tm, br (decide (1 < t.lv)) (ws ar t) = (brI (decide (1 < (hdT t).lv)) (.p (hdT t) ar) ++ (gvT t).flatMap fun g => brI (decide (0 < g.lv)) (.p g ar)).flatMap Itm.ws
  | .app a b => by
    have ih := spine_ws ar a
    show ws ar (.app a b) = (brI (decide (1 < (hdT a).lv)) (.p (hdT a) ar) ++ (gvT a ++ [b]).flatMap fun g => brI (decide (0 < g.lv)) (.p g ar)).flatMap Itm.ws
    rw [List.flatMap_append (xs := gvT a), ← List.append_assoc, List.flatMap_append, ← ih]
    show br (decide (1 < a.lv)) (ws ar a) ++ br (decide (0 < b.lv)) (ws ar b) = _ ++ ((brI (decide (0 < b.lv)) (.p b ar)) ++ []).flatMap Itm.ws
    rw [List.append_nil, brI_ws]
    rfl
  | .at_ _ | .lf _ | .all _ _ | .fn _ _ | .self _ _ | .tri _ _ _ _ => by
    show _ = (brI _ _ ++ []).flatMap Itm.ws
    rw [List.append_nil, brI_ws]
    rfl
theorem pcs_ws (ar : List Bool) : ∀ t : Tm, (pcs ar t).flatMap Itm.ws = ws ar t
  | .at_ n => rfl
  | .lf l => rfl
  | .all a b => by
    show (if 0 ∈ fr 0 b then _ else _ : List Itm).flatMap Itm.ws = if 0 ∈ fr 0 b then _ else _
    split
    · simp [List.flatMap_cons, Itm.ws]
    · rw [List.flatMap_append, brI_ws]
      simp [List.flatMap_cons, Itm.ws]
  | .fn a b => by
    show _ = ("fun" : Str) :: xw (cnt ar) :: (":" : Str) :: (ws ar a ++ sDot :: ws (true :: ar) b)
    simp [pcs, List.flatMap_cons, Itm.ws]
  | .app a b => (spine_ws ar (.app a b)).symm
  | .self a b => by
    show _ = ("self" : Str) :: (br (decide (0 < a.lv)) (ws ar a) ++ br (decide (0 < b.lv)) (ws ar b))
    simp only [pcs, List.flatMap_cons, List.flatMap_nil, List.flatMap_append, brI_ws, List.append_nil, Itm.ws]
    rfl
  | .tri k a b c => by
    show _ = triW k :: (br (decide (0 < a.lv)) (ws ar a) ++ (br (decide (0 < b.lv)) (ws ar b) ++ br (decide (0 < c.lv)) (ws ar c)))
    simp only [pcs, List.flatMap_cons, List.flatMap_nil, List.flatMap_append, brI_ws, List.append_nil, Itm.ws]
    rfl
theorem spine_d : ∀ t : Tm, t.d = givenD (hdT t).d ((gvT t).map Tm.d)
  | .app a b => by
    have ih := spine_d a
    show PyData.tuple [.str "app", a.d, b.d] = givenD (hdT a).d ((gvT a ++ [b]).map Tm.d)
    rw [List.map_append, ih]
    exact givenD_snoc.symm
  | .at_ _ | .lf _ | .all _ _ | .fn _ _ | .self _ _ | .tri _ _ _ _ => rfl
theorem hd_lv : ∀ t : Tm, (hdT t).lv ≠ 1
  | .app a _ => hd_lv a
  | .at_ _ | .lf _ => by show (0 : Nat) ≠ 1; decide
  | .all _ _ | .fn _ _ => by show (3 : Nat) ≠ 1; decide
  | .self _ _ | .tri _ _ _ _ => by show (2 : Nat) ≠ 1; decide
theorem hd_no (t : Tm) : (hdT t).wd ≠ "app" := fun h => hd_lv t (app_one _ h)
end KP
set_option Elab.async false
set_option linter.unusedVariables false
set_option linter.unusedSectionVars false
set_option maxRecDepth 100000
set_option maxHeartbeats 2000000
namespace KP
open PySem PySem.Spec PyProof.Rows L2 KA OW
theorem sz1 {a b : Str} (h : a.length ≤ 1000) (g : b.length ≤ 1000) : (a ++ b).length ≤ sizeLine := by
  rw [len_add, sizeLine_eq]
  omega
theorem sz0 {a : Str} (h : a.length ≤ 1000) : a.length ≤ sizeLine := by
  rw [sizeLine_eq]
  omega
theorem em_len : Str.empty.length ≤ 1000 := by decide
def Tm.ats : Tm → Nat
  | .at_ _ => 1
  | .lf _ => 0
  | .all a b | .fn a b | .app a b | .self a b => a.ats + b.ats
  | .tri _ a b c => a.ats + (b.ats + c.ats)
theorem fr_ats : ∀ (t : Tm) (u : Nat), (fr u t).length ≤ t.ats
  | .at_ n, u => by
    show (if u ≤ n then [n - u] else []).length ≤ 1
    split
    · exact Nat.le_refl _
    · exact Nat.zero_le _
  | .lf _, u => Nat.le_refl _
  | .all a b, u | .fn a b, u => by
    have h1 := fr_ats a u
    have h2 := fr_ats b (u + 1)
    show (fr u a ++ fr (u + 1) b).length ≤ a.ats + b.ats
    rw [List.length_append]
    omega
  | .app a b, u | .self a b, u => by
    have h1 := fr_ats a u
    have h2 := fr_ats b u
    show (fr u a ++ fr u b).length ≤ a.ats + b.ats
    rw [List.length_append]
    omega
  | .tri k a b c, u => by
    have h1 := fr_ats a u
    have h2 := fr_ats b u
    have h3 := fr_ats c u
    show (fr u a ++ (fr u b ++ fr u c)).length ≤ a.ats + (b.ats + c.ats)
    rw [List.length_append, List.length_append]
    omega
theorem any_zero (t : Tm) : ((freeD t.d).any fun b => b == 0) = decide (0 ∈ fr 0 t) := by
  by_cases h : 0 ∈ fr 0 t
  · rw [decide_eq_true h, List.any_eq_true]
    exact ⟨0, free_mem (n := 0).mpr h, rfl⟩
  · rw [decide_eq_false h]
    refine Bool.eq_false_iff.mpr fun z => h ?_
    obtain ⟨x, hx, ex⟩ := List.any_eq_true.mp z
    have : x = ((0 : Nat) : Int) := eq_of_beq ex
    exact free_mem.mp (this ▸ hx)
theorem brI_d {b : Bool} {t : Tm} {ar : List Bool} : (brI b (.p t ar)).map Itm.d = if b = true then [.str sO, .tuple [t.d, arD ar, .int (cnt ar : Int)], .str sC] else [.tuple [t.d, arD ar, .int (cnt ar : Int)]] := by
  cases b <;> rfl
theorem arD_true (ar : List Bool) : arD (true :: ar) = .tuple ((nms ar).reverse.map .str ++ [.str (xw (cnt ar))]) := by
  show PyData.tuple ((xw (cnt ar) :: nms ar).reverse.map .str) = _
  rw [List.reverse_cons, List.map_append]
  rfl
theorem arD_false (ar : List Bool) : arD (false :: ar) = .tuple ((nms ar).reverse.map .str ++ [.str ""]) := by
  show PyData.tuple (((if false = true then xw (cnt ar) else "") :: nms ar).reverse.map .str) = _
  rw [List.reverse_cons, List.map_append]
  rfl
theorem cnt_true (ar : List Bool) : cnt (true :: ar) = cnt ar + 1 := by
  unfold cnt
  rw [List.count_cons_self]
theorem cnt_false (ar : List Bool) : cnt (false :: ar) = cnt ar := by
  unfold cnt
  rw [List.count_cons_of_ne (by decide)]
section
variable {P : Program} {w : World} {K : PySem.W.Frag} {mg : Str → Option Value} {base : Heap}
theorem ok_wordof {f : Addr} {fd : FuncData} (F : Fun K "_word_of" "_word_of" sWordOf f fd) : FnOk P w K mg base CX0 1 f fd ["leaf", "around"] (spD 2 tWordOf) := by
  refine fn_d F scWordOf (body := fun cdv A outer s H E hr => ⟨_, (pss_cons (ps_set (i := 2) scWordOf.nd rfl (Or.inl rfl) (pe_ix ix_tup (pv 0) pe_int (fun _ _ => rfl)))
      (pss_cons (ps_if (pt_cmpR op_eq (pv 2) pe_str (nomark _)) (pss_one (ps_ret (pe_ix ix_tup (pv 1) (pe_op op_sub (pe_un un_neg pe_int) (pe_ix ix_tup (pv 0) pe_int (fun _ _ => rfl))) (fun _ _ => rfl)))) pss_nil) (pss_cons (ps_if (pt_cmpR op_eq (pv 2) pe_str (nomark _)) (pss_one (ps_ret (pe_joined (PJ.cons pe_str (PJ.cons (pe_fmt (pe_ix ix_tup (pv 0) pe_int (fun _ _ => rfl))) PJ.nil))))) pss_nil) (pss_cons (ps_if (pt_cmpR op_eq (pv 2) pe_str (nomark _)) (pss_one (ps_ret (pe_joined (PJ.cons pe_str (PJ.cons (pe_fmt (pe_ix ix_tup (pv 0) pe_int (fun _ _ => rfl))) PJ.nil))))) pss_nil) (pss_cons (ps_if (pt_cmpR op_eq (pv 2) pe_str (nomark _)) (pss_one (ps_ret (pe_joined (PJ.cons (pe_fmt (pe_ix ix_tup (pv 0) pe_int (fun _ _ => rfl))) (PJ.cons pe_str (PJ.cons (pe_fmt (pe_ix ix_tup (pv 0) pe_int (fun _ _ => rfl))) PJ.nil)))))) pss_nil) (pss_cons (ps_if (pt_cmpR op_eq (pv 2) pe_str (nomark _)) (pss_one (ps_ret (pe_joined (PJ.cons (pe_fmt (pe_ix ix_tup (pv 0) pe_int (fun _ _ => rfl))) (PJ.cons pe_str (PJ.cons (pe_fmt (pe_ix ix_tup (pv 0) pe_int (fun _ _ => rfl))) PJ.nil)))))) pss_nil) (pss_one (ps_ret (pe_ix ix_tup (pv 0) pe_int (fun _ _ => rfl)))))))))), ?_⟩)
  rintro as Kr _ ⟨t, ar, rfl, lv0, ht, hc, hb, k⟩
  cases t with
  | all a b => cases lv0
  | fn a b => cases lv0
  | app a b => cases lv0
  | self a b => cases lv0
  | tri q a b c => cases lv0
  | at_ n =>
    have hn : ar[n]? = some true := hc n (by unfold fr; rw [if_pos (Nat.zero_le n)]; exact List.mem_singleton_self _)
    have e := nms_at hn
    have k : Kr (.d (.str ((nms ar).getD n ""))) := k
    rw [List.getD_eq_getElem?_getD, e] at k
    have ea : arD ar = .tuple ((nms ar).map PyData.str).reverse := congrArg PyData.tuple List.map_reverse
    rw [ea]
    refine sm_seq (sm_set (ev_op (ev_var rfl) ev_int (fv_ixT at0)) ?_)
    exact sm_seq (sm_if (b := true) ((et_test (ev_op (ev_var rfl) ev_str fv_eqS)).is (by decide +kernel)) (fun _ => sm_ret (ev_op (ev_var rfl) (ev_op (ev_negI ev_int) (ev_op (ev_var rfl) ev_int (fv_ixT at1)) fv_int) (fv_ixT (at_back (n := n) (by rw [List.getElem?_map, e]; rfl)))) k) (fun z => by cases z))
  | lf l =>
    have hw := lw_ok (l := l) ht
    cases l with
    | kind n =>
      have h5 : n ≤ 5 := of_decide_eq_true ht
      have ln := numS_len (n := n) (by omega)
      have e : Str.empty ++ "*" ++ numS n = Lf.w (.kind n) := by rw [Str.empty_append]; rfl
      have k : Kr (.d (.str (Lf.w (.kind n)))) := k
      rw [← e] at k
      refine sm_seq (sm_set (ev_op (ev_var rfl) ev_int (fv_ixT at0)) ?_)
      refine sm_seq (sm_if (b := false) ((et_test (ev_op (ev_var rfl) ev_str fv_eqS)).is (by decide +kernel)) (fun z => by cases z) (fun _ => sm_next ?_))
      exact sm_seq (sm_if (b := true) ((et_test (ev_op (ev_var rfl) ev_str fv_eqS)).is (by decide +kernel)) (fun _ => sm_ret (js_cons ev_str (sz1 em_len (by decide +kernel)) (js_cons (ev_fmtI (ev_op (ev_var rfl) ev_int (fv_ixT at1)) (log_ok (by omega))) (sz1 (by decide +kernel) (by show (numS n).length ≤ 1000; omega)) js_nil)) k) (fun z => by cases z))
    | name s =>
      have hs := name_len (x := s) ht
      have e : Str.empty ++ "@" ++ s = Lf.w (.name s) := by rw [Str.empty_append]; rfl
      have k : Kr (.d (.str (Lf.w (.name s)))) := k
      rw [← e] at k
      refine sm_seq (sm_set (ev_op (ev_var rfl) ev_int (fv_ixT at0)) ?_)
      refine sm_seq (sm_if (b := false) ((et_test (ev_op (ev_var rfl) ev_str fv_eqS)).is (by decide +kernel)) (fun z => by cases z) (fun _ => sm_next ?_))
      refine sm_seq (sm_if (b := false) ((et_test (ev_op (ev_var rfl) ev_str fv_eqS)).is (by decide +kernel)) (fun z => by cases z) (fun _ => sm_next ?_))
      exact sm_seq (sm_if (b := true) ((et_test (ev_op (ev_var rfl) ev_str fv_eqS)).is (by decide +kernel)) (fun _ => sm_ret (js_cons ev_str (sz1 em_len (by decide +kernel)) (js_cons (ev_fmtS (ev_op (ev_var rfl) ev_int (fv_ixT at1)) (sz0 (by omega))) (sz1 (by decide +kernel) (by omega)) js_nil)) k) (fun z => by cases z))
    | thing s =>
      have k : Kr (.d (.str s)) := k
      refine sm_seq (sm_set (ev_op (ev_var rfl) ev_int (fv_ixT at0)) ?_)
      refine sm_seq (sm_if (b := false) ((et_test (ev_op (ev_var rfl) ev_str fv_eqS)).is (by decide +kernel)) (fun z => by cases z) (fun _ => sm_next ?_))
      refine sm_seq (sm_if (b := false) ((et_test (ev_op (ev_var rfl) ev_str fv_eqS)).is (by decide +kernel)) (fun z => by cases z) (fun _ => sm_next ?_))
      refine sm_seq (sm_if (b := false) ((et_test (ev_op (ev_var rfl) ev_str fv_eqS)).is (by decide +kernel)) (fun z => by cases z) (fun _ => sm_next ?_))
      refine sm_seq (sm_if (b := false) ((et_test (ev_op (ev_var rfl) ev_str fv_eqS)).is (by decide +kernel)) (fun z => by cases z) (fun _ => sm_next ?_))
      refine sm_seq (sm_if (b := false) ((et_test (ev_op (ev_var rfl) ev_str fv_eqS)).is (by decide +kernel)) (fun z => by cases z) (fun _ => sm_next ?_))
      exact sm_ret (ev_op (ev_var rfl) ev_int (fv_ixT at1)) k
    | maker s n =>
      have ht : (nameX s && decide (n ≤ 10 ^ 29)) = true := ht
      obtain ⟨h1, h2⟩ := and2 ht
      have h2 := of_decide_eq_true h2
      have hs := name_len h1
      have ln := numS_len (n := n) (by omega)
      have e : Str.empty ++ s ++ "#" ++ numS n = Lf.w (.maker s n) := by rw [Str.empty_append]; rfl
      have k : Kr (.d (.str (Lf.w (.maker s n)))) := k
      rw [← e] at k
      have l2 : (Str.empty ++ s).length ≤ 100 := by rw [Str.empty_append]; omega
      have l3 : (Str.empty ++ s ++ "#").length ≤ 1000 := by rw [len_add]; have : ("#" : Str).length = 1 := by decide +kernel
                                                            omega
      refine sm_seq (sm_set (ev_op (ev_var rfl) ev_int (fv_ixT at0)) ?_)
      refine sm_seq (sm_if (b := false) ((et_test (ev_op (ev_var rfl) ev_str fv_eqS)).is (by decide +kernel)) (fun z => by cases z) (fun _ => sm_next ?_))
      refine sm_seq (sm_if (b := false) ((et_test (ev_op (ev_var rfl) ev_str fv_eqS)).is (by decide +kernel)) (fun z => by cases z) (fun _ => sm_next ?_))
      refine sm_seq (sm_if (b := false) ((et_test (ev_op (ev_var rfl) ev_str fv_eqS)).is (by decide +kernel)) (fun z => by cases z) (fun _ => sm_next ?_))
      exact sm_seq (sm_if (b := true) ((et_test (ev_op (ev_var rfl) ev_str fv_eqS)).is (by decide +kernel)) (fun _ => sm_ret (js_cons (ev_fmtS (ev_op (ev_var rfl) ev_int (fv_ixT at1)) (sz0 (by omega))) (sz1 em_len (by omega)) (js_cons ev_str (sz1 (by omega) (by decide +kernel)) (js_cons (ev_fmtI (ev_op (ev_var rfl) ev_int (fv_ixT at2)) (log_ok (by omega))) (sz1 l3 (by show (numS n).length ≤ 1000; omega)) js_nil))) k) (fun z => by cases z))
    | eater s n =>
      have ht : (nameX s && decide (n ≤ 5)) = true := ht
      obtain ⟨h1, h2⟩ := and2 ht
      have h2 := of_decide_eq_true h2
      have hs := name_len h1
      have ln := numS_len (n := n) (by omega)
      have e : Str.empty ++ s ++ "!" ++ numS n = Lf.w (.eater s n) := by rw [Str.empty_append]; rfl
      have k : Kr (.d (.str (Lf.w (.eater s n)))) := k
      rw [← e] at k
      have l2 : (Str.empty ++ s).length ≤ 100 := by rw [Str.empty_append]; omega
      have l3 : (Str.empty ++ s ++ "!").length ≤ 1000 := by rw [len_add]; have : ("!" : Str).length = 1 := by decide +kernel
                                                            omega
      refine sm_seq (sm_set (ev_op (ev_var rfl) ev_int (fv_ixT at0)) ?_)
      refine sm_seq (sm_if (b := false) ((et_test (ev_op (ev_var rfl) ev_str fv_eqS)).is (by decide +kernel)) (fun z => by cases z) (fun _ => sm_next ?_))
      refine sm_seq (sm_if (b := false) ((et_test (ev_op (ev_var rfl) ev_str fv_eqS)).is (by decide +kernel)) (fun z => by cases z) (fun _ => sm_next ?_))
      refine sm_seq (sm_if (b := false) ((et_test (ev_op (ev_var rfl) ev_str fv_eqS)).is (by decide +kernel)) (fun z => by cases z) (fun _ => sm_next ?_))
      refine sm_seq (sm_if (b := false) ((et_test (ev_op (ev_var rfl) ev_str fv_eqS)).is (by decide +kernel)) (fun z => by cases z) (fun _ => sm_next ?_))
      exact sm_seq (sm_if (b := true) ((et_test (ev_op (ev_var rfl) ev_str fv_eqS)).is (by decide +kernel)) (fun _ => sm_ret (js_cons (ev_fmtS (ev_op (ev_var rfl) ev_int (fv_ixT at1)) (sz0 (by omega))) (sz1 em_len (by omega)) (js_cons ev_str (sz1 (by omega) (by decide +kernel)) (js_cons (ev_fmtI (ev_op (ev_var rfl) ev_int (fv_ixT at2)) (log_ok (by omega))) (sz1 l3 (by show (numS n).length ≤ 1000; omega)) js_nil))) k) (fun z => by cases z))
end
end KP
set_option Elab.async false
set_option linter.unusedVariables false
set_option linter.unusedSectionVars false
set_option maxRecDepth 100000
set_option maxHeartbeats 2000000
namespace KP
open PySem PySem.Spec PyProof.Rows L2 KA OW
/-! ### a leaf that is drawn -/
abbrev sLawLeaf : Stmt := top 42
abbrev nLawLeaf : List Str := ["_law_box_here", "_law_wide", "_law_way"]
theorem scLawLeaf : FnScope nLawLeaf ["_law_box_here", "_law_wide"] (defScope sLawLeaf) := ⟨rfl, rfl, rfl, by decide +kernel, rfl, by decide +kernel, by decide +kernel⟩
def leafF (p : Pu) (w : Nat) : Tm × Pu :=
  if (takeF p 8).1 < 3 ∧ 0 < w then (.at_ (takeF (takeF p 8).2 w).1.toNat, (takeF (takeF p 8).2 w).2)
  else if (takeF p 8).1 = 3 then (.lf (.thing (nameF (takeF p 8).2).1), (nameF (takeF p 8).2).2)
  else if (takeF p 8).1 = 4 then (.lf (.maker (nameF (takeF p 8).2).1 (if (takeF (takeF (takeF (nameF (takeF p 8).2).2 5).2 (10 ^ 29)).2 9).1 = 0 then (takeF (takeF (nameF (takeF p 8).2).2 5).2 (10 ^ 29)).1.toNat else (takeF (nameF (takeF p 8).2).2 5).1.toNat)), (takeF (takeF (takeF (nameF (takeF p 8).2).2 5).2 (10 ^ 29)).2 9).2)
  else if (takeF p 8).1 = 5 then (.lf (.eater (nameF (takeF p 8).2).1 (takeF (nameF (takeF p 8).2).2 6).1.toNat), (takeF (nameF (takeF p 8).2).2 6).2)
  else if (takeF p 8).1 = 6 then (.lf (.name (nameF (takeF p 8).2).1), (nameF (takeF p 8).2).2)
  else (.lf (.kind (takeF (takeF p 8).2 6).1.toNat), (takeF (takeF p 8).2 6).2)
/-- what is drawn: sound, its places below w, so many parts, so many of them places, so high -/
structure Dr (w : Nat) (t : Tm) (s a h : Nat) : Prop where
  ok : t.ok = true
  cl : ∀ i ∈ fr 0 t, i < w
  sz : t.sz ≤ s
  at_ : t.ats ≤ a
  hg : t.hg ≤ h
theorem leafF_ok {p : Pu} {n w : Nat} (h : PuOk p n) (hw : w ≤ 1000) : Dr w (leafF p w).1 1 1 1 ∧ PuOk (leafF p w).2 (n + 20) := by
  obtain ⟨t0, t1, t2⟩ := takeF_ok (m := 8) h (by decide)
  have nm := nameF_ok t2
  unfold leafF
  split
  · rename_i c
    obtain ⟨u0, u1, u2⟩ := takeF_ok (m := (w : Int)) t2 (by omega)
    refine ⟨⟨decide_eq_true (by omega), fun i hi => ?_, Nat.le_refl _, Nat.le_refl _, Nat.le_refl _⟩, u2.more (by omega)⟩
    have hi : i ∈ (if 0 ≤ (takeF (takeF p 8).2 w).1.toNat then [(takeF (takeF p 8).2 w).1.toNat - 0] else []) := hi
    rw [if_pos (Nat.zero_le _), List.mem_singleton] at hi
    omega
  · split
    · exact ⟨⟨nm.1, fun i hi => (by cases hi), Nat.le_refl _, Nat.zero_le _, Nat.le_refl _⟩, nm.2.more (by omega)⟩
    · split
      · obtain ⟨u0, u1, u2⟩ := takeF_ok (m := 5) nm.2 (by decide)
        obtain ⟨v0, v1, v2⟩ := takeF_ok (m := 10 ^ 29) u2 (by decide)
        obtain ⟨w0, w1, w2⟩ := takeF_ok (m := 9) v2 (by decide)
        refine ⟨⟨?_, fun i hi => (by cases hi), Nat.le_refl _, Nat.zero_le _, Nat.le_refl _⟩, w2.more (by omega)⟩
        show (nameX _ && decide (_ ≤ 10 ^ 29)) = true
        rw [nm.1, Bool.true_and]
        refine decide_eq_true ?_
        split <;> omega
      · split
        · obtain ⟨u0, u1, u2⟩ := takeF_ok (m := 6) nm.2 (by decide)
          refine ⟨⟨?_, fun i hi => (by cases hi), Nat.le_refl _, Nat.zero_le _, Nat.le_refl _⟩, u2.more (by omega)⟩
          show (nameX _ && decide (_ ≤ 5)) = true
          rw [nm.1, Bool.true_and]
          exact decide_eq_true (by omega)
        · split
          · exact ⟨⟨nm.1, fun i hi => (by cases hi), Nat.le_refl _, Nat.zero_le _, Nat.le_refl _⟩, nm.2.more (by omega)⟩
          · obtain ⟨u0, u1, u2⟩ := takeF_ok (m := 6) t2 (by decide)
            exact ⟨⟨decide_eq_true (by omega), fun i hi => (by cases hi), Nat.le_refl _, Nat.zero_le _, Nat.le_refl _⟩, u2.more (by omega)⟩
def tLeafL : List PyData → List Sl → (Rv → List PyData → Prop) → Prop := fun c as Kr => ∃ p n w, c = p.ds ∧ as = [.d (.int (w : Nat))] ∧ w ≤ 1000 ∧ PuOk p n ∧ n + 20 ≤ maxN ∧ Kr (.d (leafF p w).1.d) (leafF p w).2.ds
theorem got_leaf {p : Pu} {n w : Nat} (h : PuOk p n) (hn : n + 20 ≤ maxN) (hw : w ≤ 1000) : tLeafL p.ds ([.d (.int (w : Int))] ++ []) (fun r c' => r = .d (leafF p w).1.d ∧ c' = (leafF p w).2.ds) := ⟨p, n, w, rfl, rfl, hw, h, hn, rfl, rfl⟩
section
variable {P : Program} {w : World} {K : PySem.W.Frag} {mg : Str → Option Value} {base : Heap}
theorem ok_leafl {f : Addr} {fd : FuncData} (F : Fun K "_law_leaf" "_law_leaf" sLawLeaf f fd) (T : Txt K w mg) (C_law_take : C8.Cal P w K mg base 1 "_law_take" (spB 1 tTake) []) (C_law_name : C8.Cal P w K mg base 2 "_law_name" (spB 0 tNameL) []) : FnOk P w K mg base CX0 3 f fd ["_law_box_here", "_law_wide"] (spB 1 tLeafL) := by
  refine fn_b F scLawLeaf (body := fun cdv A outer s H E hr => ⟨_, (pss_cons (ps_set (i := 2) scLawLeaf.nd rfl (Or.inl rfl) (C8.pe_c C_law_take hr (by omega) rfl (pa_cons (pv 0) (pa_cons pe_int pa_nil))))
      (pss_cons (ps_if (PW.pt (pw_and (pt_cmpR op_lt (pv 2) pe_int (nomark _)) (pw_and1 (pt_cmpR op_gt (pv 1) pe_int (nomark _))))) (pss_one (ps_ret (pe_tup (pa_cons pe_str (pa_cons (C8.pe_c C_law_take hr (by omega) rfl (pa_cons (pv 0) (pa_cons (pv 1) pa_nil))) pa_nil))))) pss_nil) (pss_cons (ps_if (pt_cmpR op_eq (pv 2) pe_int (nomark _)) (pss_one (ps_ret (pe_tup (pa_cons pe_str (pa_cons (C8.pe_c C_law_name hr (by omega) rfl (pa_cons (pv 0) pa_nil)) pa_nil))))) pss_nil) (pss_cons (ps_if (pt_cmpR op_eq (pv 2) pe_int (nomark _)) (pss_one (ps_ret (pe_tup (pa_cons pe_str (pa_cons (C8.pe_c C_law_name hr (by omega) rfl (pa_cons (pv 0) pa_nil)) (pa_cons (pe_ix ix_list (pe_lst (pa_cons (C8.pe_c C_law_take hr (by omega) rfl (pa_cons (pv 0) (pa_cons pe_int pa_nil))) (pa_cons (C8.pe_c C_law_take hr (by omega) rfl (pa_cons (pv 0) (pa_cons (pe_op op_pow pe_int pe_int) pa_nil))) pa_nil))) (pe_callTy call_int1 (by rfl) T.int (by decide +kernel) (pa_cons (pe_cmpR op_eq (C8.pe_c C_law_take hr (by omega) rfl (pa_cons (pv 0) (pa_cons pe_int pa_nil))) pe_int (nomark _)) pa_nil)) (fun _ _ => rfl)) pa_nil)))))) pss_nil) (pss_cons (ps_if (pt_cmpR op_eq (pv 2) pe_int (nomark _)) (pss_one (ps_ret (pe_tup (pa_cons pe_str (pa_cons (C8.pe_c C_law_name hr (by omega) rfl (pa_cons (pv 0) pa_nil)) (pa_cons (C8.pe_c C_law_take hr (by omega) rfl (pa_cons (pv 0) (pa_cons pe_int pa_nil))) pa_nil)))))) pss_nil) (pss_one (ps_ret (pe_ifExp (pt_cmpR op_eq (pv 2) pe_int (nomark _)) (pe_tup (pa_cons pe_str (pa_cons (C8.pe_c C_law_name hr (by omega) rfl (pa_cons (pv 0) pa_nil)) pa_nil))) (pe_tup (pa_cons pe_str (pa_cons (C8.pe_c C_law_take hr (by omega) rfl (pa_cons (pv 0) (pa_cons pe_int pa_nil))) pa_nil))))))))))), ?_⟩)
  rintro ct as Kr _ ⟨p, n, w', rfl, rfl, hw, hp, hn, k⟩
  obtain ⟨t0, t1, t2⟩ := takeF_ok (m := 8) hp (by decide)
  have nm := nameF_ok t2
  unfold leafF at k
  refine sm_seq (sm_set (ev_callB (i := 0) rfl (es_cons ev_int es_nil) rfl ar_nil rfl (got_take hp (by omega) (by decide) (by decide))) ?_)
  generalize takeF p 8 = q at *
  have lt3 : (decide (q.1 < 3) && decide ((w' : Int) > 0)) = decide (q.1 < 3 ∧ 0 < w') := by
    rw [Bool.decide_and]
    congr 1
    exact decide_eq_decide.mpr (by omega)
  refine sm_seq (sm_if ((et_and (et_test (ev_op (ev_var rfl) ev_int fv_cmpI)) fun _ => (et_test (ev_op (ev_var rfl) ev_int fv_cmpI))).is lt3) (fun h => ?_) (fun h => sm_next ?_))
  · have h := of_decide_eq_true h
    rw [if_pos h] at k
    obtain ⟨u0, u1, u2⟩ := takeF_ok (m := (w' : Int)) t2 (by omega)
    have k : Kr (.d (.tuple [.str "at", .int ((takeF q.2 w').1.toNat : Int)])) (takeF q.2 w').2.ds := k
    rw [Int.toNat_of_nonneg u0] at k
    exact sm_ret (ev_tup (eds_cons ev_str (eds_cons (ev_callB (i := 0) rfl (es_cons (ev_var rfl) es_nil) rfl ar_nil rfl (got_take t2 (by omega) (by omega) (by omega))) eds_nil))) ⟨_, rfl, k⟩
  have h := of_decide_eq_false h
  rw [if_neg h] at k
  refine sm_seq (sm_if (et_test (ev_op (ev_var rfl) ev_int fv_eqI)) (fun h => ?_) (fun h => sm_next ?_))
  · rw [if_pos (of_decide_eq_true h)] at k
    exact sm_ret (ev_tup (eds_cons ev_str (eds_cons (ev_callB (i := 0) rfl es_nil rfl ar_nil rfl (got_nm t2 (by omega))) eds_nil))) ⟨_, rfl, k⟩
  rw [if_neg (of_decide_eq_false h)] at k
  refine sm_seq (sm_if (et_test (ev_op (ev_var rfl) ev_int fv_eqI)) (fun h => ?_) (fun h => sm_next ?_))
  · rw [if_pos (of_decide_eq_true h)] at k
    obtain ⟨u0, u1, u2⟩ := takeF_ok (m := 5) nm.2 (by decide)
    obtain ⟨v0, v1, v2⟩ := takeF_ok (m := 10 ^ 29) u2 (by decide)
    obtain ⟨w0, w1, w2⟩ := takeF_ok (m := 9) v2 (by decide)
    have k : Kr (.d (.tuple [.str "maker", .str (nameF q.2).1, .int ((if (takeF (takeF (takeF (nameF q.2).2 5).2 (10 ^ 29)).2 9).1 = 0 then (takeF (takeF (nameF q.2).2 5).2 (10 ^ 29)).1.toNat else (takeF (nameF q.2).2 5).1.toNat : Nat) : Int)])) (takeF (takeF (takeF (nameF q.2).2 5).2 (10 ^ 29)).2 9).2.ds := k
    have ea : atI [PyData.int (takeF (nameF q.2).2 5).1, .int (takeF (takeF (nameF q.2).2 5).2 (10 ^ 29)).1] (if decide ((takeF (takeF (takeF (nameF q.2).2 5).2 (10 ^ 29)).2 9).1 = 0) = true then 1 else 0) = some (.int ((if (takeF (takeF (takeF (nameF q.2).2 5).2 (10 ^ 29)).2 9).1 = 0 then (takeF (takeF (nameF q.2).2 5).2 (10 ^ 29)).1.toNat else (takeF (nameF q.2).2 5).1.toNat : Nat) : Int)) := by
      by_cases z : (takeF (takeF (takeF (nameF q.2).2 5).2 (10 ^ 29)).2 9).1 = 0
      · rw [if_pos z, decide_eq_true z, if_pos rfl, Int.toNat_of_nonneg v0]
        rfl
      · rw [if_neg z, decide_eq_false z, if_neg (by decide), Int.toNat_of_nonneg u0]
        rfl
    exact sm_ret (ev_tup (eds_cons ev_str (eds_cons (ev_callB (i := 0) rfl es_nil rfl ar_nil rfl (got_nm t2 (by omega))) (eds_cons (ev_op (Ev.of_el (el_lst (eds_cons (ev_callB (i := 0) rfl (es_cons ev_int es_nil) rfl ar_nil rfl (got_take nm.2 (by omega) (by decide) (by decide))) (eds_cons (ev_callB (i := 0) rfl (es_cons (ev_op ev_int ev_int (fv_intC ⟨by decide, by decide, by decide⟩)) es_nil) rfl ar_nil rfl (got_take u2 (by omega) (by decide) (by decide))) eds_nil)))) (ev_fn (es_cons (ev_op (ev_callB (i := 0) rfl (es_cons ev_int es_nil) rfl ar_nil rfl (got_take v2 (by omega) (by decide) (by decide))) ev_int fv_eqI) es_nil) fv_intB) (fv_ixL ea)) eds_nil)))) ⟨_, rfl, k⟩
  rw [if_neg (of_decide_eq_false h)] at k
  refine sm_seq (sm_if (et_test (ev_op (ev_var rfl) ev_int fv_eqI)) (fun h => ?_) (fun h => sm_next ?_))
  · rw [if_pos (of_decide_eq_true h)] at k
    obtain ⟨u0, u1, u2⟩ := takeF_ok (m := 6) nm.2 (by decide)
    have k : Kr (.d (.tuple [.str "eater", .str (nameF q.2).1, .int ((takeF (nameF q.2).2 6).1.toNat : Int)])) (takeF (nameF q.2).2 6).2.ds := k
    rw [Int.toNat_of_nonneg u0] at k
    exact sm_ret (ev_tup (eds_cons ev_str (eds_cons (ev_callB (i := 0) rfl es_nil rfl ar_nil rfl (got_nm t2 (by omega))) (eds_cons (ev_callB (i := 0) rfl (es_cons ev_int es_nil) rfl ar_nil rfl (got_take nm.2 (by omega) (by decide) (by decide))) eds_nil)))) ⟨_, rfl, k⟩
  rw [if_neg (of_decide_eq_false h)] at k
  by_cases h6 : q.1 = 6
  · rw [if_pos h6] at k
    exact sm_ret (ev_if (b := true) ((et_test (ev_op (ev_var rfl) ev_int fv_eqI)).is (decide_eq_true h6)) (fun _ => (ev_tup (eds_cons ev_str (eds_cons (ev_callB (i := 0) rfl es_nil rfl ar_nil rfl (got_nm t2 (by omega))) eds_nil)))) (fun z => by cases z)) ⟨_, rfl, k⟩
  · rw [if_neg h6] at k
    obtain ⟨u0, u1, u2⟩ := takeF_ok (m := 6) t2 (by decide)
    have k : Kr (.d (.tuple [.str "kind", .int ((takeF q.2 6).1.toNat : Int)])) (takeF q.2 6).2.ds := k
    rw [Int.toNat_of_nonneg u0] at k
    exact sm_ret (ev_if (b := false) ((et_test (ev_op (ev_var rfl) ev_int fv_eqI)).is (decide_eq_false h6)) (fun z => by cases z) (fun _ => (ev_tup (eds_cons ev_str (eds_cons (ev_callB (i := 0) rfl (es_cons ev_int es_nil) rfl ar_nil rfl (got_take t2 (by omega) (by decide) (by decide))) eds_nil))))) ⟨_, rfl, k⟩
end
end KP
set_option Elab.async false
set_option linter.unusedVariables false
set_option linter.unusedSectionVars false
set_option maxRecDepth 100000
set_option maxHeartbeats 2000000
namespace KP
open PySem PySem.Spec PyProof.Rows L2 KA OW
/-! ### one place higher, where the law has it -/
abbrev sLawUp : Stmt := top 43
abbrev nLawUp : List Str := ["_law_whole", "_law_start", "_law_deep", "_law_found", "_law_k", "_law_part"]
theorem scLawUp : FnScope nLawUp ["_law_whole", "_law_start"] (defScope sLawUp) := ⟨rfl, rfl, rfl, by decide +kernel, rfl, by decide +kernel, by decide +kernel⟩
structure Dfn (K : PySem.W.Frag) (mg : Str → Option Value) (x : Str) (st : Stmt) (f : Addr) (fd : FuncData) (ps : List Str) : Prop where
  fn : Fun K x x st f fd
  mgf : mg x = some (.ref f)
  b : Binds K fd ps []
theorem Dfn.cal {P : Program} {w : World} {K : PySem.W.Frag} {mg : Str → Option Value} {base : Heap} {x : Str} {st : Stmt} {f : Addr} {fd : FuncData} {ps : List Str} {k : Nat} {sp : Sp} (D : Dfn K mg x st f fd ps) (F : FnOk P w K mg base CX0 k f fd ps sp) :
    C8.Cal P w K mg base k x sp [] := ⟨f, fd, ps, [], F, D.mgf, D.fn.kp, D.b, .nil⟩
def prs : Tm → List Tm
  | .all a b | .fn a b | .app a b | .self a b => [a, b]
  | .tri _ a b c => [a, b, c]
  | _ => []
def sh (t : Tm) (k : Nat) : Nat := if t.lv = 3 ∧ k = 1 then 1 else 0
theorem prs_d : ∀ {t : Tm}, t.lv ≠ 0 → t.d = .tuple (.str t.wd :: (prs t).map Tm.d)
  | .at_ _, h | .lf _, h => absurd rfl h
  | .all _ _, _ | .fn _ _, _ | .app _ _, _ | .self _ _, _ | .tri _ _ _ _, _ => rfl
theorem prs_hg : ∀ {t p : Tm}, p ∈ prs t → p.hg < t.hg
  | .all a b, p, h | .fn a b, p, h | .app a b, p, h | .self a b, p, h => by
    have h : p ∈ [a, b] := h
    show p.hg < max a.hg b.hg + 1
    simp only [List.mem_cons, List.not_mem_nil, or_false] at h
    rcases h with rfl | rfl <;> omega
  | .tri k a b c, p, h => by
    have h : p ∈ [a, b, c] := h
    show p.hg < max a.hg (max b.hg c.hg) + 1
    simp only [List.mem_cons, List.not_mem_nil, or_false] at h
    rcases h with rfl | rfl | rfl <;> omega
  | .at_ _, _, h | .lf _, _, h => by cases h
theorem prs_len (t : Tm) : (prs t).length ≤ 3 := by cases t <;> (first | exact Nat.le_refl 3 | exact (show 2 ≤ 3 by decide) | exact Nat.zero_le 3)
def upT (s : Nat) : Tm → Tm
  | .at_ n => .at_ (if s ≤ n then n + 1 else n)
  | .lf l => .lf l
  | .all a b => .all (upT s a) (upT (s + 1) b)
  | .fn a b => .fn (upT s a) (upT (s + 1) b)
  | .app a b => .app (upT s a) (upT s b)
  | .self a b => .self (upT s a) (upT s b)
  | .tri k a b c => .tri k (upT s a) (upT s b) (upT s c)
theorem up_d (s : Nat) : ∀ {t : Tm}, t.lv ≠ 0 → (upT s t).d = .tuple (.str t.wd :: (prs t).mapIdx fun k p => (upT (s + sh t k) p).d)
  | .at_ _, h | .lf _, h => absurd rfl h
  | .all _ _, _ | .fn _ _, _ | .app _ _, _ | .self _ _, _ | .tri _ _ _ _, _ => rfl
theorem node_w (t : Tm) (h : t.lv ≠ 0) : t.wd ≠ "at" ∧ ((["kind", "name", "thing", "maker", "eater"] : List Str).any fun b => b == t.wd) = false := (show ∀ p ∈ wtab, p.2 ≠ 0 → p.1 ≠ "at" ∧ ((["kind", "name", "thing", "maker", "eater"] : List Str).any fun b => b == p.1) = false by decide +kernel) _ (tab_mem t) h
theorem leaf_w : ∀ l : Lf, l.wd ≠ "at" ∧ ((["kind", "name", "thing", "maker", "eater"] : List Str).any fun b => b == l.wd) = true
  | .kind _ => (show ("kind" : Str) ≠ "at" ∧ ((["kind", "name", "thing", "maker", "eater"] : List Str).any fun b => b == "kind") = true by decide +kernel)
  | .name _ => (show ("name" : Str) ≠ "at" ∧ ((["kind", "name", "thing", "maker", "eater"] : List Str).any fun b => b == "name") = true by decide +kernel)
  | .thing _ => (show ("thing" : Str) ≠ "at" ∧ ((["kind", "name", "thing", "maker", "eater"] : List Str).any fun b => b == "thing") = true by decide +kernel)
  | .maker _ _ => (show ("maker" : Str) ≠ "at" ∧ ((["kind", "name", "thing", "maker", "eater"] : List Str).any fun b => b == "maker") = true by decide +kernel)
  | .eater _ _ => (show ("eater" : Str) ≠ "at" ∧ ((["kind", "name", "thing", "maker", "eater"] : List Str).any fun b => b == "eater") = true by decide +kernel)
theorem sh_int (t : Tm) (s j : Nat) : (s : Int) + (if ((["all", "fun"] : List Str).any fun b => b == t.wd) = true then 1 else 0) * (if decide (((0 + j : Nat) : Int) = 1) = true then 1 else 0) = ((s + sh t j : Nat) : Int) := by
  rw [in_two]
  have l3 : t.lv ≤ 3 := (show ∀ p ∈ wtab, p.2 ≤ 3 by decide +kernel) _ (tab_mem t)
  unfold sh
  by_cases a : t.lv = 3
  · by_cases b : j = 1
    · rw [if_pos (decide_eq_true (by omega)), if_pos (decide_eq_true (by omega)), if_pos ⟨a, b⟩]
      rfl
    · rw [if_pos (decide_eq_true (by omega)), if_neg (by rw [decide_eq_false (by omega)]; decide), if_neg (fun z => b z.2)]
      rfl
  · have d1 : decide (2 < t.lv) = false := decide_eq_false (by omega)
    have d2 : (if t.lv = 3 ∧ j = 1 then 1 else 0 : Nat) = 0 := if_neg fun z => a z.1
    rw [d1, d2]
    show (s : Int) + 0 * _ = _
    rw [Int.zero_mul]
    rfl
def tUp (lim : Nat) : List Sl → (Rv → Prop) → Prop := fun as Kr => ∃ (t : Tm) (s : Nat), as = [.d t.d, .d (.int (s : Int))] ∧ t.hg ≤ lim ∧ Kr (.d (upT s t).d)
section
variable {P : Program} {w : World} {K : PySem.W.Frag} {mg : Str → Option Value} {base : Heap}
theorem ok_up {f : Addr} {fd : FuncData} (D : Dfn K mg "_law_up" sLawUp f fd ["_law_whole", "_law_start"]) (T : Txt K w mg) (Tenum : mg "enumerate" = none) : ∀ lim : Nat, FnOk P w K mg base CX0 (1 + lim) f fd ["_law_whole", "_law_start"] (spD 2 (tUp lim))
  | 0 => ⟨fun vs H Q E h => by
      obtain ⟨Z, as, Kr, hZ, ha, hl, _⟩ := h
      rw [ha.length, hl]
      rfl, fun A outer s H args us vs Q E hr e0 bt rv h => by
      obtain ⟨Z, as, Kr, hZ, ha, hl, ⟨t, _, _, h0, _⟩, go⟩ := h
      have : 1 ≤ t.hg := by cases t <;> (show 1 ≤ _; first | exact Nat.le_refl 1 | exact Nat.succ_le_succ (Nat.zero_le _))
      omega⟩
  | lim + 1 => by
    have C_law_up : C8.Cal P w K mg base (1 + lim) "_law_up" (spD 2 (tUp lim)) [] := D.cal (ok_up D T Tenum lim)
    refine fn_d (k := 1 + lim) D.fn scLawUp (body := fun cdv A outer s H E hr => ⟨_, (pss_cons (ps_if (pt_cmpR op_eq (pe_ix ix_tup (pv 0) pe_int (fun _ _ => rfl)) pe_str (nomark _)) (pss_one (ps_ret (pe_ifExp (pt_cmpR op_ge (pe_ix ix_tup (pv 0) pe_int (fun _ _ => rfl)) (pv 1) (nomark _)) (pe_tup (pa_cons pe_str (pa_cons (pe_op op_add (pe_ix ix_tup (pv 0) pe_int (fun _ _ => rfl)) pe_int) pa_nil))) (pv 0)))) pss_nil) (pss_cons (ps_if (pt_cmpR op_in_seq (pe_ix ix_tup (pv 0) pe_int (fun _ _ => rfl)) (pe_lst (pa_cons pe_str (pa_cons pe_str (pa_cons pe_str (pa_cons pe_str (pa_cons pe_str pa_nil)))))) rfl) (pss_one (ps_ret (pv 0))) pss_nil) (pss_cons (ps_set (i := 2) scLawUp.nd rfl (Or.inr rfl) (pe_callTy call_int1 (by rfl) T.int (by decide +kernel) (pa_cons (pe_cmpR op_in_seq (pe_ix ix_tup (pv 0) pe_int (fun _ _ => rfl)) (pe_lst (pa_cons pe_str (pa_cons pe_str pa_nil))) rfl) pa_nil)))
      (pss_cons (ps_setLc (i := 3) (own := [("_law_k", 4), ("_law_part", 5)]) (g := gTup K 2 (gCons (gName 4) (gCons (gName 5) gNil))) (tt := tYes) rfl scLawUp.nd rfl rfl (sw_true rfl rfl rfl (by decide +kernel)) (pi_nut (by rfl) Tenum (pa_cons (pe_slice sl_tupA (pv 0) (po_some pe_int) po_none) pa_nil)) (blkOk_by (N := nLawUp) (sc := defScope sLawUp) (by decide +kernel)) (fun _ _ _ _ _ => (pg_tupK (K := K) rfl rfl (pgs_cons (pg_name (i := 4) scLawUp.nd rfl (Or.inl rfl)) (pgs_cons (pg_name (i := 5) scLawUp.nd rfl (Or.inl rfl)) pgs_nil)))) (fun _ _ _ _ _ => pts_nil) (fun _ _ _ _ _ => (C8.pe_c C_law_up hr (by omega) rfl (pa_cons (pv 5) (pa_cons (pe_op op_add (pv 1) (pe_op op_mul (pv 2) (pe_callTy call_int1 (by rfl) T.int (by decide +kernel) (pa_cons (pe_cmpR op_eq (pv 4) pe_int (nomark _)) pa_nil)))) pa_nil)))))
      (pss_one (ps_ret (pe_op op_catA (pe_tup (pa_cons (pe_ix ix_tup (pv 0) pe_int (fun _ _ => rfl)) pa_nil)) (pe_callTy call_tuple_of (by rfl) T.tuple (by decide +kernel) (pa_cons (pv 3) pa_nil))))))))), ?_⟩)
    rintro as Kr _ ⟨t, s, rfl, hl, k⟩
    by_cases l0 : t.lv = 0
    · cases t with
      | at_ n =>
        refine sm_seq (sm_if (b := true) ((et_test (ev_op (ev_op (ev_var rfl) ev_int (fv_ixT at0)) ev_str fv_eqS)).is (by decide +kernel)) (fun _ => ?_) (fun z => by cases z))
        by_cases c : s ≤ n
        · have e : (upT s (.at_ n)).d = .tuple [.str "at", .int ((n : Int) + 1)] := by
            show PyData.tuple [.str "at", .int ((if s ≤ n then n + 1 else n : Nat) : Int)] = _
            rw [if_pos c]
            rfl
          rw [e] at k
          exact sm_ret (ev_if (b := true) ((et_test (ev_op (ev_op (ev_var rfl) ev_int (fv_ixT at1)) (ev_var rfl) fv_cmpI)).is (decide_eq_true (by omega))) (fun h => (ev_tup (eds_cons ev_str (eds_cons (ev_op (ev_op (ev_var rfl) ev_int (fv_ixT at1)) ev_int fv_int) eds_nil)))) (fun z => by cases z)) k
        · have e : (upT s (.at_ n)).d = .tuple [.str "at", .int (n : Int)] := by
            show PyData.tuple [.str "at", .int ((if s ≤ n then n + 1 else n : Nat) : Int)] = _
            rw [if_neg c]
          rw [e] at k
          exact sm_ret (ev_if (b := false) ((et_test (ev_op (ev_op (ev_var rfl) ev_int (fv_ixT at1)) (ev_var rfl) fv_cmpI)).is (decide_eq_false (by omega))) (fun z => by cases z) (fun h => (ev_var rfl))) k
      | lf l =>
        obtain ⟨ds, ed⟩ := d_shape (.lf l)
        have k : Kr (.d (Tm.lf l).d) := k
        rw [ed] at k ⊢
        refine sm_seq (sm_if (b := false) ((et_test (ev_op (ev_op (ev_var rfl) ev_int (fv_ixT at0)) ev_str fv_eqS)).is (decide_eq_false (leaf_w l).1)) (fun z => by cases z) (fun _ => sm_next ?_))
        exact sm_seq (sm_if (b := true) ((et_test (ev_op (ev_op (ev_var rfl) ev_int (fv_ixT at0)) (Ev.of_el (el_lst (eds_cons ev_str (eds_cons ev_str (eds_cons ev_str (eds_cons ev_str (eds_cons ev_str eds_nil))))))) (fv_inLs (bs := ["kind", "name", "thing", "maker", "eater"])))).is (leaf_w l).2) (fun _ => sm_ret (ev_var rfl) k) (fun z => by cases z))
      | all a b => cases l0
      | fn a b => cases l0
      | app a b => cases l0
      | self a b => cases l0
      | tri q a b c => cases l0
    · rw [up_d s l0] at k
      rw [prs_d l0]
      have nw := node_w t l0
      have pl := prs_len t
      refine sm_seq (sm_if (b := false) ((et_test (ev_op (ev_op (ev_var rfl) ev_int (fv_ixT at0)) ev_str fv_eqS)).is (decide_eq_false nw.1)) (fun z => by cases z) (fun _ => sm_next ?_))
      refine sm_seq (sm_if (b := false) ((et_test (ev_op (ev_op (ev_var rfl) ev_int (fv_ixT at0)) (Ev.of_el (el_lst (eds_cons ev_str (eds_cons ev_str (eds_cons ev_str (eds_cons ev_str (eds_cons ev_str eds_nil))))))) (fv_inLs (bs := ["kind", "name", "thing", "maker", "eater"])))).is nw.2) (fun z => by cases z) (fun _ => sm_next ?_))
      refine sm_seq (sm_set (ev_fn (es_cons (ev_op (ev_op (ev_var rfl) ev_int (fv_ixT at0)) (Ev.of_el (el_lst (eds_cons ev_str (eds_cons ev_str eds_nil)))) (fv_inLs (bs := ["all", "fun"]))) es_nil) fv_intB) ?_)
      refine sm_seq (sm_setL (el_lcY (ys := (prs t).mapIdx fun k p => (upT (s + sh t k) p).d) (fi_enumT (xs := (prs t).map Tm.d) (eds_cons (Ev.is (ev_slA (ev_var rfl) (eo_some ev_int) eo_none) (by rw [show (1 : Int) = ((1 : Nat) : Int) from rfl, cutD_from']; rfl)) eds_nil)) ⟨⟨.un, rfl, trivial⟩, ⟨.un, rfl, trivial⟩, trivial⟩ ?_ ?_ (fun j z y hz hy => ?_)) ?_ (by decide) (by show 3 < 6; decide))
      · rw [enumD_len, List.length_map, sizeLine_eq]
        omega
      · rw [enumD_len, List.length_map, List.length_mapIdx]
      · obtain ⟨x, hx, rfl⟩ := enumD_at hz
        rw [List.getElem?_map] at hx
        rw [List.getElem?_mapIdx] at hy
        cases ep : (prs t)[j]? with
        | none => rw [ep] at hx; cases hx
        | some p =>
          rw [ep] at hx hy
          cases hx
          cases hy
          have hp := prs_hg (List.mem_of_getElem? ep)
          refine ⟨_, tgw_tup (xs := [.int ((0 + j : Nat) : Int), p.d]) (tgsw_cons tgw_name (tgsw_cons tgw_name tgsw_nil)), (ev_call (es_cons (ev_var rfl) (es_cons (ev_op (ev_var rfl) (ev_op (ev_var rfl) (ev_fn (es_cons (ev_op (ev_var rfl) ev_int fv_eqI) es_nil) fv_intB) (fv_intC ?_)) fv_int) es_nil)) ar_nil rfl ⟨p, s + sh t j, by rw [← sh_int]; rfl, by omega, rfl⟩), rfl, ⟨⟨_, rfl, trivial⟩, ⟨_, rfl, trivial⟩, trivial⟩⟩
          split <;> split <;> first | exact Or.inl ⟨by decide, by decide⟩ | exact Or.inr ⟨by decide, by decide⟩
      · exact (sm_ret (ev_op (ev_tup (eds_cons (ev_op (ev_var rfl) ev_int (fv_ixT at0)) eds_nil)) (ev_fn (es_cons (ev_varF rfl) es_nil) fv_tupL) (fv_catA (by rw [List.length_mapIdx, sizeLine_eq, List.length_singleton]; omega))) k)
end
end KP
set_option Elab.async false
set_option linter.unusedVariables false
set_option linter.unusedSectionVars false
set_option maxRecDepth 100000
set_option maxHeartbeats 2000000
namespace KP
open PySem PySem.Spec PyProof.Rows L2 KA OW
/-! ### a term that is drawn, as a function -/
theorem up_fr : ∀ (t : Tm) (s : Nat), fr (s + 1) (upT s t) = fr s t
  | .at_ n, s => by
    show (if s + 1 ≤ (if s ≤ n then n + 1 else n) then [(if s ≤ n then n + 1 else n) - (s + 1)] else []) = if s ≤ n then [n - s] else []
    by_cases c : s ≤ n
    · rw [if_pos c, if_pos c, if_pos (by omega), show n + 1 - (s + 1) = n - s by omega]
    · rw [if_neg c, if_neg c, if_neg (by omega)]
  | .lf _, _ => rfl
  | .all a b, s | .fn a b, s => by
    show fr (s + 1) (upT s a) ++ fr (s + 1 + 1) (upT (s + 1) b) = fr s a ++ fr (s + 1) b
    rw [up_fr a, up_fr b]
  | .app a b, s | .self a b, s => by
    show fr (s + 1) (upT s a) ++ fr (s + 1) (upT s b) = fr s a ++ fr s b
    rw [up_fr a, up_fr b]
  | .tri k a b c, s => by
    show fr (s + 1) (upT s a) ++ (fr (s + 1) (upT s b) ++ fr (s + 1) (upT s c)) = fr s a ++ (fr s b ++ fr s c)
    rw [up_fr a, up_fr b, up_fr c]
def Tm.okB (B : Nat) : Tm → Bool
  | .at_ n => decide (n ≤ B)
  | .lf l => l.ok
  | .all a b | .fn a b | .app a b | .self a b => a.okB B && b.okB B
  | .tri _ a b c => a.okB B && b.okB B && c.okB B
theorem okB_mono {B C : Nat} (h : B ≤ C) : ∀ {t : Tm}, t.okB B = true → t.okB C = true
  | .at_ n, g => by
    have g : n ≤ B := of_decide_eq_true g
    exact decide_eq_true (by omega)
  | .lf l, g => g
  | .all a b, g | .fn a b, g | .app a b, g | .self a b, g => by
    obtain ⟨g1, g2⟩ := and2 (a := a.okB B) (b := b.okB B) g
    show (a.okB C && b.okB C) = true
    rw [okB_mono h g1, okB_mono h g2]
    rfl
  | .tri k a b c, g => by
    obtain ⟨g12, g3⟩ := and2 (a := a.okB B && b.okB B) (b := c.okB B) g
    obtain ⟨g1, g2⟩ := and2 g12
    show (a.okB C && b.okB C && c.okB C) = true
    rw [okB_mono h g1, okB_mono h g2, okB_mono h g3]
    rfl
theorem okB_ok : ∀ {t : Tm}, t.okB 100000 = true → t.ok = true
  | .at_ _, g | .lf _, g => g
  | .all a b, g | .fn a b, g | .app a b, g | .self a b, g => by
    obtain ⟨g1, g2⟩ := and2 (a := a.okB 100000) (b := b.okB 100000) g
    show (a.ok && b.ok) = true
    rw [okB_ok g1, okB_ok g2]
    rfl
  | .tri k a b c, g => by
    obtain ⟨g12, g3⟩ := and2 (a := a.okB 100000 && b.okB 100000) (b := c.okB 100000) g
    obtain ⟨g1, g2⟩ := and2 g12
    show (a.ok && b.ok && c.ok) = true
    rw [okB_ok g1, okB_ok g2, okB_ok g3]
    rfl
theorem up_okB {B : Nat} : ∀ {t : Tm} {s : Nat}, t.okB B = true → (upT s t).okB (B + 1) = true
  | .at_ n, s, g => by
    have g : n ≤ B := of_decide_eq_true g
    refine decide_eq_true ?_
    split <;> omega
  | .lf l, s, g => g
  | .all a b, s, g | .fn a b, s, g | .app a b, s, g | .self a b, s, g => by
    obtain ⟨g1, g2⟩ := and2 (a := a.okB B) (b := b.okB B) g
    show ((upT _ a).okB (B + 1) && (upT _ b).okB (B + 1)) = true
    rw [up_okB g1, up_okB g2]
    rfl
  | .tri k a b c, s, g => by
    obtain ⟨g12, g3⟩ := and2 (a := a.okB B && b.okB B) (b := c.okB B) g
    obtain ⟨g1, g2⟩ := and2 g12
    show ((upT _ a).okB (B + 1) && (upT _ b).okB (B + 1) && (upT _ c).okB (B + 1)) = true
    rw [up_okB g1, up_okB g2, up_okB g3]
    rfl
theorem up_sz : ∀ (t : Tm) (s : Nat), (upT s t).sz = t.sz ∧ (upT s t).ats = t.ats ∧ (upT s t).hg = t.hg
  | .at_ _, _ | .lf _, _ => ⟨rfl, rfl, rfl⟩
  | .all a b, s | .fn a b, s => by
    obtain ⟨a1, a2, a3⟩ := up_sz a s
    obtain ⟨b1, b2, b3⟩ := up_sz b (s + 1)
    refine ⟨?_, ?_, ?_⟩
    · show (upT s a).sz + (upT (s + 1) b).sz + 1 = a.sz + b.sz + 1
      rw [a1, b1]
    · show (upT s a).ats + (upT (s + 1) b).ats = a.ats + b.ats
      rw [a2, b2]
    · show max (upT s a).hg (upT (s + 1) b).hg + 1 = max a.hg b.hg + 1
      rw [a3, b3]
  | .app a b, s | .self a b, s => by
    obtain ⟨a1, a2, a3⟩ := up_sz a s
    obtain ⟨b1, b2, b3⟩ := up_sz b s
    refine ⟨?_, ?_, ?_⟩
    · show (upT s a).sz + (upT s b).sz + 1 = a.sz + b.sz + 1
      rw [a1, b1]
    · show (upT s a).ats + (upT s b).ats = a.ats + b.ats
      rw [a2, b2]
    · show max (upT s a).hg (upT s b).hg + 1 = max a.hg b.hg + 1
      rw [a3, b3]
  | .tri k a b c, s => by
    obtain ⟨a1, a2, a3⟩ := up_sz a s
    obtain ⟨b1, b2, b3⟩ := up_sz b s
    obtain ⟨c1, c2, c3⟩ := up_sz c s
    refine ⟨?_, ?_, ?_⟩
    · show (upT s a).sz + (upT s b).sz + (upT s c).sz + 1 = a.sz + b.sz + c.sz + 1
      rw [a1, b1, c1]
    · show (upT s a).ats + ((upT s b).ats + (upT s c).ats) = a.ats + (b.ats + c.ats)
      rw [a2, b2, c2]
    · show max (upT s a).hg (max (upT s b).hg (upT s c).hg) + 1 = max a.hg (max b.hg c.hg) + 1
      rw [a3, b3, c3]
def termF : Nat → Pu → Nat → Tm × Pu
  | 0, p, w => leafF (takeF p 10).2 w
  | d + 1, p, w =>
    if (takeF p 10).1 = 0 then leafF (takeF p 10).2 w
    else if (takeF p 10).1 = 1 ∨ (takeF p 10).1 = 2 then
      ((if (takeF p 10).1 = 1 then Tm.all (termF d (takeF p 10).2 w).1 (termF d (termF d (takeF p 10).2 w).2 (w + 1)).1 else Tm.fn (termF d (takeF p 10).2 w).1 (termF d (termF d (takeF p 10).2 w).2 (w + 1)).1), (termF d (termF d (takeF p 10).2 w).2 (w + 1)).2)
    else if (takeF p 10).1 = 3 ∨ (takeF p 10).1 = 4 then
      (.all (termF d (takeF p 10).2 w).1 (upT 0 (termF d (termF d (takeF p 10).2 w).2 w).1), (termF d (termF d (takeF p 10).2 w).2 w).2)
    else if (takeF p 10).1 < 8 then
      (.app (termF d (takeF p 10).2 w).1 (termF d (termF d (takeF p 10).2 w).2 w).1, (termF d (termF d (takeF p 10).2 w).2 w).2)
    else if (takeF p 10).1 = 8 then
      (.self (termF d (takeF p 10).2 w).1 (termF d (termF d (takeF p 10).2 w).2 w).1, (leafF (takeF (termF d (termF d (takeF p 10).2 w).2 w).2 10).2 w).2)
    else
      (.tri (decide ((takeF (leafF (takeF (termF d (termF d (takeF p 10).2 w).2 w).2 10).2 w).2 2).1 = 1)) (leafF (takeF (termF d (termF d (takeF p 10).2 w).2 w).2 10).2 w).1 (termF d (takeF p 10).2 w).1 (termF d (termF d (takeF p 10).2 w).2 w).1, (takeF (leafF (takeF (termF d (termF d (takeF p 10).2 w).2 w).2 10).2 w).2 2).2)
end KP
set_option Elab.async false
set_option linter.unusedVariables false
set_option linter.unusedSectionVars false
set_option maxRecDepth 100000
set_option maxHeartbeats 2000000
namespace KP
open PySem PySem.Spec PyProof.Rows L2 KA OW
/-! ### what is drawn is sound, and small -/
structure Dt (w B s a h : Nat) (t : Tm) : Prop where
  ok : t.okB B = true
  cl : ∀ i ∈ fr 0 t, i < w
  sz : t.sz ≤ s
  at_ : t.ats ≤ a
  hg : t.hg ≤ h
theorem Dt.mono {w B C s s' a a' h h' : Nat} {t : Tm} (d : Dt w B s a h t) (h1 : B ≤ C) (h2 : s ≤ s') (h3 : a ≤ a') (h4 : h ≤ h') : Dt w C s' a' h' t :=
  ⟨okB_mono h1 d.ok, d.cl, Nat.le_trans d.sz h2, Nat.le_trans d.at_ h3, Nat.le_trans d.hg h4⟩
theorem hg_pos : ∀ t : Tm, 1 ≤ t.hg := fun t => by cases t <;> (show 1 ≤ _; first | exact Nat.le_refl 1 | exact Nat.succ_le_succ (Nat.zero_le _))
theorem Dr.dt {w : Nat} : ∀ {t : Tm}, Dr w t 1 1 1 → Dt w w 1 1 1 t
  | .at_ n, d => by
    have : n < w := d.cl n (by unfold fr; rw [if_pos (Nat.zero_le n)]; exact List.mem_singleton_self _)
    exact ⟨decide_eq_true (by omega), d.cl, d.sz, d.at_, d.hg⟩
  | .lf l, d => ⟨d.ok, d.cl, d.sz, d.at_, d.hg⟩
  | .all a b, d | .fn a b, d | .app a b, d | .self a b, d => by
    have h := d.hg
    have h : max a.hg b.hg + 1 ≤ 1 := h
    have := hg_pos a
    omega
  | .tri k a b c, d => by
    have h := d.hg
    have h : max a.hg (max b.hg c.hg) + 1 ≤ 1 := h
    have := hg_pos a
    omega
def szD : Nat → Nat
  | 0 => 1
  | d + 1 => 2 * szD d + 2
def atD : Nat → Nat
  | 0 => 1
  | d + 1 => 2 * atD d + 1
def csD : Nat → Nat
  | 0 => 21
  | d + 1 => 2 * csD d + 60
theorem szD_pos : ∀ d, 1 ≤ szD d ∧ 1 ≤ atD d ∧ 21 ≤ csD d
  | 0 => by decide
  | d + 1 => by
    have := szD_pos d
    show 1 ≤ 2 * szD d + 2 ∧ 1 ≤ 2 * atD d + 1 ∧ 21 ≤ 2 * csD d + 60
    omega
theorem Dt.binder {w B s a h : Nat} {x y : Tm} (dx : Dt w B s a h x) (oy : y.okB B = true) (cy : ∀ i ∈ fr 1 y, i < w) (sy : y.sz ≤ s) (ay : y.ats ≤ a) (hy : y.hg ≤ h) : Dt w B (2 * s + 2) (2 * a + 1) (h + 1) (.all x y) ∧ Dt w B (2 * s + 2) (2 * a + 1) (h + 1) (.fn x y) := by
  have ok : (x.okB B && y.okB B) = true := by rw [dx.ok, oy]; rfl
  have cl : ∀ i ∈ fr 0 x ++ fr 1 y, i < w := fun i hi => (List.mem_append.mp hi).elim (dx.cl i) (cy i)
  have h1 := dx.sz
  have h2 := dx.at_
  have h3 := dx.hg
  exact ⟨⟨ok, cl, by show x.sz + y.sz + 1 ≤ _; omega, by show x.ats + y.ats ≤ _; omega, by show max x.hg y.hg + 1 ≤ _; omega⟩, ⟨ok, cl, by show x.sz + y.sz + 1 ≤ _; omega, by show x.ats + y.ats ≤ _; omega, by show max x.hg y.hg + 1 ≤ _; omega⟩⟩
theorem termF_ok : ∀ (d : Nat) {p : Pu} {n w : Nat}, PuOk p n → w + d ≤ 900 → Dt w (w + 2 * d) (szD d) (atD d) (d + 1) (termF d p w).1 ∧ PuOk (termF d p w).2 (n + csD d)
  | 0, p, n, w, h, hw => by
    obtain ⟨t0, t1, t2⟩ := takeF_ok (m := 10) h (by decide)
    obtain ⟨l1, l2⟩ := leafF_ok (w := w) t2 (by omega)
    exact ⟨l1.dt, l2.more (by show n + 1 + 20 ≤ n + 21; omega)⟩
  | d + 1, p, n, w, h, hw => by
    obtain ⟨t0, t1, t2⟩ := takeF_ok (m := 10) h (by decide)
    obtain ⟨q1, q2, q3⟩ := szD_pos d
    obtain ⟨x1, x2⟩ := termF_ok d (w := w) t2 (by omega)
    obtain ⟨y1, y2⟩ := termF_ok d (w := w) x2 (by omega)
    obtain ⟨z1, z2⟩ := termF_ok d (w := w + 1) x2 (by omega)
    obtain ⟨u0, u1, u2⟩ := takeF_ok (m := 10) y2 (by decide)
    obtain ⟨l1, l2⟩ := leafF_ok (w := w) u2 (by omega)
    obtain ⟨v0, v1, v2⟩ := takeF_ok (m := 2) l2 (by decide)
    have eC : csD (d + 1) = 2 * csD d + 60 := rfl
    have eS : szD (d + 1) = 2 * szD d + 2 := rfl
    have eA : atD (d + 1) = 2 * atD d + 1 := rfl
    have x3 := x1.mono (C := w + 2 * (d + 1)) (by omega) (Nat.le_refl _) (Nat.le_refl _) (Nat.le_refl _)
    have y3 := y1.mono (C := w + 2 * (d + 1)) (by omega) (Nat.le_refl _) (Nat.le_refl _) (Nat.le_refl _)
    have z3 := z1.mono (C := w + 2 * (d + 1)) (by omega) (Nat.le_refl _) (Nat.le_refl _) (Nat.le_refl _)
    have l3 := l1.dt.mono (C := w + 2 * (d + 1)) (by omega) (Nat.le_refl _) (Nat.le_refl _) (Nat.le_refl _)
    rw [eC, eS, eA]
    unfold termF
    split
    · obtain ⟨m1, m2⟩ := leafF_ok (w := w) t2 (by omega)
      exact ⟨m1.dt.mono (by omega) (by omega) (by omega) (by omega), m2.more (by omega)⟩
    · split
      · have b := x3.binder z3.ok (fun i hi => by have := z3.cl (i + 1) (fr_one.mp hi); omega) z3.sz z3.at_ z3.hg
        refine ⟨?_, z2.more (by omega)⟩
        show Dt _ _ _ _ _ (if _ then _ else _)
        split
        · exact b.1
        · exact b.2
      · split
        · obtain ⟨e1, e2, e3⟩ := up_sz (termF d (termF d (takeF p 10).2 w).2 w).1 0
          have b := x3.binder (y := upT 0 (termF d (termF d (takeF p 10).2 w).2 w).1) (okB_mono (by omega) (up_okB (s := 0) y1.ok)) (fun i hi => y3.cl i (by have h := up_fr (termF d (termF d (takeF p 10).2 w).2 w).1 0; rw [← h]; exact hi)) (by rw [e1]; exact y3.sz) (by rw [e2]; exact y3.at_) (by rw [e3]; exact y3.hg)
          exact ⟨b.1, y2.more (by omega)⟩
        · have ok : ((termF d (takeF p 10).2 w).1.okB (w + 2 * (d + 1)) && (termF d (termF d (takeF p 10).2 w).2 w).1.okB (w + 2 * (d + 1))) = true := by rw [x3.ok, y3.ok]; rfl
          have cl : ∀ i ∈ fr 0 (termF d (takeF p 10).2 w).1 ++ fr 0 (termF d (termF d (takeF p 10).2 w).2 w).1, i < w := fun i hi => (List.mem_append.mp hi).elim (x3.cl i) (y3.cl i)
          have h1 := x3.sz
          have h2 := y3.sz
          have h3 := x3.at_
          have h4 := y3.at_
          have h5 := x3.hg
          have h6 := y3.hg
          have g1 := l3.sz
          have g2 := l3.at_
          have g3 := l3.hg
          split
          · exact ⟨⟨ok, cl, by show _ + _ + 1 ≤ _; omega, by show _ + _ ≤ _; omega, by show max _ _ + 1 ≤ _; omega⟩, y2.more (by omega)⟩
          · split
            · exact ⟨⟨ok, cl, by show _ + _ + 1 ≤ _; omega, by show _ + _ ≤ _; omega, by show max _ _ + 1 ≤ _; omega⟩, l2.more (by omega)⟩
            · refine ⟨⟨?_, fun i hi => ?_, by show _ + _ + _ + 1 ≤ _; omega, by show _ + (_ + _) ≤ _; omega, by show max _ (max _ _) + 1 ≤ _; omega⟩, v2.more (by omega)⟩
              · show (_ && _ && _) = true
                rw [l3.ok, x3.ok, y3.ok]
                rfl
              · rcases List.mem_append.mp hi with hi | hi
                · exact l3.cl i hi
                · exact cl i hi
end KP
set_option Elab.async false
set_option linter.unusedVariables false
set_option linter.unusedSectionVars false
set_option maxRecDepth 100000
set_option maxHeartbeats 2000000
namespace KP
open PySem PySem.Spec PyProof.Rows L2 KA OW
abbrev sLawTerm : Stmt := top 44
abbrev nLawTerm : List Str := ["_law_box_here", "_law_depth", "_law_wide", "_law_way", "_law_one", "_law_other", "_law_third"]
theorem scLawTerm : FnScope nLawTerm ["_law_box_here", "_law_depth", "_law_wide"] (defScope sLawTerm) := ⟨rfl, rfl, rfl, by decide +kernel, rfl, by decide +kernel, by decide +kernel⟩
def tTermL (lim : Nat) : List PyData → List Sl → (Rv → List PyData → Prop) → Prop := fun c as Kr => ∃ p n d w, c = p.ds ∧ as = [.d (.int (d : Nat)), .d (.int (w : Nat))] ∧ d < lim ∧ d ≤ 8 ∧ w + d ≤ 900 ∧ PuOk p n ∧ n + csD d ≤ maxN ∧ Kr (.d (termF d p w).1.d) (termF d p w).2.ds
theorem got_term {lim : Nat} {p : Pu} {n d w : Nat} {i j : Int} (ei : i = (d : Int)) (ej : j = (w : Int)) (hl : d < lim) (h8 : d ≤ 8) (hw : w + d ≤ 900) (h : PuOk p n) (hn : n + csD d ≤ maxN) : tTermL lim p.ds ([.d (.int i), .d (.int j)] ++ []) (fun r c' => r = .d (termF d p w).1.d ∧ c' = (termF d p w).2.ds) := ⟨p, n, d, w, rfl, by rw [ei, ej]; rfl, hl, h8, hw, h, hn, rfl, rfl⟩
section
variable {P : Program} {w : World} {K : PySem.W.Frag} {mg : Str → Option Value} {base : Heap}
theorem ok_termL {f : Addr} {fd : FuncData} (D : Dfn K mg "_law_term" sLawTerm f fd ["_law_box_here", "_law_depth", "_law_wide"]) (T : Txt K w mg) (C_law_take : C8.Cal P w K mg base 1 "_law_take" (spB 1 tTake) []) (C_law_leaf : C8.Cal P w K mg base 3 "_law_leaf" (spB 1 tLeafL) []) (C_law_up : C8.Cal P w K mg base 11 "_law_up" (spD 2 (tUp 10)) []) : ∀ lim : Nat, FnOk P w K mg base CX0 (12 + lim) f fd ["_law_box_here", "_law_depth", "_law_wide"] (spB 2 (tTermL lim))
  | 0 => ⟨fun vs H Q E h => by
      obtain ⟨Z, p, cs, ct, ws, as, Kr, rfl, hp, hZ, ep, dc, ha, hl, hT, go⟩ := h
      rw [List.length_cons, ha.length, hl]
      rfl, fun A outer s H args us vs Q E hr e0 bt rv h => by
      obtain ⟨Z, p, cs, ct, ws, as, Kr, rfl, hp, hZ, ep, dc, ha, hl, ⟨_, _, _, _, _, _, h0, _⟩, go⟩ := h
      omega⟩
  | lim + 1 => by
    have C_law_term : C8.Cal P w K mg base (12 + lim) "_law_term" (spB 2 (tTermL lim)) [] := D.cal (ok_termL D T C_law_take C_law_leaf C_law_up lim)
    refine fn_b (k := 12 + lim) D.fn scLawTerm (body := fun cdv A outer s H E hr => ⟨_, (pss_cons (ps_set (i := 3) scLawTerm.nd rfl (Or.inl rfl) (C8.pe_c C_law_take hr (by omega) rfl (pa_cons (pv 0) (pa_cons pe_int pa_nil))))
      (pss_cons (ps_if (PW.pt (pw_or (pt_cmpR op_eq (pv 1) pe_int (nomark _)) (pw_or1 (pt_cmpR op_eq (pv 3) pe_int (nomark _))))) (pss_one (ps_ret (C8.pe_c C_law_leaf hr (by omega) rfl (pa_cons (pv 0) (pa_cons (pv 2) pa_nil))))) pss_nil) (pss_cons (ps_set (i := 4) scLawTerm.nd rfl (Or.inl rfl) (C8.pe_c C_law_term hr (by omega) rfl (pa_cons (pv 0) (pa_cons (pe_op op_sub (pv 1) pe_int) (pa_cons (pv 2) pa_nil)))))
      (pss_cons (ps_if (pt_cmpR op_in_seq (pv 3) (pe_lst (pa_cons pe_int (pa_cons pe_int pa_nil))) rfl) (pss_one (ps_ret (pe_tup (pa_cons (pe_ix ix_list (pe_lst (pa_cons pe_str (pa_cons pe_str pa_nil))) (pe_op op_sub (pv 3) pe_int) (fun _ _ => rfl)) (pa_cons (pv 4) (pa_cons (C8.pe_c C_law_term hr (by omega) rfl (pa_cons (pv 0) (pa_cons (pe_op op_sub (pv 1) pe_int) (pa_cons (pe_op op_add (pv 2) pe_int) pa_nil)))) pa_nil)))))) pss_nil) (pss_cons (ps_set (i := 5) scLawTerm.nd rfl (Or.inl rfl) (C8.pe_c C_law_term hr (by omega) rfl (pa_cons (pv 0) (pa_cons (pe_op op_sub (pv 1) pe_int) (pa_cons (pv 2) pa_nil)))))
      (pss_cons (ps_if (pt_cmpR op_in_seq (pv 3) (pe_lst (pa_cons pe_int (pa_cons pe_int pa_nil))) rfl) (pss_one (ps_ret (pe_tup (pa_cons pe_str (pa_cons (pv 4) (pa_cons (C8.pe_c C_law_up hr (by omega) rfl (pa_cons (pv 5) (pa_cons pe_int pa_nil))) pa_nil)))))) pss_nil) (pss_cons (ps_if (pt_cmpR op_lt (pv 3) pe_int (nomark _)) (pss_one (ps_ret (pe_tup (pa_cons pe_str (pa_cons (pv 4) (pa_cons (pv 5) pa_nil)))))) pss_nil) (pss_cons (ps_set (i := 6) scLawTerm.nd rfl (Or.inl rfl) (C8.pe_c C_law_term hr (by omega) rfl (pa_cons (pv 0) (pa_cons pe_int (pa_cons (pv 2) pa_nil)))))
      (pss_one (ps_ret (pe_ifExp (pt_cmpR op_eq (pv 3) pe_int (nomark _)) (pe_tup (pa_cons pe_str (pa_cons (pv 4) (pa_cons (pv 5) pa_nil)))) (pe_tup (pa_cons (pe_ix ix_list (pe_lst (pa_cons pe_str (pa_cons pe_str pa_nil))) (C8.pe_c C_law_take hr (by omega) rfl (pa_cons (pv 0) (pa_cons pe_int pa_nil))) (fun _ _ => rfl)) (pa_cons (pv 6) (pa_cons (pv 4) (pa_cons (pv 5) pa_nil)))))))))))))))), ?_⟩)
    rintro ct as Kr _ ⟨p, n, d, w', rfl, rfl, hl, h8, hw, hp, hn, k⟩
    obtain ⟨t0, t1, t2⟩ := takeF_ok (m := 10) hp (by decide)
    have cp := szD_pos d
    refine sm_seq (sm_set (ev_callB (i := 0) rfl (es_cons ev_int es_nil) rfl ar_nil rfl (got_take hp (by omega) (by decide) (by decide))) ?_)
    cases d with
    | zero =>
      exact sm_seq (sm_if (b := true) ((et_or (a := true) (b := true) ((et_test (ev_op (ev_var rfl) ev_int fv_eqI)).is (by decide)) (fun z => by cases z)).is rfl) (fun h => (sm_ret (ev_callB (i := 0) rfl (es_cons (ev_var rfl) es_nil) rfl ar_nil rfl (got_leaf t2 (by have : csD 0 = 21 := rfl; omega) (by omega))) ⟨_, rfl, k⟩)) (fun z => by cases z))
    | succ d =>
      have eC : csD (d + 1) = 2 * csD d + 60 := rfl
      unfold termF at k
      have nz : decide (((d + 1 : Nat) : Int) = 0) = false := decide_eq_false (by omega)
      refine sm_seq (sm_if (b := decide ((takeF p 10).1 = 0)) ((et_or (a := false) ((et_test (ev_op (ev_var rfl) ev_int fv_eqI)).is nz) (fun _ => (et_test (ev_op (ev_var rfl) ev_int fv_eqI)))).is rfl) (fun h => ?_) (fun h => sm_next ?_))
      · rw [if_pos (of_decide_eq_true h)] at k
        exact (sm_ret (ev_callB (i := 0) rfl (es_cons (ev_var rfl) es_nil) rfl ar_nil rfl (got_leaf t2 (by omega) (by omega))) ⟨_, rfl, k⟩)
      rw [if_neg (of_decide_eq_false h)] at k
      obtain ⟨x1, x2⟩ := termF_ok d (w := w') t2 (by omega)
      obtain ⟨y1, y2⟩ := termF_ok d (w := w') x2 (by omega)
      refine sm_seq (sm_set (ev_callB (i := 0) rfl (es_cons (ev_op (ev_var rfl) ev_int fv_int) (es_cons (ev_var rfl) es_nil)) rfl ar_nil rfl (got_term (d := d) (w := w') (by omega) rfl (by omega) (by omega) (by omega) t2 (by omega))) ?_)
      have ew : ∀ a b : Int, (([a, b] : List Int).any fun z => z == (takeF p 10).1) = decide ((takeF p 10).1 = a ∨ (takeF p 10).1 = b) := fun a b => by
        by_cases c : (takeF p 10).1 = a
        · rw [decide_eq_true (Or.inl c), List.any_cons, c, beq_self_eq_true, Bool.true_or]
        · by_cases c2 : (takeF p 10).1 = b
          · rw [decide_eq_true (Or.inr c2), List.any_cons, List.any_cons, c2, beq_self_eq_true, Bool.true_or, Bool.or_true]
          · rw [decide_eq_false (fun o => o.elim c c2), List.any_cons, List.any_cons, List.any_nil, beq_eq_false_iff_ne.mpr (Ne.symm c), beq_eq_false_iff_ne.mpr (Ne.symm c2)]
            rfl
      refine sm_seq (sm_if ((et_test (ev_op (ev_var rfl) (Ev.of_el (el_lst (eds_cons ev_int (eds_cons ev_int eds_nil)))) (fv_inI (bs := [1, 2])))).is (ew 1 2)) (fun h => ?_) (fun h => sm_next ?_))
      · have h := of_decide_eq_true h
        rw [if_pos h] at k
        have ea : atI ([.str "all", .str "fun"] : List PyData) ((takeF p 10).1 - 1) = some (.str (if (takeF p 10).1 = 1 then "all" else "fun")) := by
          rcases h with h | h
          · rw [h]
            rfl
          · rw [h]
            rfl
        have ek : (if (takeF p 10).1 = 1 then Tm.all (termF d (takeF p 10).2 w').1 (termF d (termF d (takeF p 10).2 w').2 (w' + 1)).1 else Tm.fn (termF d (takeF p 10).2 w').1 (termF d (termF d (takeF p 10).2 w').2 (w' + 1)).1).d = .tuple [.str (if (takeF p 10).1 = 1 then "all" else "fun"), (termF d (takeF p 10).2 w').1.d, (termF d (termF d (takeF p 10).2 w').2 (w' + 1)).1.d] := by
          split <;> rfl
        have k : Kr (.d (if (takeF p 10).1 = 1 then Tm.all (termF d (takeF p 10).2 w').1 (termF d (termF d (takeF p 10).2 w').2 (w' + 1)).1 else Tm.fn (termF d (takeF p 10).2 w').1 (termF d (termF d (takeF p 10).2 w').2 (w' + 1)).1).d) (termF d (termF d (takeF p 10).2 w').2 (w' + 1)).2.ds := k
        rw [ek] at k
        exact (sm_ret (ev_tup (eds_cons (ev_op (Ev.of_el (el_lst (eds_cons ev_str (eds_cons ev_str eds_nil)))) (ev_op (ev_var rfl) ev_int fv_int) (fv_ixL ea)) (eds_cons (ev_var rfl) (eds_cons (ev_callB (i := 0) rfl (es_cons (ev_op (ev_var rfl) ev_int fv_int) (es_cons (ev_op (ev_var rfl) ev_int fv_int) es_nil)) rfl ar_nil rfl (got_term (d := d) (w := w' + 1) (by omega) rfl (by omega) (by omega) (by omega) x2 (by omega))) eds_nil)))) ⟨_, rfl, k⟩)
      rw [if_neg (of_decide_eq_false h)] at k
      refine sm_seq (sm_set (ev_callB (i := 0) rfl (es_cons (ev_op (ev_var rfl) ev_int fv_int) (es_cons (ev_var rfl) es_nil)) rfl ar_nil rfl (got_term (d := d) (w := w') (by omega) rfl (by omega) (by omega) (by omega) x2 (by omega))) ?_)
      refine sm_seq (sm_if ((et_test (ev_op (ev_var rfl) (Ev.of_el (el_lst (eds_cons ev_int (eds_cons ev_int eds_nil)))) (fv_inI (bs := [3, 4])))).is (ew 3 4)) (fun h => ?_) (fun h => sm_next ?_))
      · rw [if_pos (of_decide_eq_true h)] at k
        exact (sm_ret (ev_tup (eds_cons ev_str (eds_cons (ev_var rfl) (eds_cons (ev_call (es_cons (ev_var rfl) (es_cons ev_int es_nil)) ar_nil rfl ⟨_, 0, rfl, by have := y1.hg; omega, rfl⟩) eds_nil)))) ⟨_, rfl, k⟩)
      rw [if_neg (of_decide_eq_false h)] at k
      refine sm_seq (sm_if (et_test (ev_op (ev_var rfl) ev_int fv_cmpI)) (fun h => ?_) (fun h => sm_next ?_))
      · rw [if_pos (of_decide_eq_true h)] at k
        exact (sm_ret (ev_tup (eds_cons ev_str (eds_cons (ev_var rfl) (eds_cons (ev_var rfl) eds_nil)))) ⟨_, rfl, k⟩)
      rw [if_neg (of_decide_eq_false h)] at k
      obtain ⟨u0, u1, u2⟩ := takeF_ok (m := 10) y2 (by decide)
      obtain ⟨l1, l2⟩ := leafF_ok (w := w') u2 (by omega)
      obtain ⟨v0, v1, v2⟩ := takeF_ok (m := 2) l2 (by decide)
      have e0 : csD 0 = 21 := rfl
      refine sm_seq (sm_set (ev_callB (i := 0) rfl (es_cons ev_int (es_cons (ev_var rfl) es_nil)) rfl ar_nil rfl (got_term (d := 0) (w := w') rfl rfl (by omega) (by omega) (by omega) y2 (by omega))) ?_)
      by_cases h8' : (takeF p 10).1 = 8
      · rw [if_pos h8'] at k
        exact (sm_ret (ev_if (b := true) ((et_test (ev_op (ev_var rfl) ev_int fv_eqI)).is (decide_eq_true h8')) (fun h => (ev_tup (eds_cons ev_str (eds_cons (ev_var rfl) (eds_cons (ev_var rfl) eds_nil))))) (fun z => by cases z)) ⟨_, rfl, k⟩)
      · rw [if_neg h8'] at k
        have ea : ∀ z : Int, 0 ≤ z → z < 2 → atI ([.str "same", .str "put"] : List PyData) z = some (.str (triW (decide (z = 1)))) := fun z z0 z1 => by
          by_cases c : z = 1
          · rw [c]
            rfl
          · rw [show z = 0 by omega]
            rfl
        exact (sm_ret (ev_if (b := false) ((et_test (ev_op (ev_var rfl) ev_int fv_eqI)).is (decide_eq_false h8')) (fun z => by cases z) (fun h => (ev_tup (eds_cons (ev_op (Ev.of_el (el_lst (eds_cons ev_str (eds_cons ev_str eds_nil)))) (ev_callB (i := 0) rfl (es_cons ev_int es_nil) rfl ar_nil rfl (got_take l2 (by omega) (by decide) (by decide))) (fv_ixL (ea _ v0 v1))) (eds_cons (ev_var rfl) (eds_cons (ev_var rfl) (eds_cons (ev_var rfl) eds_nil))))))) ⟨_, rfl, k⟩)
end
end KP
set_option Elab.async false
set_option linter.unusedVariables false
set_option linter.unusedSectionVars false
set_option maxRecDepth 100000
set_option maxHeartbeats 2000000
namespace KP
open PySem PySem.Spec PyProof.Rows L2 KA OW
/-! ### one place lower, or None -/
abbrev sLawLow : Stmt := top 45
abbrev nLawLow : List Str := ["_law_whole", "_law_start", "_law_deep", "_law_found", "_law_k", "_law_part"]
theorem scLawLow : FnScope nLawLow ["_law_whole", "_law_start"] (defScope sLawLow) := ⟨rfl, rfl, rfl, by decide +kernel, rfl, by decide +kernel, by decide +kernel⟩
def lowD (k : Nat) (t : Tm) : PyData := match lw k t with
  | some t' => t'.d
  | none => .none
theorem eqv_low (k : Nat) (t : Tm) : PyData.eqv (lowD k t) .none = (lw k t).isNone := by
  unfold lowD
  cases lw k t with
  | none => rfl
  | some t' =>
    obtain ⟨ds, e⟩ := d_shape t'
    show PyData.eqv t'.d .none = false
    rw [e]
    rfl
theorem low_some {k : Nat} {t t' : Tm} (h : lw k t = some t') : lowD k t = t'.d := by
  unfold lowD
  rw [h]
theorem low_d (k : Nat) : ∀ {t : Tm}, t.lv ≠ 0 → lowD k t = if (((prs t).mapIdx fun j p => lowD (k + sh t j) p).any fun e => PyData.eqv e .none) = true then .none else .tuple (.str t.wd :: (prs t).mapIdx fun j p => lowD (k + sh t j) p)
  | .at_ _, h | .lf _, h => absurd rfl h
  | .all a b, _ => by
    show lowD k (.all a b) = if ([lowD k a, lowD (k + 1) b].any fun e => PyData.eqv e .none) = true then .none else .tuple [.str "all", lowD k a, lowD (k + 1) b]
    simp only [List.any_cons, List.any_nil, eqv_low, Bool.or_false]
    cases ha : lw k a with
    | none => unfold lowD lw; rw [ha]; rfl
    | some x =>
      cases hb : lw (k + 1) b with
      | none => unfold lowD lw; rw [ha, hb]; rfl
      | some y => rw [low_some ha, low_some hb]; unfold lowD lw; rw [ha, hb]; rfl
  | .fn a b, _ => by
    show lowD k (.fn a b) = if ([lowD k a, lowD (k + 1) b].any fun e => PyData.eqv e .none) = true then .none else .tuple [.str "fun", lowD k a, lowD (k + 1) b]
    simp only [List.any_cons, List.any_nil, eqv_low, Bool.or_false]
    cases ha : lw k a with
    | none => unfold lowD lw; rw [ha]; rfl
    | some x =>
      cases hb : lw (k + 1) b with
      | none => unfold lowD lw; rw [ha, hb]; rfl
      | some y => rw [low_some ha, low_some hb]; unfold lowD lw; rw [ha, hb]; rfl
  | .app a b, _ => by
    show lowD k (.app a b) = if ([lowD k a, lowD k b].any fun e => PyData.eqv e .none) = true then .none else .tuple [.str "app", lowD k a, lowD k b]
    simp only [List.any_cons, List.any_nil, eqv_low, Bool.or_false]
    cases ha : lw k a with
    | none => unfold lowD lw; rw [ha]; rfl
    | some x =>
      cases hb : lw k b with
      | none => unfold lowD lw; rw [ha, hb]; rfl
      | some y => rw [low_some ha, low_some hb]; unfold lowD lw; rw [ha, hb]; rfl
  | .self a b, _ => by
    show lowD k (.self a b) = if ([lowD k a, lowD k b].any fun e => PyData.eqv e .none) = true then .none else .tuple [.str "self", lowD k a, lowD k b]
    simp only [List.any_cons, List.any_nil, eqv_low, Bool.or_false]
    cases ha : lw k a with
    | none => unfold lowD lw; rw [ha]; rfl
    | some x =>
      cases hb : lw k b with
      | none => unfold lowD lw; rw [ha, hb]; rfl
      | some y => rw [low_some ha, low_some hb]; unfold lowD lw; rw [ha, hb]; rfl
  | .tri q a b c, _ => by
    show lowD k (.tri q a b c) = if ([lowD k a, lowD k b, lowD k c].any fun e => PyData.eqv e .none) = true then .none else .tuple [.str (triW q), lowD k a, lowD k b, lowD k c]
    simp only [List.any_cons, List.any_nil, eqv_low, Bool.or_false]
    cases ha : lw k a with
    | none => unfold lowD lw; rw [ha]; rfl
    | some x =>
      cases hb : lw k b with
      | none => unfold lowD lw; rw [ha, hb]; rfl
      | some y =>
        cases hc : lw k c with
        | none => unfold lowD lw; rw [ha, hb, hc]; rfl
        | some z => rw [low_some ha, low_some hb, low_some hc]; unfold lowD lw; rw [ha, hb, hc]; rfl
theorem strOk_fine {x : Str} (h : fine (.str x) = true) : PyData.strOk x = true := by
  simp only [fine, Bool.and_eq_true, decide_eq_true_eq, List.all_eq_true] at h
  unfold PyData.strOk
  rw [Array.all_eq_true']
  intro c hc
  have := h.2 c (by simpa using hc)
  exact decide_eq_true (by omega)
theorem lay_s {x : Str} (h : fine (.str x) = true) : PyData.canLay0 (.str x) = true := by
  simp only [PyData.canLay0]
  exact strOk_fine h
theorem lay_tup {ds : List PyData} : PyData.canLay0 (.tuple ds) = PyData.canLayAll0 ds := by simp only [PyData.canLay0]
theorem lay_cons {d : PyData} {ds : List PyData} (h : d.canLay0 = true) (g : PyData.canLayAll0 ds = true) : PyData.canLayAll0 (d :: ds) = true := by
  simp only [PyData.canLayAll0, h, g, Bool.and_self]
theorem lay_int (i : Int) : PyData.canLay0 (.int i) = true := by simp only [PyData.canLay0]
theorem lay_nil : PyData.canLayAll0 [] = true := by simp only [PyData.canLayAll0]
theorem lay_lf {l : Lf} (h : l.ok = true) : l.d.canLay0 = true := by
  cases l with
  | kind n => exact lay_tup.trans (lay_cons (lay_s (by decide +kernel)) (lay_cons (lay_int _) lay_nil))
  | name s => exact lay_tup.trans (lay_cons (lay_s (by decide +kernel)) (lay_cons (lay_s (name_fine h)) lay_nil))
  | thing s => exact lay_tup.trans (lay_cons (lay_s (by decide +kernel)) (lay_cons (lay_s (name_fine h)) lay_nil))
  | maker s n => exact lay_tup.trans (lay_cons (lay_s (by decide +kernel)) (lay_cons (lay_s (name_fine (and2 (a := nameX s) h).1)) (lay_cons (lay_int _) lay_nil)))
  | eater s n => exact lay_tup.trans (lay_cons (lay_s (by decide +kernel)) (lay_cons (lay_s (name_fine (and2 (a := nameX s) h).1)) (lay_cons (lay_int _) lay_nil)))
theorem prs_ok : ∀ {t p : Tm}, t.ok = true → p ∈ prs t → p.ok = true
  | .all a b, p, h, hp | .fn a b, p, h, hp | .app a b, p, h, hp | .self a b, p, h, hp => by
    obtain ⟨h1, h2⟩ := and2 (a := a.ok) (b := b.ok) h
    have hp : p ∈ [a, b] := hp
    simp only [List.mem_cons, List.not_mem_nil, or_false] at hp
    rcases hp with rfl | rfl
    · exact h1
    · exact h2
  | .tri k a b c, p, h, hp => by
    obtain ⟨h12, h3⟩ := and2 (a := a.ok && b.ok) (b := c.ok) h
    obtain ⟨h1, h2⟩ := and2 h12
    have hp : p ∈ [a, b, c] := hp
    simp only [List.mem_cons, List.not_mem_nil, or_false] at hp
    rcases hp with rfl | rfl | rfl
    · exact h1
    · exact h2
    · exact h3
  | .at_ _, _, _, hp | .lf _, _, _, hp => by cases hp
theorem lay_d : ∀ {t : Tm}, t.ok = true → t.d.canLay0 = true
  | .at_ n, _ => lay_tup.trans (lay_cons (lay_s (by decide +kernel)) (lay_cons (lay_int _) lay_nil))
  | .lf l, h => lay_lf (l := l) h
  | .all a b, h => lay_tup.trans (lay_cons (lay_s (by decide +kernel)) (lay_cons (lay_d (and2 (a := a.ok) (b := b.ok) h).1) (lay_cons (lay_d (and2 (a := a.ok) (b := b.ok) h).2) lay_nil)))
  | .fn a b, h => lay_tup.trans (lay_cons (lay_s (by decide +kernel)) (lay_cons (lay_d (and2 (a := a.ok) (b := b.ok) h).1) (lay_cons (lay_d (and2 (a := a.ok) (b := b.ok) h).2) lay_nil)))
  | .app a b, h => lay_tup.trans (lay_cons (lay_s (by decide +kernel)) (lay_cons (lay_d (and2 (a := a.ok) (b := b.ok) h).1) (lay_cons (lay_d (and2 (a := a.ok) (b := b.ok) h).2) lay_nil)))
  | .self a b, h => lay_tup.trans (lay_cons (lay_s (by decide +kernel)) (lay_cons (lay_d (and2 (a := a.ok) (b := b.ok) h).1) (lay_cons (lay_d (and2 (a := a.ok) (b := b.ok) h).2) lay_nil)))
  | .tri k a b c, h => lay_tup.trans (lay_cons (lay_s (tri_fine k)) (lay_cons (lay_d (and2 (and2 (a := a.ok && b.ok) (b := c.ok) h).1).1) (lay_cons (lay_d (and2 (and2 (a := a.ok && b.ok) (b := c.ok) h).1).2) (lay_cons (lay_d (and2 (a := a.ok && b.ok) (b := c.ok) h).2) lay_nil))))
theorem lw_okT : ∀ {t t' : Tm} {k : Nat}, t.ok = true → lw k t = some t' → t'.ok = true
  | .at_ n, t', k, h, e => by
    have h : n ≤ 100000 := of_decide_eq_true h
    unfold lw at e
    split at e
    · cases e
    · cases e
      refine decide_eq_true ?_
      split <;> omega
  | .lf l, t', k, h, e => by
    cases e
    exact h
  | .all a b, t', k, h, e => by
    obtain ⟨h1, h2⟩ := and2 (a := a.ok) (b := b.ok) h
    unfold lw at e
    cases ea : lw k a with
    | none => rw [ea] at e; cases e
    | some x =>
      cases eb : lw (k + 1) b with
      | none => rw [ea, eb] at e; cases e
      | some y =>
        rw [ea, eb] at e
        cases e
        show (x.ok && y.ok) = true
        rw [lw_okT h1 ea, lw_okT h2 eb]
        rfl
  | .fn a b, t', k, h, e => by
    obtain ⟨h1, h2⟩ := and2 (a := a.ok) (b := b.ok) h
    unfold lw at e
    cases ea : lw k a with
    | none => rw [ea] at e; cases e
    | some x =>
      cases eb : lw (k + 1) b with
      | none => rw [ea, eb] at e; cases e
      | some y =>
        rw [ea, eb] at e
        cases e
        show (x.ok && y.ok) = true
        rw [lw_okT h1 ea, lw_okT h2 eb]
        rfl
  | .app a b, t', k, h, e => by
    obtain ⟨h1, h2⟩ := and2 (a := a.ok) (b := b.ok) h
    unfold lw at e
    cases ea : lw k a with
    | none => rw [ea] at e; cases e
    | some x =>
      cases eb : lw k b with
      | none => rw [ea, eb] at e; cases e
      | some y =>
        rw [ea, eb] at e
        cases e
        show (x.ok && y.ok) = true
        rw [lw_okT h1 ea, lw_okT h2 eb]
        rfl
  | .self a b, t', k, h, e => by
    obtain ⟨h1, h2⟩ := and2 (a := a.ok) (b := b.ok) h
    unfold lw at e
    cases ea : lw k a with
    | none => rw [ea] at e; cases e
    | some x =>
      cases eb : lw k b with
      | none => rw [ea, eb] at e; cases e
      | some y =>
        rw [ea, eb] at e
        cases e
        show (x.ok && y.ok) = true
        rw [lw_okT h1 ea, lw_okT h2 eb]
        rfl
  | .tri q a b c, t', k, h, e => by
    obtain ⟨h12, h3⟩ := and2 (a := a.ok && b.ok) (b := c.ok) h
    obtain ⟨h1, h2⟩ := and2 h12
    unfold lw at e
    cases ea : lw k a with
    | none => rw [ea] at e; cases e
    | some x =>
      cases eb : lw k b with
      | none => rw [ea, eb] at e; cases e
      | some y =>
        cases ec : lw k c with
        | none => rw [ea, eb, ec] at e; cases e
        | some z =>
          rw [ea, eb, ec] at e
          cases e
          show (x.ok && y.ok && z.ok) = true
          rw [lw_okT h1 ea, lw_okT h2 eb, lw_okT h3 ec]
          rfl
theorem lay_lowD {k : Nat} {t : Tm} (h : t.ok = true) : (lowD k t).canLay0 = true := by
  cases e : lw k t with
  | none =>
    unfold lowD
    rw [e]
    simp only [PyData.canLay0]
  | some t' =>
    rw [low_some e]
    exact lay_d (lw_okT h e)
theorem layAll : ∀ {ds : List PyData}, (∀ d ∈ ds, d.canLay0 = true) → PyData.canLayAll0 ds = true
  | [], _ => lay_nil
  | d :: ds, h => lay_cons (h d List.mem_cons_self) (layAll fun e he => h e (List.mem_cons_of_mem _ he))
theorem lay_low (s : Nat) (t : Tm) (ht : t.ok = true) : PyData.canLayAll0 ((prs t).mapIdx fun k p => lowD (s + sh t k) p) = true ∧ ((prs t).mapIdx fun k p => lowD (s + sh t k) p).length ≤ 3 := by
  refine ⟨layAll fun d hd => ?_, by rw [List.length_mapIdx]; exact prs_len t⟩
  obtain ⟨j, hj, e⟩ := List.mem_mapIdx.mp hd
  rw [← e]
  exact lay_lowD (prs_ok ht (List.getElem_mem hj))
def tLow (lim : Nat) : List Sl → (Rv → Prop) → Prop := fun as Kr => ∃ (t : Tm) (s : Nat), as = [.d t.d, .d (.int (s : Int))] ∧ t.hg ≤ lim ∧ t.ok = true ∧ Kr (.d (lowD s t))
section
variable {P : Program} {w : World} {K : PySem.W.Frag} {mg : Str → Option Value} {base : Heap}
theorem ok_low {f : Addr} {fd : FuncData} (D : Dfn K mg "_law_low" sLawLow f fd ["_law_whole", "_law_start"]) (T : Txt K w mg) (Tenum : mg "enumerate" = none) : ∀ lim : Nat, FnOk P w K mg base CX0 (1 + lim) f fd ["_law_whole", "_law_start"] (spD 2 (tLow lim))
  | 0 => ⟨fun vs H Q E h => by
      obtain ⟨Z, as, Kr, hZ, ha, hl, _⟩ := h
      rw [ha.length, hl]
      rfl, fun A outer s H args us vs Q E hr e0 bt rv h => by
      obtain ⟨Z, as, Kr, hZ, ha, hl, ⟨t, _, _, h0, _⟩, go⟩ := h
      have : 1 ≤ t.hg := by cases t <;> (show 1 ≤ _; first | exact Nat.le_refl 1 | exact Nat.succ_le_succ (Nat.zero_le _))
      omega⟩
  | lim + 1 => by
    have C_law_low : C8.Cal P w K mg base (1 + lim) "_law_low" (spD 2 (tLow lim)) [] := D.cal (ok_low D T Tenum lim)
    refine fn_d (k := 1 + lim) D.fn scLawLow (body := fun cdv A outer s H E hr => ?_)
    have hu : (A.deeper (envOfC "_law_low" (defScope sLawLow) s.heap.objs.size f cdv)).units + 64 < cLine := by have := hr.un; omega
    refine ⟨_, (pss_cons (ps_if (pt_cmpR op_eq (pe_ix ix_tup (pv 0) pe_int (fun _ _ => rfl)) pe_str (nomark _)) (pss_cons (ps_if (pt_cmpR op_eq (pe_ix ix_tup (pv 0) pe_int (fun _ _ => rfl)) (pv 1) (nomark _)) (pss_one (ps_ret pe_non)) pss_nil) (pss_one (ps_ret (pe_ifExp (pt_cmpR op_gt (pe_ix ix_tup (pv 0) pe_int (fun _ _ => rfl)) (pv 1) (nomark _)) (pe_tup (pa_cons pe_str (pa_cons (pe_op op_sub (pe_ix ix_tup (pv 0) pe_int (fun _ _ => rfl)) pe_int) pa_nil))) (pv 0))))) pss_nil) (pss_cons (ps_if (pt_cmpR op_in_seq (pe_ix ix_tup (pv 0) pe_int (fun _ _ => rfl)) (pe_lst (pa_cons pe_str (pa_cons pe_str (pa_cons pe_str (pa_cons pe_str (pa_cons pe_str pa_nil)))))) rfl) (pss_one (ps_ret (pv 0))) pss_nil) (pss_cons (ps_set (i := 2) scLawLow.nd rfl (Or.inr rfl) (pe_callTy call_int1 (by rfl) T.int (by decide +kernel) (pa_cons (pe_cmpR op_in_seq (pe_ix ix_tup (pv 0) pe_int (fun _ _ => rfl)) (pe_lst (pa_cons pe_str (pa_cons pe_str pa_nil))) rfl) pa_nil)))
      (pss_cons (ps_setLc (i := 3) (own := [("_law_k", 4), ("_law_part", 5)]) (g := gTup K 2 (gCons (gName 4) (gCons (gName 5) gNil))) (tt := tYes) rfl scLawLow.nd rfl rfl (sw_true rfl rfl rfl (by decide +kernel)) (pi_nut (by rfl) Tenum (pa_cons (pe_slice sl_tupA (pv 0) (po_some pe_int) po_none) pa_nil)) (blkOk_by (N := nLawLow) (sc := defScope sLawLow) (by decide +kernel)) (fun _ _ _ _ _ => (pg_tupK (K := K) rfl rfl (pgs_cons (pg_name (i := 4) scLawLow.nd rfl (Or.inl rfl)) (pgs_cons (pg_name (i := 5) scLawLow.nd rfl (Or.inl rfl)) pgs_nil)))) (fun _ _ _ _ _ => pts_nil) (fun _ _ _ _ _ => (C8.pe_c C_law_low hr (by omega) rfl (pa_cons (pv 5) (pa_cons (pe_op op_add (pv 1) (pe_op op_mul (pv 2) (pe_callTy call_int1 (by rfl) T.int (by decide +kernel) (pa_cons (pe_cmpR op_eq (pv 4) pe_int (nomark _)) pa_nil)))) pa_nil)))))
      (pss_one (ps_ret (pe_ifExp (pt_cmpR (op_inD hu) pe_non (pv 3) rfl) pe_non (pe_op op_catA (pe_tup (pa_cons (pe_ix ix_tup (pv 0) pe_int (fun _ _ => rfl)) pa_nil)) (pe_callTy call_tuple_of (by rfl) T.tuple (by decide +kernel) (pa_cons (pv 3) pa_nil)))))))))), ?_⟩
    rintro as Kr _ ⟨t, s, rfl, hl, ht, k⟩
    by_cases l0 : t.lv = 0
    · cases t with
      | at_ n =>
        refine sm_seq (sm_if (b := true) ((et_test (ev_op (ev_op (ev_var rfl) ev_int (fv_ixT at0)) ev_str fv_eqS)).is (by decide +kernel)) (fun _ => ?_) (fun z => by cases z))
        by_cases c : n = s
        · have e : lowD s (.at_ n) = .none := by
            unfold lowD lw
            rw [if_pos c]
          rw [e] at k
          exact sm_seq (sm_if (b := true) ((et_test (ev_op (ev_op (ev_var rfl) ev_int (fv_ixT at1)) (ev_var rfl) fv_eqI)).is (decide_eq_true (by omega))) (fun _ => (sm_ret ev_non k)) (fun z => by cases z))
        refine sm_seq (sm_if (b := false) ((et_test (ev_op (ev_op (ev_var rfl) ev_int (fv_ixT at1)) (ev_var rfl) fv_eqI)).is (decide_eq_false (by omega))) (fun z => by cases z) (fun _ => sm_next ?_))
        by_cases c2 : s < n
        · have e : lowD s (.at_ n) = .tuple [.str "at", .int ((n : Int) - 1)] := by
            unfold lowD lw
            rw [if_neg c, if_pos c2]
            show PyData.tuple [.str "at", .int ((n - 1 : Nat) : Int)] = _
            rw [Int.natCast_sub (by omega)]
            rfl
          rw [e] at k
          exact sm_ret (ev_if (b := true) ((et_test (ev_op (ev_op (ev_var rfl) ev_int (fv_ixT at1)) (ev_var rfl) fv_cmpI)).is (decide_eq_true (by omega))) (fun h => (ev_tup (eds_cons ev_str (eds_cons (ev_op (ev_op (ev_var rfl) ev_int (fv_ixT at1)) ev_int fv_int) eds_nil)))) (fun z => by cases z)) k
        · have e : lowD s (.at_ n) = .tuple [.str "at", .int (n : Int)] := by
            unfold lowD lw
            rw [if_neg c, if_neg c2]
            rfl
          rw [e] at k
          exact sm_ret (ev_if (b := false) ((et_test (ev_op (ev_op (ev_var rfl) ev_int (fv_ixT at1)) (ev_var rfl) fv_cmpI)).is (decide_eq_false (by omega))) (fun z => by cases z) (fun h => (ev_var rfl))) k
      | lf l =>
        obtain ⟨ds, ed⟩ := d_shape (.lf l)
        have k : Kr (.d (Tm.lf l).d) := k
        rw [ed] at k ⊢
        refine sm_seq (sm_if (b := false) ((et_test (ev_op (ev_op (ev_var rfl) ev_int (fv_ixT at0)) ev_str fv_eqS)).is (decide_eq_false (leaf_w l).1)) (fun z => by cases z) (fun _ => sm_next ?_))
        exact sm_seq (sm_if (b := true) ((et_test (ev_op (ev_op (ev_var rfl) ev_int (fv_ixT at0)) (Ev.of_el (el_lst (eds_cons ev_str (eds_cons ev_str (eds_cons ev_str (eds_cons ev_str (eds_cons ev_str eds_nil))))))) (fv_inLs (bs := ["kind", "name", "thing", "maker", "eater"])))).is (leaf_w l).2) (fun _ => sm_ret (ev_var rfl) k) (fun z => by cases z))
      | all a b => cases l0
      | fn a b => cases l0
      | app a b => cases l0
      | self a b => cases l0
      | tri q a b c => cases l0
    · rw [low_d s l0] at k
      have cl := lay_low s t ht
      rw [prs_d l0]
      have nw := node_w t l0
      have pl := prs_len t
      refine sm_seq (sm_if (b := false) ((et_test (ev_op (ev_op (ev_var rfl) ev_int (fv_ixT at0)) ev_str fv_eqS)).is (decide_eq_false nw.1)) (fun z => by cases z) (fun _ => sm_next ?_))
      refine sm_seq (sm_if (b := false) ((et_test (ev_op (ev_op (ev_var rfl) ev_int (fv_ixT at0)) (Ev.of_el (el_lst (eds_cons ev_str (eds_cons ev_str (eds_cons ev_str (eds_cons ev_str (eds_cons ev_str eds_nil))))))) (fv_inLs (bs := ["kind", "name", "thing", "maker", "eater"])))).is nw.2) (fun z => by cases z) (fun _ => sm_next ?_))
      refine sm_seq (sm_set (ev_fn (es_cons (ev_op (ev_op (ev_var rfl) ev_int (fv_ixT at0)) (Ev.of_el (el_lst (eds_cons ev_str (eds_cons ev_str eds_nil)))) (fv_inLs (bs := ["all", "fun"]))) es_nil) fv_intB) ?_)
      refine sm_seq (sm_setL (el_lcY (ys := (prs t).mapIdx fun k p => lowD (s + sh t k) p) (fi_enumT (xs := (prs t).map Tm.d) (eds_cons (Ev.is (ev_slA (ev_var rfl) (eo_some ev_int) eo_none) (by rw [show (1 : Int) = ((1 : Nat) : Int) from rfl, cutD_from']; rfl)) eds_nil)) ⟨⟨.un, rfl, trivial⟩, ⟨.un, rfl, trivial⟩, trivial⟩ ?_ ?_ (fun j z y hz hy => ?_)) ?_ (by decide) (by show 3 < 6; decide))
      · rw [enumD_len, List.length_map, sizeLine_eq]
        omega
      · rw [enumD_len, List.length_map, List.length_mapIdx]
      · obtain ⟨x, hx, rfl⟩ := enumD_at hz
        rw [List.getElem?_map] at hx
        rw [List.getElem?_mapIdx] at hy
        cases ep : (prs t)[j]? with
        | none => rw [ep] at hx; cases hx
        | some p =>
          rw [ep] at hx hy
          cases hx
          cases hy
          have hp := prs_hg (List.mem_of_getElem? ep)
          refine ⟨_, tgw_tup (xs := [.int ((0 + j : Nat) : Int), p.d]) (tgsw_cons tgw_name (tgsw_cons tgw_name tgsw_nil)), (ev_call (es_cons (ev_var rfl) (es_cons (ev_op (ev_var rfl) (ev_op (ev_var rfl) (ev_fn (es_cons (ev_op (ev_var rfl) ev_int fv_eqI) es_nil) fv_intB) (fv_intC ?_)) fv_int) es_nil)) ar_nil rfl ⟨p, s + sh t j, by rw [← sh_int]; rfl, by omega, prs_ok ht (List.mem_of_getElem? ep), rfl⟩), rfl, ⟨⟨_, rfl, trivial⟩, ⟨_, rfl, trivial⟩, trivial⟩⟩
          split <;> split <;> first | exact Or.inl ⟨by decide, by decide⟩ | exact Or.inr ⟨by decide, by decide⟩
      · generalize ((prs t).mapIdx fun k p => lowD (s + sh t k) p) = ys at k cl ⊢
        by_cases c : (ys.any fun e => PyData.eqv e .none) = true
        · rw [if_pos c] at k
          exact sm_ret (ev_if (b := true) ((et_test (ev_op ev_non (ev_varF rfl) (fv_inD cl.1 rfl (by show min _ 0 ≤ 50; omega)))).is c) (fun _ => ev_non) (fun z => by cases z)) k
        · rw [if_neg c] at k
          have c : (ys.any fun e => PyData.eqv e .none) = false := Bool.eq_false_iff.mpr c
          exact sm_ret (ev_if (b := false) ((et_test (ev_op ev_non (ev_varF rfl) (fv_inD cl.1 rfl (by show min _ 0 ≤ 50; omega)))).is c) (fun z => by cases z) (fun _ => (ev_op (ev_tup (eds_cons (ev_op (ev_var rfl) ev_int (fv_ixT at0)) eds_nil)) (ev_fn (es_cons (ev_var rfl) es_nil) fv_tupL) (fv_catA (by rw [sizeLine_eq, List.length_singleton]; have := cl.2; omega))))) k
end
end KP
set_option Elab.async false
set_option linter.unusedVariables false
set_option linter.unusedSectionVars false
set_option maxRecDepth 100000
set_option maxHeartbeats 2000000
namespace KP
open PySem PySem.Spec PyProof.Rows L2 KA OW
/-! ### a word, by the law; in brackets or not -/
abbrev sLawWord : Stmt := top 46
abbrev nLawWord : List Str := ["_law_whole", "_law_wide"]
theorem scLawWord : FnScope nLawWord ["_law_whole", "_law_wide"] (defScope sLawWord) := ⟨rfl, rfl, rfl, by decide +kernel, rfl, by decide +kernel, by decide +kernel⟩
abbrev sLawIn : Stmt := top 47
abbrev nLawIn : List Str := ["_law_told", "_law_most"]
theorem scLawIn : FnScope nLawIn ["_law_told", "_law_most"] (defScope sLawIn) := ⟨rfl, rfl, rfl, by decide +kernel, rfl, by decide +kernel, by decide +kernel⟩
theorem cnt_lt : ∀ {ar : List Bool} {n : Nat}, ar[n]? = some true → cnt (ar.take n) + 1 ≤ cnt ar
  | b :: ar, 0, h => by
    cases h
    rw [cnt_true]
    show 0 + 1 ≤ cnt ar + 1
    omega
  | b :: ar, n + 1, h => by
    have ih := cnt_lt (ar := ar) (n := n) h
    have e1 : cnt (b :: ar) = cnt [b] + cnt ar := cnt_app [b] ar
    have e2 : cnt ((b :: ar).take (n + 1)) = cnt [b] + cnt (ar.take n) := cnt_app [b] _
    omega
  | [], _, h => by cases h
theorem sz2 {a b : Str} (h : a.length ≤ 1000) (g : b.length ≤ 1000) : a.length + b.length ≤ sizeLine := by
  rw [sizeLine_eq]
  omega
theorem node_six (t : Tm) (h : t.lv ≠ 0) : t.wd ≠ "at" ∧ t.wd ≠ "kind" ∧ t.wd ≠ "maker" ∧ t.wd ≠ "eater" ∧ t.wd ≠ "name" ∧ t.wd ≠ "thing" := (show ∀ p ∈ wtab, p.2 ≠ 0 → p.1 ≠ "at" ∧ p.1 ≠ "kind" ∧ p.1 ≠ "maker" ∧ p.1 ≠ "eater" ∧ p.1 ≠ "name" ∧ p.1 ≠ "thing" by decide +kernel) _ (tab_mem t) h
def tWordL : List Sl → (Rv → Prop) → Prop := fun as Kr => ∃ (t : Tm) (ar : List Bool), as = [.d (st ar t).d, .d (.int (cnt ar : Int))] ∧ t.ok = true ∧ Cl ar t ∧ cnt ar < 10 ^ 29 ∧ Kr (.d (if t.lv = 0 then .str ((ws ar t).headD "") else .none))
def tInL : List Sl → (Rv → Prop) → Prop := fun as Kr => ∃ (x : Str) (l m : Nat), as = [.d (.tuple [.str x, .int (l : Int)]), .d (.int (m : Int))] ∧ x.length ≤ 10000000 ∧ Kr (.d (.str (if m < l then sO ++ x ++ sC else x)))
theorem st_wd (ar : List Bool) : ∀ t : Tm, (st ar t).wd = t.wd
  | .at_ _ | .lf _ | .all _ _ | .fn _ _ | .app _ _ | .self _ _ | .tri _ _ _ _ => rfl
section
variable {P : Program} {w : World} {K : PySem.W.Frag} {mg : Str → Option Value} {base : Heap}
theorem ok_inl {f : Addr} {fd : FuncData} (F : Fun K "_law_in" "_law_in" sLawIn f fd) : FnOk P w K mg base CX0 1 f fd ["_law_told", "_law_most"] (spD 2 tInL) := by
  refine fn_d F scLawIn (body := fun cdv A outer s H E hr => ⟨_, (pss_one (ps_ret (pe_ifExp (pt_cmpR op_le (pe_ix ix_tup (pv 0) pe_int (fun _ _ => rfl)) (pv 1) (nomark _)) (pe_ix ix_tup (pv 0) pe_int (fun _ _ => rfl)) (pe_op op_add_str (pe_op op_add_str pe_str (pe_ix ix_tup (pv 0) pe_int (fun _ _ => rfl))) pe_str)))), ?_⟩)
  rintro as Kr _ ⟨x, l, m, rfl, hx, k⟩
  have h1 : sO.length = 1 := by decide +kernel
  have h2 : sC.length = 1 := by decide +kernel
  by_cases c : m < l
  · rw [if_pos c] at k
    exact (sm_ret (ev_if (b := false) ((et_test (ev_op (ev_op (ev_var rfl) ev_int (fv_ixT at1)) (ev_var rfl) fv_cmpI)).is (decide_eq_false (by omega))) (fun z => by cases z) (fun h => (ev_op (ev_op ev_str (ev_op (ev_var rfl) ev_int (fv_ixT at0)) (fv_addS (by rw [h1, sizeLine_eq]; omega))) ev_str (fv_addS (by rw [len_add, h1, h2, sizeLine_eq]; omega))))) k)
  · rw [if_neg c] at k
    exact (sm_ret (ev_if (b := true) ((et_test (ev_op (ev_op (ev_var rfl) ev_int (fv_ixT at1)) (ev_var rfl) fv_cmpI)).is (decide_eq_true (by omega))) (fun h => (ev_op (ev_var rfl) ev_int (fv_ixT at0))) (fun z => by cases z)) k)
theorem ok_lword {f : Addr} {fd : FuncData} (F : Fun K "_law_word" "_law_word" sLawWord f fd) (T : Txt K w mg) : FnOk P w K mg base CX0 1 f fd ["_law_whole", "_law_wide"] (spD 2 tWordL) := by
  refine fn_d F scLawWord (body := fun cdv A outer s H E hr => ⟨_, (pss_cons (ps_if (pt_cmpR op_eq (pe_ix ix_tup (pv 0) pe_int (fun _ _ => rfl)) pe_str (nomark _)) (pss_one (ps_ret (pe_op op_add_str pe_str (pe_callTy call_str_int (by rfl) T.str (by decide +kernel) (pa_cons (pe_op op_sub (pe_op op_sub (pv 1) pe_int) (pe_ix ix_tup (pv 0) pe_int (fun _ _ => rfl))) pa_nil))))) pss_nil) (pss_cons (ps_if (pt_cmpR op_eq (pe_ix ix_tup (pv 0) pe_int (fun _ _ => rfl)) pe_str (nomark _)) (pss_one (ps_ret (pe_op op_add_str pe_str (pe_callTy call_str_int (by rfl) T.str (by decide +kernel) (pa_cons (pe_ix ix_tup (pv 0) pe_int (fun _ _ => rfl)) pa_nil))))) pss_nil) (pss_cons (ps_if (pt_cmpR op_eq (pe_ix ix_tup (pv 0) pe_int (fun _ _ => rfl)) pe_str (nomark _)) (pss_one (ps_ret (pe_op op_add_str (pe_op op_add_str (pe_ix ix_tup (pv 0) pe_int (fun _ _ => rfl)) pe_str) (pe_callTy call_str_int (by rfl) T.str (by decide +kernel) (pa_cons (pe_ix ix_tup (pv 0) pe_int (fun _ _ => rfl)) pa_nil))))) pss_nil) (pss_cons (ps_if (pt_cmpR op_eq (pe_ix ix_tup (pv 0) pe_int (fun _ _ => rfl)) pe_str (nomark _)) (pss_one (ps_ret (pe_op op_add_str (pe_op op_add_str (pe_ix ix_tup (pv 0) pe_int (fun _ _ => rfl)) pe_str) (pe_callTy call_str_int (by rfl) T.str (by decide +kernel) (pa_cons (pe_ix ix_tup (pv 0) pe_int (fun _ _ => rfl)) pa_nil))))) pss_nil) (pss_cons (ps_if (pt_cmpR op_eq (pe_ix ix_tup (pv 0) pe_int (fun _ _ => rfl)) pe_str (nomark _)) (pss_one (ps_ret (pe_op op_add_str pe_str (pe_ix ix_tup (pv 0) pe_int (fun _ _ => rfl))))) pss_nil) (pss_one (ps_ret (pe_ifExp (pt_cmpR op_eq (pe_ix ix_tup (pv 0) pe_int (fun _ _ => rfl)) pe_str (nomark _)) (pe_ix ix_tup (pv 0) pe_int (fun _ _ => rfl)) pe_non)))))))), ?_⟩)
  rintro as Kr _ ⟨t, ar, rfl, ht, hc, hb, k⟩
  by_cases l0 : t.lv = 0
  · rw [if_pos l0] at k
    cases t with
    | at_ n =>
      have hn : ar[n]? = some true := hc n (by unfold fr; rw [if_pos (Nat.zero_le n)]; exact List.mem_singleton_self _)
      have e := nms_at hn
      have cl := cnt_lt hn
      have k : Kr (.d (.str ((nms ar).getD n ""))) := k
      rw [List.getD_eq_getElem?_getD, e] at k
      have nl := numS_len (n := cnt ar - 1 - cnt (ar.take n)) (by omega)
      have ei : (cnt ar : Int) - 1 - (cnt (ar.take n) : Int) = ((cnt ar - 1 - cnt (ar.take n) : Nat) : Int) := by omega
      have k : Kr (.d (.str ("x" ++ ((toString ((cnt ar - 1 - cnt (ar.take n) : Nat) : Int) : String) : Str)))) := k
      have nl : (((toString ((cnt ar : Int) - 1 - (cnt (ar.take n) : Int)) : String) : Str)).length ≤ 30 := by
        rw [ei]
        exact nl
      rw [← ei] at k
      refine sm_seq (sm_if (b := true) ((et_test (ev_op (ev_op (ev_var rfl) ev_int (fv_ixT at0)) ev_str fv_eqS)).is (by decide +kernel)) (fun _ => ?_) (fun z => by cases z))
      exact (sm_ret (ev_op ev_str (ev_fn (es_cons (ev_op (ev_op (ev_var rfl) ev_int fv_int) (ev_op (ev_var rfl) ev_int (fv_ixT at1)) fv_int) es_nil) (fv_strI (by rw [ei]; exact log_ok (by omega)))) (fv_addS (sz2 (by decide +kernel) (by omega)))) k)
    | lf l =>
      cases l with
      | kind n =>
        have h5 : n ≤ 5 := of_decide_eq_true ht
        have nl := numS_len (n := n) (by omega)
        refine sm_seq (sm_if (b := false) ((et_test (ev_op (ev_op (ev_var rfl) ev_int (fv_ixT at0)) ev_str fv_eqS)).is (by decide +kernel)) (fun z => by cases z) (fun _ => sm_next ?_))
        exact sm_seq (sm_if (b := true) ((et_test (ev_op (ev_op (ev_var rfl) ev_int (fv_ixT at0)) ev_str fv_eqS)).is (by decide +kernel)) (fun _ => (sm_ret (ev_op ev_str (ev_fn (es_cons (ev_op (ev_var rfl) ev_int (fv_ixT at1)) es_nil) (fv_strI (log_ok (by omega)))) (fv_addS (sz2 (by decide +kernel) (by show (numS n).length ≤ 1000; omega)))) k)) (fun z => by cases z))
      | maker s n =>
        obtain ⟨h1, h2⟩ := and2 (a := nameX s) ht
        have h2 := of_decide_eq_true h2
        have hs := name_len h1
        have nl := numS_len (n := n) (by omega)
        have l1 : ("#" : Str).length = 1 := by decide +kernel
        refine sm_seq (sm_if (b := false) ((et_test (ev_op (ev_op (ev_var rfl) ev_int (fv_ixT at0)) ev_str fv_eqS)).is (by decide +kernel)) (fun z => by cases z) (fun _ => sm_next ?_))
        refine sm_seq (sm_if (b := false) ((et_test (ev_op (ev_op (ev_var rfl) ev_int (fv_ixT at0)) ev_str fv_eqS)).is (by decide +kernel)) (fun z => by cases z) (fun _ => sm_next ?_))
        exact sm_seq (sm_if (b := true) ((et_test (ev_op (ev_op (ev_var rfl) ev_int (fv_ixT at0)) ev_str fv_eqS)).is (by decide +kernel)) (fun _ => (sm_ret (ev_op (ev_op (ev_op (ev_var rfl) ev_int (fv_ixT at1)) ev_str (fv_addS (sz2 (by omega) (by decide +kernel)))) (ev_fn (es_cons (ev_op (ev_var rfl) ev_int (fv_ixT at2)) es_nil) (fv_strI (log_ok (by omega)))) (fv_addS (sz2 (by rw [len_add]; omega) (by show (numS n).length ≤ 1000; omega)))) k)) (fun z => by cases z))
      | eater s n =>
        obtain ⟨h1, h2⟩ := and2 (a := nameX s) ht
        have h2 := of_decide_eq_true h2
        have hs := name_len h1
        have nl := numS_len (n := n) (by omega)
        have l1 : ("!" : Str).length = 1 := by decide +kernel
        refine sm_seq (sm_if (b := false) ((et_test (ev_op (ev_op (ev_var rfl) ev_int (fv_ixT at0)) ev_str fv_eqS)).is (by decide +kernel)) (fun z => by cases z) (fun _ => sm_next ?_))
        refine sm_seq (sm_if (b := false) ((et_test (ev_op (ev_op (ev_var rfl) ev_int (fv_ixT at0)) ev_str fv_eqS)).is (by decide +kernel)) (fun z => by cases z) (fun _ => sm_next ?_))
        refine sm_seq (sm_if (b := false) ((et_test (ev_op (ev_op (ev_var rfl) ev_int (fv_ixT at0)) ev_str fv_eqS)).is (by decide +kernel)) (fun z => by cases z) (fun _ => sm_next ?_))
        exact sm_seq (sm_if (b := true) ((et_test (ev_op (ev_op (ev_var rfl) ev_int (fv_ixT at0)) ev_str fv_eqS)).is (by decide +kernel)) (fun _ => (sm_ret (ev_op (ev_op (ev_op (ev_var rfl) ev_int (fv_ixT at1)) ev_str (fv_addS (sz2 (by omega) (by decide +kernel)))) (ev_fn (es_cons (ev_op (ev_var rfl) ev_int (fv_ixT at2)) es_nil) (fv_strI (log_ok (by omega)))) (fv_addS (sz2 (by rw [len_add]; omega) (by show (numS n).length ≤ 1000; omega)))) k)) (fun z => by cases z))
      | name s =>
        have hs := name_len (x := s) ht
        refine sm_seq (sm_if (b := false) ((et_test (ev_op (ev_op (ev_var rfl) ev_int (fv_ixT at0)) ev_str fv_eqS)).is (by decide +kernel)) (fun z => by cases z) (fun _ => sm_next ?_))
        refine sm_seq (sm_if (b := false) ((et_test (ev_op (ev_op (ev_var rfl) ev_int (fv_ixT at0)) ev_str fv_eqS)).is (by decide +kernel)) (fun z => by cases z) (fun _ => sm_next ?_))
        refine sm_seq (sm_if (b := false) ((et_test (ev_op (ev_op (ev_var rfl) ev_int (fv_ixT at0)) ev_str fv_eqS)).is (by decide +kernel)) (fun z => by cases z) (fun _ => sm_next ?_))
        refine sm_seq (sm_if (b := false) ((et_test (ev_op (ev_op (ev_var rfl) ev_int (fv_ixT at0)) ev_str fv_eqS)).is (by decide +kernel)) (fun z => by cases z) (fun _ => sm_next ?_))
        exact sm_seq (sm_if (b := true) ((et_test (ev_op (ev_op (ev_var rfl) ev_int (fv_ixT at0)) ev_str fv_eqS)).is (by decide +kernel)) (fun _ => (sm_ret (ev_op ev_str (ev_op (ev_var rfl) ev_int (fv_ixT at1)) (fv_addS (sz2 (by decide +kernel) (by omega)))) k)) (fun z => by cases z))
      | thing s =>
        refine sm_seq (sm_if (b := false) ((et_test (ev_op (ev_op (ev_var rfl) ev_int (fv_ixT at0)) ev_str fv_eqS)).is (by decide +kernel)) (fun z => by cases z) (fun _ => sm_next ?_))
        refine sm_seq (sm_if (b := false) ((et_test (ev_op (ev_op (ev_var rfl) ev_int (fv_ixT at0)) ev_str fv_eqS)).is (by decide +kernel)) (fun z => by cases z) (fun _ => sm_next ?_))
        refine sm_seq (sm_if (b := false) ((et_test (ev_op (ev_op (ev_var rfl) ev_int (fv_ixT at0)) ev_str fv_eqS)).is (by decide +kernel)) (fun z => by cases z) (fun _ => sm_next ?_))
        refine sm_seq (sm_if (b := false) ((et_test (ev_op (ev_op (ev_var rfl) ev_int (fv_ixT at0)) ev_str fv_eqS)).is (by decide +kernel)) (fun z => by cases z) (fun _ => sm_next ?_))
        refine sm_seq (sm_if (b := false) ((et_test (ev_op (ev_op (ev_var rfl) ev_int (fv_ixT at0)) ev_str fv_eqS)).is (by decide +kernel)) (fun z => by cases z) (fun _ => sm_next ?_))
        exact (sm_ret (ev_if (b := true) ((et_test (ev_op (ev_op (ev_var rfl) ev_int (fv_ixT at0)) ev_str fv_eqS)).is (by decide +kernel)) (fun h => (ev_op (ev_var rfl) ev_int (fv_ixT at1))) (fun z => by cases z)) k)
    | all a b => cases l0
    | fn a b => cases l0
    | app a b => cases l0
    | self a b => cases l0
    | tri q a b c => cases l0
  · rw [if_neg l0] at k
    obtain ⟨ds, ed⟩ := d_shape (st ar t)
    rw [ed, st_wd]
    obtain ⟨n1, n2, n3, n4, n5, n6⟩ := node_six t l0
    refine sm_seq (sm_if (b := false) ((et_test (ev_op (ev_op (ev_var rfl) ev_int (fv_ixT at0)) ev_str fv_eqS)).is (decide_eq_false n1)) (fun z => by cases z) (fun _ => sm_next ?_))
    refine sm_seq (sm_if (b := false) ((et_test (ev_op (ev_op (ev_var rfl) ev_int (fv_ixT at0)) ev_str fv_eqS)).is (decide_eq_false n2)) (fun z => by cases z) (fun _ => sm_next ?_))
    refine sm_seq (sm_if (b := false) ((et_test (ev_op (ev_op (ev_var rfl) ev_int (fv_ixT at0)) ev_str fv_eqS)).is (decide_eq_false n3)) (fun z => by cases z) (fun _ => sm_next ?_))
    refine sm_seq (sm_if (b := false) ((et_test (ev_op (ev_op (ev_var rfl) ev_int (fv_ixT at0)) ev_str fv_eqS)).is (decide_eq_false n4)) (fun z => by cases z) (fun _ => sm_next ?_))
    refine sm_seq (sm_if (b := false) ((et_test (ev_op (ev_op (ev_var rfl) ev_int (fv_ixT at0)) ev_str fv_eqS)).is (decide_eq_false n5)) (fun z => by cases z) (fun _ => sm_next ?_))
    exact (sm_ret (ev_if (b := false) ((et_test (ev_op (ev_op (ev_var rfl) ev_int (fv_ixT at0)) ev_str fv_eqS)).is (decide_eq_false n6)) (fun z => by cases z) (fun h => ev_non)) k)
end
end KP
set_option Elab.async false
set_option linter.unusedVariables false
set_option linter.unusedSectionVars false
set_option maxRecDepth 100000
set_option maxHeartbeats 2000000
namespace KP
open PySem PySem.Spec PyProof.Rows L2 KA OW
theorem gv_len : ∀ t : Tm, (gvT t).length ≤ t.sz
  | .app a b => by
    have h := gv_len a
    show (gvT a ++ [b]).length ≤ a.sz + b.sz + 1
    rw [List.length_append, List.length_singleton]
    omega
  | .at_ _ | .lf _ | .all _ _ | .fn _ _ | .self _ _ | .tri _ _ _ _ => Nat.zero_le _
theorem hd_ok : ∀ {t : Tm}, t.ok = true → (hdT t).ok = true
  | .app a b, h => hd_ok (t := a) (and2 (a := a.ok) (b := b.ok) h).1
  | .at_ _, h | .lf _, h | .all _ _, h | .fn _ _, h | .self _ _, h | .tri _ _ _ _, h => h
def itG (ar : List Bool) (g : Tm) : List Itm := brI (decide (0 < g.lv)) (.p g ar)
theorem itG_len (ar : List Bool) : ∀ gs : List Tm, (gs.flatMap (itG ar)).length ≤ 3 * gs.length
  | [] => Nat.le_refl _
  | g :: gs => by
    have h := itG_len ar gs
    have h1 : (itG ar g).length ≤ 3 := by
      unfold itG brI
      split
      · exact Nat.le_refl 3
      · exact (by decide : 1 ≤ 3)
    rw [List.flatMap_cons, List.length_append, List.length_cons]
    omega
def tPieces : List Sl → (Rv → Prop) → Prop := fun as Kr => ∃ (t : Tm) (ar : List Bool), as = [.d t.d, .d (arD ar), .d (.int (cnt ar : Int))] ∧ t.ok = true ∧ Cl ar t ∧ t.sz ≤ 200000 ∧ t.ats < 64 ∧ ar.length + t.sz ≤ 1000000 ∧ Kr (.l ((pcs ar t).map Itm.d))
section
variable {P : Program} {w : World} {K : PySem.W.Frag} {mg : Str → Option Value} {base : Heap}
theorem ok_pieces {f : Addr} {fd : FuncData} (F : Fun K "_pieces" "_pieces" sPieces f fd) (T : Txt K w mg) (TP : TxtP K mg) (C_word_of : C8.Cal P w K mg base 1 "_word_of" (spD 2 tWordOf) []) (C_free_places : C8.Cal P w K mg base 3 "free_places" (spD 1 tFreePlaces) []) (C_within : C8.Cal P w K mg base 1 "_within" (spD 4 tWithin) []) (C_head_and_given : C8.Cal P w K mg base 1 "head_and_given" (spD 1 tHeadGiven) []) : FnOk P w K mg base CX0 4 f fd ["term", "around", "many"] (spD 3 tPieces) := by
  obtain ⟨pa, es, en, pm, PD, pn⟩ := T.parted
  obtain ⟨gB, oB, iB, nB, mB, lB, cB, dB, sB, vB⟩ := TP.binding
  obtain ⟨gL, oL, iL, nL, mL, lL, cL, dL, sL, vL⟩ := TP.longs
  refine fn_d F scPieces (body := fun cdv A outer s H E hr => ⟨_, (pss_cons (ps_set (i := 3) scPieces.nd rfl (Or.inl rfl) (pe_ix ix_tup (pv 0) pe_int (fun _ _ => rfl)))
      (pss_cons (ps_if (pt_cmpR (op_notIn_kd PD) (pv 3) (pe_glob (v := .ref pa) rfl pm rfl) rfl) (pss_one (ps_ret (pe_lst (pa_cons (C8.pe_c C_word_of hr (by omega) rfl (pa_cons (pv 0) (pa_cons (pv 1) pa_nil))) pa_nil)))) pss_nil) (pss_cons (ps_if (pt_cmpR op_in_seq (pv 3) (pe_glob (v := .ref gB) rfl mB rfl) rfl) (pss_cons (ps_if (PW.pt (pw_and (pt_cmpR op_eq (pv 3) pe_str (nomark _)) (pw_and1 (pt_cmpR op_notIn_seq pe_int (C8.pe_c C_free_places hr (by omega) rfl (pa_cons (pe_ix ix_tup (pv 0) pe_int (fun _ _ => rfl)) pa_nil)) rfl)))) (pss_cons (ps_set (i := 4) scPieces.nd rfl (Or.inl rfl) (C8.pe_c C_within hr (by omega) rfl (pa_cons (pe_ix ix_tup (pv 0) pe_int (fun _ _ => rfl)) (pa_cons (pv 1) (pa_cons (pv 2) (pa_cons (pe_cmpR op_in_seq (pe_ix ix_tup (pe_ix ix_tup (pv 0) pe_int (fun _ _ => rfl)) pe_int (fun _ _ => rfl)) (pe_glob (v := .ref gB) rfl mB rfl) rfl) pa_nil))))))
      (pss_one (ps_ret (pe_lst (StX.pa_star (pv 4) (pa_cons pe_str (pa_cons (pe_tup (pa_cons (pe_ix ix_tup (pv 0) pe_int (fun _ _ => rfl)) (pa_cons (pe_tup (StX.pa_star (pv 1) (pa_cons pe_str pa_nil))) (pa_cons (pv 2) pa_nil)))) pa_nil))))))) pss_nil) (pss_cons (ps_set (i := 5) scPieces.nd rfl (Or.inl rfl) (pe_joined (PJ.cons pe_str (PJ.cons (pe_fmt (pv 2)) PJ.nil))))
      (pss_one (ps_ret (pe_lst (pa_cons (pv 3) (pa_cons (pv 5) (pa_cons pe_str (pa_cons (pe_tup (pa_cons (pe_ix ix_tup (pv 0) pe_int (fun _ _ => rfl)) (pa_cons (pv 1) (pa_cons (pv 2) pa_nil)))) (pa_cons pe_str (pa_cons (pe_tup (pa_cons (pe_ix ix_tup (pv 0) pe_int (fun _ _ => rfl)) (pa_cons (pe_tup (StX.pa_star (pv 1) (pa_cons (pv 5) pa_nil))) (pa_cons (pe_op op_add (pv 2) pe_int) pa_nil)))) pa_nil))))))))))) pss_nil) (pss_cons (ps_if (pt_cmpR op_eq (pv 3) pe_str (nomark _)) (pss_cons (ps_asg (C8.pe_c C_head_and_given hr (by omega) rfl (pa_cons (pv 0) pa_nil)) (pg_tup rfl (pgs_cons (pg_name (i := 6) scPieces.nd rfl (Or.inl rfl)) (pgs_cons (pg_name (i := 7) scPieces.nd rfl (Or.inl rfl)) pgs_nil))))
      (pss_one (ps_set (i := 8) scPieces.nd rfl (Or.inl rfl) (C8.pe_c C_within hr (by omega) rfl (pa_cons (pv 6) (pa_cons (pv 1) (pa_cons (pv 2) (pa_cons (pe_cmpR op_in_seq (pe_ix ix_tup (pv 6) pe_int (fun _ _ => rfl)) (pe_glob (v := .ref gL) rfl mL rfl) rfl) pa_nil)))))))) (pss_cons (ps_set (i := 7) scPieces.nd rfl (Or.inl rfl) (pe_slice sl_tupA (pv 0) (po_some pe_int) po_none))
      (pss_one (ps_set (i := 8) scPieces.nd rfl (Or.inl rfl) (pe_lst (pa_cons (pv 3) pa_nil)))))) (pss_cons (ps_for PassesOwn.never rfl (pi_seq (pv 7)) (pg_name (i := 9) scPieces.nd rfl (Or.inl rfl)) (pss_one (ps_expr (pe_bm PySem.F.plainAttrs_list PySem.F.slot_list_extend PySem.F.type_list_extend mt_extend (pv 8) (pa_cons (C8.pe_c C_within hr (by omega) rfl (pa_cons (pv 9) (pa_cons (pv 1) (pa_cons (pv 2) (pa_cons (pe_cmpR (op_in_kd PD) (pe_ix ix_tup (pv 9) pe_int (fun _ _ => rfl)) (pe_glob (v := .ref pa) rfl pm rfl) rfl) pa_nil))))) pa_nil)))))
      (pss_one (ps_ret (pv 8)))))))), ?_⟩)
  rintro as Kr _ ⟨t, ar, rfl, ht, hc, hs, ha, hb0, k⟩
  have hb : cnt ar + t.sz ≤ 1000000 := Nat.le_trans (Nat.add_le_add_right (List.count_le_length) _) hb0
  have hL : ∀ s : Str, ((nms ar).reverse.map PyData.str ++ [PyData.str s]).length ≤ sizeLine := fun s => by
    rw [List.length_append, List.length_map, List.length_reverse, nms_len, sizeLine_eq, List.length_singleton]
    omega
  obtain ⟨ds, ed⟩ := d_shape t
  have xl := (xw_ok (n := cnt ar) (by omega)).2
  have el0 : (Str.empty ++ ("x" : Str)).length ≤ 1000 := by decide +kernel
  have el0' : (Str.empty ++ ("x" : Str)).length ≤ sizeLine := sz1 em_len (by decide +kernel)
  have exw : Str.empty ++ "x" ++ numS (cnt ar) = xw (cnt ar) := by rw [Str.empty_append]; rfl
  have nl : (numS (cnt ar)).length ≤ 30 := numS_len (by omega)
  have two : t.lv = 3 ∨ t.lv < 3 := by
    have : ∀ p ∈ wtab, p.2 = 3 ∨ p.2 < 3 := by decide +kernel
    exact this _ (tab_mem t)
  by_cases l0 : t.lv = 0
  · rw [ed]
    refine sm_seq (sm_set (ev_op (ev_var rfl) ev_int (fv_ixT at0)) ?_)
    have ep : (!(parts t.wd).isSome) = true := by rw [in_parts, l0]; rfl
    have e1 : pcs ar t = [.w ((ws ar t).headD "")] := by
      cases t with
      | at_ n => rfl
      | lf l => rfl
      | all a b => cases l0
      | fn a b => cases l0
      | app a b => cases l0
      | self a b => cases l0
      | tri q a b c => cases l0
    rw [e1] at k
    exact sm_seq (sm_if (b := true) ((et_test (ev_op (ev_var rfl) ev_cv (fv_partedN pn))).is ep) (fun _ => sm_retL (el_lst (eds_cons (ev_call (es_cons (ev_var rfl) (es_cons (ev_var rfl) es_nil)) ar_nil rfl ⟨t, ar, by rw [ed]; rfl, l0, ht, hc, by omega, rfl⟩) eds_nil)) k) (fun z => by cases z))
  have ep : (!(parts t.wd).isSome) = false := by rw [in_parts, decide_eq_true (by omega)]; rfl
  rcases two with l3 | l3
  · have inB : ((["all", "fun"] : List Str).any fun b => b == t.wd) = true := by rw [in_two, l3]; rfl
    cases t with
    | at_ n => cases l3
    | lf l => cases l3
    | app a b => cases l3
    | self a b => cases l3
    | tri q a b c => cases l3
    | all a b =>
      obtain ⟨ha', hb'⟩ := and2 (a := a.ok) (b := b.ok) ht
      have hs : a.sz + b.sz + 1 ≤ 200000 := hs
      have ha : a.ats + b.ats < 64 := ha
      have nd := nodes_d b
      have few := keys_few (t := b)
      have fa := fr_ats b 0
      obtain ⟨da, ea⟩ := d_shape a
      refine sm_seq (sm_set (ev_op (ev_var rfl) ev_int (fv_ixT at0)) ?_)
      refine sm_seq (sm_if (b := false) ((et_test (ev_op (ev_var rfl) ev_cv (fv_partedN pn))).is ep) (fun z => by cases z) (fun _ => sm_next ?_))
      refine sm_seq (sm_if (b := true) ((et_test (ev_op (ev_var rfl) ev_cv (fv_inG lB cB dB sB vB))).is inB) (fun _ => ?_) (fun z => by cases z))
      refine sm_seq (sm_if (b := !decide (0 ∈ fr 0 b)) ((et_and (a := true) ((et_test (ev_op (ev_var rfl) ev_str fv_eqS)).is (by decide +kernel)) fun _ => (et_test (ev_op ev_int (Ev.of_el (el_call (es_cons (ev_op (ev_var rfl) ev_int (fv_ixT at2)) es_nil) ar_nil rfl ⟨b.d, rfl, tm_d hb', by omega, by omega, rfl⟩)) fv_notInI))).is (by rw [any_zero]; rfl)) (fun h => ?_) (fun h => sm_next ?_))
      · have no : 0 ∉ fr 0 b := fun z => by rw [decide_eq_true z] at h; cases h
        have e1 : pcs ar (.all a b) = brI (decide (2 < a.lv)) (.p a ar) ++ [.w sTo, .p b (false :: ar)] := if_neg no
        have e2 : (pcs ar (.all a b)).map Itm.d = (if (decide (2 < a.lv)) = true then [PyData.str sO, .tuple [a.d, arD ar, .int (cnt ar : Int)], .str sC] else [.tuple [a.d, arD ar, .int (cnt ar : Int)]]) ++ [.str sTo, .tuple [b.d, .tuple ((nms ar).reverse.map .str ++ [.str ""]), .int (cnt ar : Int)]] := by
          rw [e1, List.map_append, brI_d, ← arD_false]
          show _ ++ [PyData.str sTo, .tuple [b.d, arD (false :: ar), .int (cnt (false :: ar) : Int)]] = _
          rw [cnt_false]
        rw [e2] at k
        have ed2 : (Tm.all a b).d = .tuple [.str "all", .tuple (.str a.wd :: da), b.d] := by
          show PyData.tuple [_, a.d, b.d] = _
          rw [ea]
        rw [ea] at k
        rw [ed2]
        refine sm_seq (sm_setL (el_call (es_cons (ev_op (ev_var rfl) ev_int (fv_ixT at1)) (es_cons (ev_var rfl) (es_cons (ev_var rfl) (es_cons (ev_op (ev_op (ev_op (ev_var rfl) ev_int (fv_ixT at1)) ev_int (fv_ixT at0)) ev_cv (fv_inG lB cB dB sB vB)) es_nil)))) ar_nil rfl ⟨_, _, _, _, rfl, rfl⟩) ?_)
        rw [in_two]
        have hl2 : ((if (decide (2 < a.lv)) = true then [PyData.str sO, .tuple [.tuple (.str a.wd :: da), arD ar, .int (cnt ar : Int)], .str sC] else [.tuple [.tuple (.str a.wd :: da), arD ar, .int (cnt ar : Int)]]) ++ [PyData.str sTo, PyData.tuple [b.d, PyData.tuple ((nms ar).reverse.map PyData.str ++ [PyData.str ""]), PyData.int (cnt ar : Int)]]).length ≤ sizeLine := by
          rw [sizeLine_eq]
          split
          · exact (show 5 ≤ 16777216 by decide)
          · exact (show 3 ≤ 16777216 by decide)
        exact (sm_retL (el_lst (eds_starL (ev_varF rfl) (eds_cons ev_str (eds_cons (ev_tup (eds_cons (ev_op (ev_var rfl) ev_int (fv_ixT at2)) (eds_cons (ev_tup (eds_star (ev_var rfl) (eds_cons ev_str eds_nil)) (hL _)) (eds_cons (ev_var rfl) eds_nil)))) eds_nil))) hl2) k)
      have yes : 0 ∈ fr 0 b := Classical.byContradiction fun z => by rw [decide_eq_false z] at h; cases h
      have e1 : pcs ar (.all a b) = [.w "all", .w (xw (cnt ar)), .w ":", .p a ar, .w sDot, .p b (true :: ar)] := if_pos yes
      have e2 : (pcs ar (.all a b)).map Itm.d = [.str "all", .str (xw (cnt ar)), .str ":", .tuple [a.d, arD ar, .int (cnt ar : Int)], .str sDot, .tuple [b.d, .tuple ((nms ar).reverse.map .str ++ [.str (xw (cnt ar))]), .int ((cnt ar : Int) + 1)]] := by
        rw [e1, ← arD_true]
        show [PyData.str "all", .str (xw (cnt ar)), .str ":", .tuple [a.d, arD ar, .int (cnt ar : Int)], .str sDot, .tuple [b.d, arD (true :: ar), .int (cnt (true :: ar) : Int)]] = _
        rw [cnt_true]
        rfl
      rw [e2] at k
      refine sm_seq (sm_set (js_cons ev_str el0' (js_cons (ev_fmtI (ev_var rfl) (log_ok (by omega))) (sz1 el0 (by show (numS (cnt ar)).length ≤ 1000; omega)) js_nil)) ?_)
      rw [exw]
      exact sm_retL (el_lst (eds_cons (ev_var rfl) (eds_cons (ev_var rfl) (eds_cons ev_str (eds_cons (ev_tup (eds_cons (ev_op (ev_var rfl) ev_int (fv_ixT at1)) (eds_cons (ev_var rfl) (eds_cons (ev_var rfl) eds_nil)))) (eds_cons ev_str (eds_cons (ev_tup (eds_cons (ev_op (ev_var rfl) ev_int (fv_ixT at2)) (eds_cons (ev_tup (eds_star (ev_var rfl) (eds_cons (ev_var rfl) eds_nil)) (hL _)) (eds_cons (ev_op (ev_var rfl) ev_int fv_int) eds_nil)))) eds_nil))))))) k
    | fn a b =>
      refine sm_seq (sm_set (ev_op (ev_var rfl) ev_int (fv_ixT at0)) ?_)
      refine sm_seq (sm_if (b := false) ((et_test (ev_op (ev_var rfl) ev_cv (fv_partedN pn))).is ep) (fun z => by cases z) (fun _ => sm_next ?_))
      refine sm_seq (sm_if (b := true) ((et_test (ev_op (ev_var rfl) ev_cv (fv_inG lB cB dB sB vB))).is inB) (fun _ => ?_) (fun z => by cases z))
      refine sm_seq (sm_if (b := false) ((et_and (a := false) (b := true) (ρ2 := _) ((et_test (ev_op (ev_var rfl) ev_str fv_eqS)).is (by decide +kernel)) fun z => by cases z).is rfl) (fun z => by cases z) (fun h => sm_next ?_))
      have e2 : (pcs ar (.fn a b)).map Itm.d = [.str "fun", .str (xw (cnt ar)), .str ":", .tuple [a.d, arD ar, .int (cnt ar : Int)], .str sDot, .tuple [b.d, .tuple ((nms ar).reverse.map .str ++ [.str (xw (cnt ar))]), .int ((cnt ar : Int) + 1)]] := by
        rw [← arD_true]
        show [PyData.str "fun", .str (xw (cnt ar)), .str ":", .tuple [a.d, arD ar, .int (cnt ar : Int)], .str sDot, .tuple [b.d, arD (true :: ar), .int (cnt (true :: ar) : Int)]] = _
        rw [cnt_true]
        rfl
      rw [e2] at k
      refine sm_seq (sm_set (js_cons ev_str el0' (js_cons (ev_fmtI (ev_var rfl) (log_ok (by omega))) (sz1 el0 (by show (numS (cnt ar)).length ≤ 1000; omega)) js_nil)) ?_)
      rw [exw]
      exact sm_retL (el_lst (eds_cons (ev_var rfl) (eds_cons (ev_var rfl) (eds_cons ev_str (eds_cons (ev_tup (eds_cons (ev_op (ev_var rfl) ev_int (fv_ixT at1)) (eds_cons (ev_var rfl) (eds_cons (ev_var rfl) eds_nil)))) (eds_cons ev_str (eds_cons (ev_tup (eds_cons (ev_op (ev_var rfl) ev_int (fv_ixT at2)) (eds_cons (ev_tup (eds_star (ev_var rfl) (eds_cons (ev_var rfl) eds_nil)) (hL _)) (eds_cons (ev_op (ev_var rfl) ev_int fv_int) eds_nil)))) eds_nil))))))) k
  · have inB : ((["all", "fun"] : List Str).any fun b => b == t.wd) = false := by rw [in_two, decide_eq_false (by omega)]
    rw [ed]
    refine sm_seq (sm_set (ev_op (ev_var rfl) ev_int (fv_ixT at0)) ?_)
    refine sm_seq (sm_if (b := false) ((et_test (ev_op (ev_var rfl) ev_cv (fv_partedN pn))).is ep) (fun z => by cases z) (fun _ => sm_next ?_))
    refine sm_seq (sm_if (b := false) ((et_test (ev_op (ev_var rfl) ev_cv (fv_inG lB cB dB sB vB))).is inB) (fun z => by cases z) (fun _ => sm_next ?_))
    refine sm_seqI (fun ρ => ∃ (gs : List Tm) (x : PyData) (pre : List PyData) (s0 s3 s4 s5 s6 s9 : Sl), ρ = [s0, .d (arD ar), .d (.int (cnt ar : Int)), s3, s4, s5, s6, .d x, .l pre, s9] ∧ (x = .list (gs.map Tm.d) ∨ x = .tuple (gs.map Tm.d)) ∧ gs.length ≤ 1000000 ∧ pre.length ≤ 10 ∧ pre ++ (gs.flatMap (itG ar)).map Itm.d = (pcs ar t).map Itm.d) ?_ ?_
    · cases t with
      | at_ n => exact absurd rfl l0
      | lf l => exact absurd rfl l0
      | all a b => exact absurd l3 (by show ¬ (3 < 3); decide)
      | fn a b => exact absurd l3 (by show ¬ (3 < 3); decide)
      | app a b =>
        obtain ⟨dh, eh⟩ := d_shape (hdT a)
        have gl := gv_len (.app a b)
        have es : PyData.tuple (.str (Tm.app a b).wd :: ds) = givenD (.tuple (.str (hdT a).wd :: dh)) ((gvT (.app a b)).map Tm.d) := by
          rw [← ed, ← eh]
          exact spine_d (.app a b)
        refine sm_if (b := true) ((et_test (ev_op (ev_var rfl) ev_str fv_eqS)).is (decide_eq_true rfl)) (fun _ => ?_) (fun z => by cases z)
        refine sm_seq (sm_asg (ev_call (es_cons (ev_var rfl) es_nil) ar_nil rfl ⟨.tuple (.str (hdT a).wd :: dh), (gvT (.app a b)).map Tm.d, congrArg (fun z => [Sl.d z]) es, eh ▸ tm_d (hd_ok (t := .app a b) ht), hd_no a, by rw [List.length_map]; omega, rfl⟩) (tg_tup (tgs_cons tg_name (tgs_cons tg_name tgs_nil))) ?_)
        refine sm_setL (el_call (es_cons (ev_var rfl) (es_cons (ev_var rfl) (es_cons (ev_var rfl) (es_cons (ev_op (ev_op (ev_var rfl) ev_int (fv_ixT at0)) ev_cv (fv_inG lL cL dL sL vL)) es_nil)))) ar_nil rfl ⟨_, _, _, _, rfl, rfl⟩) ?_
        refine ⟨gvT (.app a b), _, _, _, _, _, _, _, _, rfl, Or.inl rfl, by omega, ?_, ?_⟩
        · split
          · exact (show 3 ≤ 10 by decide)
          · exact (show 1 ≤ 10 by decide)
        · rw [in_long, ← eh, ← brI_d, ← List.map_append]
          rfl
      | self a b =>
        obtain rfl : ds = [a.d, b.d] := by
          have e : PyData.tuple [.str "self", a.d, b.d] = .tuple (.str "self" :: ds) := ed
          injection e with e
          injection e with _ e
          exact e.symm
        refine sm_if (b := false) ((et_test (ev_op (ev_var rfl) ev_str fv_eqS)).is (decide_eq_false (show ("self" : Str) ≠ "app" by decide +kernel))) (fun z => by cases z) (fun _ => ?_)
        refine sm_seq (sm_set (ev_slA (ev_var rfl) (eo_some ev_int) eo_none) (sm_setL (el_lst (eds_cons (ev_var rfl) eds_nil)) ?_))
        refine ⟨[a, b], _, _, _, _, _, _, _, _, rfl, Or.inr ?_, (show 2 ≤ 1000000 by decide), (show 1 ≤ 10 by decide), rfl⟩
        rw [show (1 : Int) = ((1 : Nat) : Int) from rfl, cutD_from']
        rfl
      | tri q a b c =>
        obtain rfl : ds = [a.d, b.d, c.d] := by
          have e : PyData.tuple [.str (triW q), a.d, b.d, c.d] = .tuple (.str (triW q) :: ds) := ed
          injection e with e
          injection e with _ e
          exact e.symm
        refine sm_if (b := false) ((et_test (ev_op (ev_var rfl) ev_str fv_eqS)).is (decide_eq_false (show triW q ≠ "app" from (show ∀ q, triW q ≠ "app" by decide +kernel) q))) (fun z => by cases z) (fun _ => ?_)
        refine sm_seq (sm_set (ev_slA (ev_var rfl) (eo_some ev_int) eo_none) (sm_setL (el_lst (eds_cons (ev_var rfl) eds_nil)) ?_))
        refine ⟨[a, b, c], _, _, _, _, _, _, _, _, rfl, Or.inr ?_, (show 3 ≤ 1000000 by decide), (show 1 ≤ 10 by decide), rfl⟩
        rw [show (1 : Int) = ((1 : Nat) : Int) from rfl, cutD_from']
        rfl
    · rintro ρ ⟨gs, x, pre, s0, s3, s4, s5, s6, s9, rfl, hx, gl, pl, ek⟩
      have fi : Fi (iSeq K (tVar 7)) [s0, .d (arD ar), .d (.int (cnt ar : Int)), s3, s4, s5, s6, .d x, .l pre, s9] (gs.map Tm.d) [s0, .d (arD ar), .d (.int (cnt ar : Int)), s3, s4, s5, s6, .d x, .l pre, s9] := by
        rcases hx with rfl | rfl
        · exact fi_seqL (ev_var rfl)
        · exact fi_seqT (ev_var rfl)
      refine (sm_seq (sm_for fi (fun j ρ => ∃ s9, ρ = [s0, .d (arD ar), .d (.int (cnt ar : Int)), s3, s4, s5, s6, .d x, .l (pre ++ ((gs.take j).flatMap (itG ar)).map Itm.d), s9]) ⟨_, by rw [List.take_zero]; show _ = [s0, .d (arD ar), .d (.int (cnt ar : Int)), s3, s4, s5, s6, .d x, .l (pre ++ []), s9]; rw [List.append_nil]⟩ (fun j y ρ e r => ?_) (fun ρ r => ?_)))
      · obtain ⟨s9, rfl⟩ := r
        rw [List.getElem?_map] at e
        cases eg : gs[j]? with
        | none => rw [eg] at e; cases e
        | some g =>
        rw [eg] at e
        obtain rfl := Option.some.inj e
        have jl := (List.getElem?_eq_some_iff.mp eg).1
        obtain ⟨dg, eg2⟩ := d_shape g
        have il := itG_len ar (gs.take j)
        rw [List.length_take] at il
        refine ⟨_, tg_name, ?_⟩
        rw [eg2]
        refine (sm_extL (k := 8) rfl (el_call (es_cons (ev_var rfl) (es_cons (ev_var rfl) (es_cons (ev_var rfl) (es_cons (ev_op (ev_op (ev_var rfl) ev_int (fv_ixT at0)) ev_cv (fv_parted pn)) es_nil)))) ar_nil rfl ⟨_, _, _, _, rfl, rfl⟩) rfl ?_ ?_)
        · rw [List.length_append, List.length_map, sizeLine_eq]
          have : ∀ q : Bool, (if q = true then [PyData.str sO, .tuple [.tuple (.str g.wd :: dg), arD ar, .int (cnt ar : Int)], .str sC] else [.tuple [.tuple (.str g.wd :: dg), arD ar, .int (cnt ar : Int)]]).length ≤ 3 := fun q => by cases q <;> (first | exact Nat.le_refl 3 | exact (show 1 ≤ 3 by decide))
          have := this (parts g.wd).isSome
          omega
        · refine ⟨.d g.d, ?_⟩
          have e3 : pre ++ ((gs.take (j + 1)).flatMap (itG ar)).map Itm.d = pre ++ ((gs.take j).flatMap (itG ar)).map Itm.d ++ (if (parts g.wd).isSome = true then [PyData.str sO, .tuple [g.d, arD ar, .int (cnt ar : Int)], .str sC] else [.tuple [g.d, arD ar, .int (cnt ar : Int)]]) := by
            rw [take_snoc eg, List.flatMap_append, List.map_append, ← List.append_assoc, in_parts, ← brI_d]
            show _ ++ (itG ar g ++ []).map Itm.d = _
            rw [List.append_nil]
            rfl
          rw [e3, eg2]
          rfl
      · obtain ⟨s9, rfl⟩ := r
        rw [List.length_map, List.take_length, ek]
        exact sm_retL (el_var rfl) k
end
end KP
set_option Elab.async false
set_option linter.unusedVariables false
set_option linter.unusedSectionVars false
set_option maxRecDepth 100000
set_option maxHeartbeats 2000000
namespace KP
open PySem PySem.Spec PyProof.Rows L2 KA OW
/-! ### a term shown -/
abbrev sShown : Stmt := top 30
abbrev nShown : List Str := ["term", "names", "told", "waiting", "thing", "part", "around", "many", "number"]
theorem scShown : FnScope nShown ["term", "names"] (defScope sShown) := ⟨rfl, rfl, rfl, by decide +kernel, rfl, by decide +kernel, by decide +kernel⟩
structure Gd (ar : List Bool) (t : Tm) : Prop where
  ok : t.ok = true
  cl : Cl ar t
  sz : t.sz ≤ 200000
  at_ : t.ats < 64
  ln : ar.length + t.sz ≤ 1000000
def GdI : Itm → Prop
  | .w _ => True
  | .p t ar => Gd ar t
def mz : Itm → Nat
  | .w _ => 1
  | .p t _ => 10 * t.sz
def mzs (l : List Itm) : Nat := (l.map mz).sum
theorem mzs_app (a b : List Itm) : mzs (a ++ b) = mzs a + mzs b := by
  unfold mzs
  rw [List.map_append, List.sum_append]
theorem mzs_cons (a : Itm) (b : List Itm) : mzs (a :: b) = mz a + mzs b := by
  unfold mzs
  rw [List.map_cons, List.sum_cons]
theorem mzs_brI (b : Bool) (i : Itm) : mzs (brI b i) ≤ mz i + 2 := by
  cases b with
  | false => exact Nat.le_add_right ..
  | true =>
    show mzs [.w sO, i, .w sC] ≤ _
    rw [mzs_cons, mzs_cons, mzs_cons]
    show 1 + (mz i + (1 + 0)) ≤ _
    omega
theorem sz_pos : ∀ t : Tm, 1 ≤ t.sz
  | .at_ _ | .lf _ => Nat.le_refl _
  | .all a b | .fn a b | .app a b | .self a b => by show 1 ≤ a.sz + b.sz + 1; omega
  | .tri k a b c => by show 1 ≤ a.sz + b.sz + c.sz + 1; omega
theorem spine_mz (ar : List Bool) : ∀ t : Tm, mzs (brI (decide (1 < (hdT t).lv)) (.p (hdT t) ar) ++ (gvT t).flatMap (itG ar)) ≤ 10 * t.sz + 2 - 8 * (gvT t).length
  | .app a b => by
    have ih := spine_mz ar a
    have hl := gv_len a
    show mzs (brI (decide (1 < (hdT a).lv)) (.p (hdT a) ar) ++ (gvT a ++ [b]).flatMap (itG ar)) ≤ 10 * (a.sz + b.sz + 1) + 2 - 8 * (gvT a ++ [b]).length
    rw [List.flatMap_append, ← List.append_assoc, mzs_app, List.length_append, List.length_singleton]
    have h2 : mzs ([b].flatMap (itG ar)) ≤ 10 * b.sz + 2 := by
      show mzs (itG ar b ++ []) ≤ _
      rw [List.append_nil]
      exact mzs_brI _ _
    omega
  | .at_ n => by
    show mzs (brI _ (.p (.at_ n) ar) ++ []) ≤ _
    rw [List.append_nil]
    exact mzs_brI _ _
  | .lf n => by
    show mzs (brI _ (.p (.lf n) ar) ++ []) ≤ _
    rw [List.append_nil]
    exact mzs_brI _ _
  | .all a b => by
    show mzs (brI _ (.p (.all a b) ar) ++ []) ≤ _
    rw [List.append_nil]
    exact mzs_brI _ _
  | .fn a b => by
    show mzs (brI _ (.p (.fn a b) ar) ++ []) ≤ _
    rw [List.append_nil]
    exact mzs_brI _ _
  | .self a b => by
    show mzs (brI _ (.p (.self a b) ar) ++ []) ≤ _
    rw [List.append_nil]
    exact mzs_brI _ _
  | .tri k a b c => by
    show mzs (brI _ (.p (.tri k a b c) ar) ++ []) ≤ _
    rw [List.append_nil]
    exact mzs_brI _ _
theorem pcs_mz (ar : List Bool) : ∀ t : Tm, mzs (pcs ar t) < 10 * t.sz
  | .at_ n => by show 1 + 0 < 10 * 1; omega
  | .lf l => by show 1 + 0 < 10 * 1; omega
  | .all a b => by
    show mzs (if 0 ∈ fr 0 b then _ else _ : List Itm) < 10 * (a.sz + b.sz + 1)
    split
    · show 1 + (1 + (1 + (10 * a.sz + (1 + (10 * b.sz + 0))))) < _
      omega
    · have h := mzs_brI (decide (2 < a.lv)) (.p a ar)
      have h' : mz (.p a ar) = 10 * a.sz := rfl
      rw [mzs_app]
      show _ + (1 + (10 * b.sz + 0)) < _
      omega
  | .fn a b => by
    show 1 + (1 + (1 + (10 * a.sz + (1 + (10 * b.sz + 0))))) < 10 * (a.sz + b.sz + 1)
    omega
  | .app a b => by
    have h := spine_mz ar (.app a b)
    have e : (gvT (.app a b)).length = (gvT a).length + 1 := by
      show (gvT a ++ [b]).length = _
      rw [List.length_append]
      rfl
    rw [e] at h
    have hs := sz_pos (.app a b)
    have hg := gv_len (.app a b)
    refine Nat.lt_of_le_of_lt h ?_
    rw [e] at hg
    omega
  | .self a b => by
    have h1 := mzs_brI (decide (0 < a.lv)) (.p a ar)
    have h2 := mzs_brI (decide (0 < b.lv)) (.p b ar)
    have h1' : mz (.p a ar) = 10 * a.sz := rfl
    have h2' : mz (.p b ar) = 10 * b.sz := rfl
    show mzs (.w "self" :: (brI _ _ ++ (brI _ _ ++ []))) < 10 * (a.sz + b.sz + 1)
    rw [mzs_cons, List.append_nil, mzs_app]
    show 1 + _ < _
    omega
  | .tri k a b c => by
    have h1 := mzs_brI (decide (0 < a.lv)) (.p a ar)
    have h2 := mzs_brI (decide (0 < b.lv)) (.p b ar)
    have h3 := mzs_brI (decide (0 < c.lv)) (.p c ar)
    have h1' : mz (.p a ar) = 10 * a.sz := rfl
    have h2' : mz (.p b ar) = 10 * b.sz := rfl
    have h3' : mz (.p c ar) = 10 * c.sz := rfl
    show mzs (.w (triW k) :: (brI _ _ ++ (brI _ _ ++ (brI _ _ ++ [])))) < 10 * (a.sz + b.sz + c.sz + 1)
    rw [mzs_cons, List.append_nil, mzs_app, mzs_app]
    show 1 + _ < _
    omega
theorem brI_gd {b : Bool} {i : Itm} (h : GdI i) : ∀ j ∈ brI b i, GdI j := by
  cases b with
  | false =>
    intro j hj
    rw [List.mem_singleton.mp hj]
    exact h
  | true =>
    intro j hj
    rcases List.mem_cons.mp hj with rfl | hj
    · exact trivial
    · rcases List.mem_cons.mp hj with rfl | hj
      · exact h
      · rw [List.mem_singleton.mp hj]
        exact trivial
theorem Gd.two {ar : List Bool} {a b : Tm} {u v : Nat} {ta : Nat} (h : (a.ok && b.ok) = true) (c : ∀ i ∈ fr 0 a ++ fr 0 b, ar[i]? = some true) (s : a.sz + b.sz + 1 ≤ 200000) (t : a.ats + b.ats < 64) (l : ar.length + (a.sz + b.sz + 1) ≤ 1000000) : Gd ar a ∧ Gd ar b :=
  ⟨⟨(and2 h).1, (cl_two c).1, by omega, by omega, by omega⟩, ⟨(and2 h).2, (cl_two c).2, by omega, by omega, by omega⟩⟩
theorem spine_gd {ar : List Bool} : ∀ {t : Tm}, Gd ar t → Gd ar (hdT t) ∧ ∀ g ∈ gvT t, Gd ar g
  | .app a b, h => by
    obtain ⟨ga, gb⟩ := Gd.two (u := 0) (v := 0) (ta := 0) (a := a) (b := b) h.ok h.cl h.sz h.at_ h.ln
    obtain ⟨h1, h2⟩ := spine_gd ga
    refine ⟨h1, fun g hg => ?_⟩
    rcases List.mem_append.mp hg with hg | hg
    · exact h2 g hg
    · rw [List.mem_singleton.mp hg]
      exact gb
  | .at_ _, h | .lf _, h | .all _ _, h | .fn _ _, h | .self _ _, h | .tri _ _ _ _, h => ⟨h, fun g hg => by cases hg⟩
theorem gs_gd {ar : List Bool} {gs : List Tm} (h : ∀ g ∈ gs, Gd ar g) : ∀ j ∈ gs.flatMap (itG ar), GdI j := fun j hj => by
  obtain ⟨g, hg, hj⟩ := List.mem_flatMap.mp hj
  exact brI_gd (i := .p g ar) (h g hg) j hj
theorem pcs_gd {ar : List Bool} : ∀ {t : Tm}, Gd ar t → ∀ j ∈ pcs ar t, GdI j
  | .at_ n, h => fun j hj => by
    rw [List.mem_singleton.mp hj]
    exact trivial
  | .lf l, h => fun j hj => by
    rw [List.mem_singleton.mp hj]
    exact trivial
  | .all a b, h => by
    obtain ⟨ha, hb⟩ := and2 (a := a.ok) (b := b.ok) h.ok
    obtain ⟨ca, cb⟩ := cl_two (a := fr 0 a) (b := fr 1 b) h.cl
    have s : a.sz + b.sz + 1 ≤ 200000 := h.sz
    have t : a.ats + b.ats < 64 := h.at_
    have l : ar.length + (a.sz + b.sz + 1) ≤ 1000000 := h.ln
    have ga : Gd ar a := ⟨ha, ca, by omega, by omega, by omega⟩
    have gl : ∀ q : Bool, (q :: ar).length = ar.length + 1 := fun _ => rfl
    show ∀ j ∈ (if 0 ∈ fr 0 b then _ else _ : List Itm), GdI j
    split
    · have gb : Gd (true :: ar) b := ⟨hb, Cl.under cb, by omega, by omega, by rw [gl]; omega⟩
      intro j hj
      simp only [List.mem_cons, List.not_mem_nil, or_false] at hj
      rcases hj with rfl | rfl | rfl | rfl | rfl | rfl
      · exact trivial
      · exact trivial
      · exact trivial
      · exact ga
      · exact trivial
      · exact gb
    · rename_i no
      have gb : Gd (false :: ar) b := ⟨hb, Cl.skip cb no, by omega, by omega, by rw [gl]; omega⟩
      intro j hj
      rcases List.mem_append.mp hj with hj | hj
      · exact brI_gd (i := .p a ar) ga j hj
      · simp only [List.mem_cons, List.not_mem_nil, or_false] at hj
        rcases hj with rfl | rfl
        · exact trivial
        · exact gb
  | .fn a b, h => by
    obtain ⟨ha, hb⟩ := and2 (a := a.ok) (b := b.ok) h.ok
    obtain ⟨ca, cb⟩ := cl_two (a := fr 0 a) (b := fr 1 b) h.cl
    have s : a.sz + b.sz + 1 ≤ 200000 := h.sz
    have t : a.ats + b.ats < 64 := h.at_
    have l : ar.length + (a.sz + b.sz + 1) ≤ 1000000 := h.ln
    have ga : Gd ar a := ⟨ha, ca, by omega, by omega, by omega⟩
    have gl : (true :: ar).length = ar.length + 1 := rfl
    have gb : Gd (true :: ar) b := ⟨hb, Cl.under cb, by omega, by omega, by rw [gl]; omega⟩
    intro j hj
    have hj : j ∈ [Itm.w "fun", .w (xw (cnt ar)), .w ":", .p a ar, .w sDot, .p b (true :: ar)] := hj
    simp only [List.mem_cons, List.not_mem_nil, or_false] at hj
    rcases hj with rfl | rfl | rfl | rfl | rfl | rfl
    · exact trivial
    · exact trivial
    · exact trivial
    · exact ga
    · exact trivial
    · exact gb
  | .app a b, h => fun j hj => by
    obtain ⟨h1, h2⟩ := spine_gd h
    rcases List.mem_append.mp hj with hj | hj
    · exact brI_gd (i := .p _ ar) h1 j hj
    · exact gs_gd h2 j hj
  | .self a b, h => fun j hj => by
    obtain ⟨ga, gb⟩ := Gd.two (u := 0) (v := 0) (ta := 0) (a := a) (b := b) h.ok h.cl h.sz h.at_ h.ln
    rcases List.mem_cons.mp hj with rfl | hj
    · exact trivial
    · exact gs_gd (gs := [a, b]) (fun g hg => by
        simp only [List.mem_cons, List.not_mem_nil, or_false] at hg
        rcases hg with rfl | rfl
        · exact ga
        · exact gb) j hj
  | .tri k a b c, h => fun j hj => by
    have s : a.sz + b.sz + c.sz + 1 ≤ 200000 := h.sz
    have t : a.ats + (b.ats + c.ats) < 64 := h.at_
    have l : ar.length + (a.sz + b.sz + c.sz + 1) ≤ 1000000 := h.ln
    obtain ⟨hab, hc⟩ := and2 (a := a.ok && b.ok) (b := c.ok) h.ok
    obtain ⟨ca, cbc⟩ := cl_two (a := fr 0 a) (b := fr 0 b ++ fr 0 c) h.cl
    rcases List.mem_cons.mp hj with rfl | hj
    · exact trivial
    · exact gs_gd (gs := [a, b, c]) (fun g hg => by
        simp only [List.mem_cons, List.not_mem_nil, or_false] at hg
        rcases hg with rfl | rfl | rfl
        · exact ⟨(and2 hab).1, ca, by omega, by omega, by omega⟩
        · exact ⟨(and2 hab).2, (cl_two cbc).1, by omega, by omega, by omega⟩
        · exact ⟨hc, (cl_two cbc).2, by omega, by omega, by omega⟩) j hj
theorem nms_rep : ∀ n : Nat, (nms (List.replicate n true)).reverse = (List.range n).map xw
  | 0 => rfl
  | n + 1 => by
    rw [List.replicate_succ, List.range_succ, List.map_append, ← nms_rep n]
    show ((if true = true then xw (cnt (List.replicate n true)) else "") :: nms (List.replicate n true)).reverse = _
    rw [if_pos rfl, List.reverse_cons, cnt_rep]
    rfl
def tShown : List Sl → (Rv → Prop) → Prop := fun as Kr => ∃ (t : Tm) (n : Nat), as = [.d t.d, .d (.int (n : Int))] ∧ Gd (List.replicate n true) t ∧ n ≤ 1000 ∧ t.sz ≤ 30000 ∧ Kr (.d (.str (GL.glS (ws (List.replicate n true) t))))
end KP
set_option Elab.async false
set_option linter.unusedVariables false
set_option linter.unusedSectionVars false
set_option maxRecDepth 100000
set_option maxHeartbeats 2000000
namespace KP
open PySem PySem.Spec PyProof.Rows L2 KA OW
/-! ### the text, by the law -/
abbrev sLawText : Stmt := top 48
abbrev nLawText : List Str := ["_law_whole", "_law_wide", "_law_word_here", "_law_low_here", "_law_head", "_law_part"]
theorem scLawText : FnScope nLawText ["_law_whole", "_law_wide"] (defScope sLawText) := ⟨rfl, rfl, rfl, by decide +kernel, rfl, by decide +kernel, by decide +kernel⟩
theorem Gd.bind {ar : List Bool} {a b : Tm} (ok : (a.ok && b.ok) = true) (cl : ∀ i ∈ fr 0 a ++ fr 1 b, ar[i]? = some true) (s : a.sz + b.sz + 1 ≤ 200000) (t : a.ats + b.ats < 64) (l : ar.length + (a.sz + b.sz + 1) ≤ 1000000) : Gd ar a ∧ Gd (true :: ar) b ∧ (0 ∉ fr 0 b → Gd (false :: ar) b) := by
  obtain ⟨ha, hb⟩ := and2 ok
  obtain ⟨ca, cb⟩ := cl_two cl
  have gl : ∀ q : Bool, (q :: ar).length = ar.length + 1 := fun _ => rfl
  exact ⟨⟨ha, ca, by omega, by omega, by omega⟩, ⟨hb, Cl.under cb, by omega, by omega, by rw [gl]; omega⟩, fun no => ⟨hb, Cl.skip cb no, by omega, by omega, by rw [gl]; omega⟩⟩
theorem Gd.three {ar : List Bool} {k : Bool} {a b c : Tm} (h : Gd ar (.tri k a b c)) : Gd ar a ∧ Gd ar b ∧ Gd ar c := by
  have s : a.sz + b.sz + c.sz + 1 ≤ 200000 := h.sz
  have t : a.ats + (b.ats + c.ats) < 64 := h.at_
  have l : ar.length + (a.sz + b.sz + c.sz + 1) ≤ 1000000 := h.ln
  obtain ⟨hab, hc⟩ := and2 (a := a.ok && b.ok) (b := c.ok) h.ok
  obtain ⟨ca, cbc⟩ := cl_two (a := fr 0 a) (b := fr 0 b ++ fr 0 c) h.cl
  exact ⟨⟨(and2 hab).1, ca, by omega, by omega, by omega⟩, ⟨(and2 hab).2, (cl_two cbc).1, by omega, by omega, by omega⟩, ⟨hc, (cl_two cbc).2, by omega, by omega, by omega⟩⟩
theorem Gd.nice {ar : List Bool} {t : Tm} (h : Gd ar t) : Nice (ws ar t) ∧ wl (ws ar t) ≤ 100 * t.sz := by
  have hb : cnt ar ≤ ar.length := List.count_le_length
  have := h.ln
  exact ws_ok h.ok h.cl (by omega)
theorem st_ok : ∀ {t : Tm} {ar : List Bool}, t.ok = true → (st ar t).ok = true
  | .at_ n, ar, h => by
    have h : n ≤ 100000 := of_decide_eq_true h
    have h1 : cnt (ar.take n) ≤ (ar.take n).length := List.count_le_length
    have h2 := List.length_take_le n ar
    exact decide_eq_true (by omega)
  | .lf l, ar, h => h
  | .all a b, ar, h | .fn a b, ar, h | .app a b, ar, h | .self a b, ar, h => by
    obtain ⟨h1, h2⟩ := and2 (a := a.ok) (b := b.ok) h
    show ((st _ a).ok && (st _ b).ok) = true
    rw [st_ok h1, st_ok h2]
    rfl
  | .tri k a b c, ar, h => by
    obtain ⟨h12, h3⟩ := and2 (a := a.ok && b.ok) (b := c.ok) h
    obtain ⟨h1, h2⟩ := and2 h12
    show ((st _ a).ok && (st _ b).ok && (st _ c).ok) = true
    rw [st_ok h1, st_ok h2, st_ok h3]
    rfl
theorem st_hg : ∀ (t : Tm) (ar : List Bool), (st ar t).hg = t.hg
  | .at_ _, _ | .lf _, _ => rfl
  | .all a b, ar | .fn a b, ar | .app a b, ar | .self a b, ar => by
    show max (st _ a).hg (st _ b).hg + 1 = max a.hg b.hg + 1
    rw [st_hg a, st_hg b]
  | .tri k a b c, ar => by
    show max (st _ a).hg (max (st _ b).hg (st _ c).hg) + 1 = max a.hg (max b.hg c.hg) + 1
    rw [st_hg a, st_hg b, st_hg c]
theorem gl_len : ∀ l : List (List Nat), (GL.gl l).length ≤ (l.map fun w => w.length + 1).sum
  | [] => Nat.le_refl _
  | [w] => by
    show w.length ≤ w.length + 1 + 0
    omega
  | w :: v :: r => by
    have ih := gl_len (v :: r)
    have h : ((if w = [40] ∨ v = [41] then [] else [32]) : List Nat).length ≤ 1 := by split <;> decide
    show (w ++ ((if w = [40] ∨ v = [41] then [] else [32]) ++ GL.gl (v :: r))).length ≤ w.length + 1 + ((v :: r).map fun w => w.length + 1).sum
    rw [List.length_append, List.length_append]
    omega
theorem glS_len (us : List Str) : (GL.glS us).length ≤ wl us := by
  have h := gl_len (us.map fun s => s.cps.toList)
  rw [len_cps]
  refine Nat.le_trans h ?_
  unfold wl
  rw [List.map_map]
  refine Nat.le_of_eq (congrArg List.sum (List.map_congr_left fun s _ => ?_))
  show s.cps.toList.length + 1 = s.length + 1
  rw [← len_cps]
def brx (m : Nat) (t : Tm) (x : Str) : Str := if m < t.lv then sO ++ x ++ sC else x
theorem brx_is {ar : List Bool} {t : Tm} {m : Nat} (h : Gd ar t) : GL.glS (br (decide (m < t.lv)) (ws ar t)) = brx m t (GL.glS (ws ar t)) := by
  rw [glS_br h.nice.1]
  unfold brx
  by_cases c : m < t.lv
  · rw [if_pos c, if_pos (decide_eq_true c)]
  · rw [if_neg c, if_neg (by rw [decide_eq_false c]; decide)]
theorem c_lists : (" " : Str).cps.toList = [32] ∧ ("x" : Str).cps.toList = [120] ∧ (" x" : Str).cps.toList = [32, 120] ∧ (":" : Str).cps.toList = [58] ∧ (" : " : Str).cps.toList = [32, 58, 32] ∧ sDot.cps.toList = [46] ∧ (" . " : Str).cps.toList = [32, 46, 32] ∧ sTo.cps.toList = [45, 62] ∧ (" -> " : Str).cps.toList = [32, 45, 62, 32] := by decide +kernel
theorem tx_app {ar : List Bool} {a b : Tm} (ha : Gd ar a) (hb : Gd ar b) : GL.glS (ws ar (.app a b)) = brx 1 a (GL.glS (ws ar a)) ++ " " ++ brx 0 b (GL.glS (ws ar b)) :=
  (glS_app ha.nice.1.br hb.nice.1.br).trans (by rw [brx_is ha, brx_is hb])
theorem tx_bind {ar : List Bool} {a b : Tm} {w : Str} (hw : plainW w = true) (hn : cnt ar < 10 ^ 30) (ha : Gd ar a) (hb : Gd (true :: ar) b) : GL.glS (w :: xw (cnt ar) :: ":" :: (ws ar a ++ sDot :: ws (true :: ar) b)) = w ++ " x" ++ numS (cnt ar) ++ " : " ++ GL.glS (ws ar a) ++ " . " ++ GL.glS (ws (true :: ar) b) := by
  have k2 := cW ":" (by simp)
  have k3 := cW sDot (by simp)
  have n1 := Nice.cons k3.1 hb.nice.1
  have n2 := ha.nice.1.app n1
  have n3 := Nice.cons k2.1 n2
  have n4 := Nice.cons (xw_ok hn).1 n3
  have e1 := glS_app (Nice.one hw) n4
  have e2 := glS_app (Nice.one (xw_ok hn).1) n3
  have e3 := glS_app (Nice.one k2.1) n2
  have e4 := glS_app ha.nice.1 n1
  have e5 := glS_app (Nice.one k3.1) hb.nice.1
  rw [glS_one] at e1 e2 e3 e5
  refine e1.trans ?_
  rw [show GL.glS (xw (cnt ar) :: ":" :: (ws ar a ++ sDot :: ws (true :: ar) b)) = _ from e2, show GL.glS (":" :: (ws ar a ++ sDot :: ws (true :: ar) b)) = _ from e3, e4, show GL.glS (sDot :: ws (true :: ar) b) = _ from e5]
  obtain ⟨c1, c2, c3, c4, c5, c6, c7, _, _⟩ := c_lists
  refine Str.ext' (Array.ext' ?_)
  unfold xw
  simp only [Str.cps_append, Array.toList_append, c1, c2, c3, c4, c5, c6, c7, List.append_assoc, List.cons_append, List.nil_append]
theorem tx_to {ar : List Bool} {a b : Tm} (ha : Gd ar a) (hb : Gd (false :: ar) b) : GL.glS (br (decide (2 < a.lv)) (ws ar a) ++ sTo :: ws (false :: ar) b) = brx 2 a (GL.glS (ws ar a)) ++ " -> " ++ GL.glS (ws (false :: ar) b) := by
  have k4 := cW sTo (by simp)
  have n1 := Nice.cons k4.1 hb.nice.1
  have e1 := glS_app ha.nice.1.br (us := br (decide (2 < a.lv)) (ws ar a)) n1
  have e2 := glS_app (Nice.one k4.1) hb.nice.1
  rw [glS_one] at e2
  refine e1.trans ?_
  rw [show GL.glS (sTo :: ws (false :: ar) b) = _ from e2, brx_is ha]
  obtain ⟨c1, _, _, _, _, _, _, c8, c9⟩ := c_lists
  refine Str.ext' (Array.ext' ?_)
  simp only [Str.cps_append, Array.toList_append, c1, c8, c9, List.append_assoc, List.cons_append, List.nil_append]
theorem tx_self {ar : List Bool} {a b : Tm} (ha : Gd ar a) (hb : Gd ar b) : GL.glS (ws ar (.self a b)) = Txt.join " " ["self", brx 0 a (GL.glS (ws ar a)), brx 0 b (GL.glS (ws ar b))] := by
  have e1 := glS_app (Nice.one (cW "self" (by simp)).1) ((ha.nice.1.br (b := decide (0 < a.lv))).app (hb.nice.1.br (b := decide (0 < b.lv))))
  have e2 := glS_app (ha.nice.1.br (b := decide (0 < a.lv))) (hb.nice.1.br (b := decide (0 < b.lv)))
  rw [glS_one, e2, brx_is ha, brx_is hb] at e1
  refine e1.trans ?_
  refine Str.ext' (Array.ext' ?_)
  show _ = ((("self" : Str).cps ++ (" " : Str).cps ++ (brx 0 a _).cps) ++ (" " : Str).cps ++ (brx 0 b _).cps).toList
  simp only [Str.cps_append, Array.toList_append, List.append_assoc]
theorem tx_tri {ar : List Bool} {k : Bool} {a b c : Tm} (ha : Gd ar a) (hb : Gd ar b) (hc : Gd ar c) : GL.glS (ws ar (.tri k a b c)) = Txt.join " " [triW k, brx 0 a (GL.glS (ws ar a)), brx 0 b (GL.glS (ws ar b)), brx 0 c (GL.glS (ws ar c))] := by
  have nb := (hb.nice.1.br (b := decide (0 < b.lv))).app (hc.nice.1.br (b := decide (0 < c.lv)))
  have e1 := glS_app (Nice.one (triW_ok k).1) ((ha.nice.1.br (b := decide (0 < a.lv))).app nb)
  have e2 := glS_app (ha.nice.1.br (b := decide (0 < a.lv))) nb
  have e3 := glS_app (hb.nice.1.br (b := decide (0 < b.lv))) (hc.nice.1.br (b := decide (0 < c.lv)))
  rw [glS_one, e2, e3, brx_is ha, brx_is hb, brx_is hc] at e1
  refine e1.trans ?_
  refine Str.ext' (Array.ext' ?_)
  show _ = ((((triW k).cps ++ (" " : Str).cps ++ (brx 0 a _).cps) ++ (" " : Str).cps ++ (brx 0 b _).cps) ++ (" " : Str).cps ++ (brx 0 c _).cps).toList
  simp only [Str.cps_append, Array.toList_append, List.append_assoc]
end KP
set_option Elab.async false
set_option linter.unusedVariables false
set_option linter.unusedSectionVars false
set_option maxRecDepth 100000
set_option maxHeartbeats 2000000
namespace KP
open PySem PySem.Spec PyProof.Rows L2 KA OW
def tText (lim : Nat) : List Sl → (Rv → Prop) → Prop := fun as Kr => ∃ (t : Tm) (ar : List Bool), as = [.d (st ar t).d, .d (.int (cnt ar : Int))] ∧ Gd ar t ∧ t.sz ≤ 30000 ∧ t.hg ≤ lim ∧ t.hg ≤ 10 ∧ cnt ar + t.hg ≤ 100000 ∧ Kr (.d (.tuple [.str (GL.glS (ws ar t)), .int (t.lv : Int)]))
theorem brx_len {m : Nat} {t : Tm} {x : Str} : (brx m t x).length ≤ x.length + 2 := by
  unfold brx
  have h1 : sO.length = 1 := by decide +kernel
  have h2 : sC.length = 1 := by decide +kernel
  split
  · rw [len_add, len_add]
    omega
  · omega
theorem tx_len {ar : List Bool} {t : Tm} (h : Gd ar t) (s : t.sz ≤ 30000) : (GL.glS (ws ar t)).length ≤ 3000000 := by
  have h1 := glS_len (ws ar t)
  have h2 := h.nice.2
  omega
section
variable {P : Program} {w : World} {K : PySem.W.Frag} {mg : Str → Option Value} {base : Heap}
theorem ok_text {f : Addr} {fd : FuncData} (D : Dfn K mg "_law_text" sLawText f fd ["_law_whole", "_law_wide"]) (T : Txt K w mg) (C_law_word : C8.Cal P w K mg base 1 "_law_word" (spD 2 tWordL) []) (C_law_in : C8.Cal P w K mg base 1 "_law_in" (spD 2 tInL) []) (C_law_low : C8.Cal P w K mg base 11 "_law_low" (spD 2 (tLow 10)) []) : ∀ lim : Nat, FnOk P w K mg base CX0 (12 + lim) f fd ["_law_whole", "_law_wide"] (spD 2 (tText lim))
  | 0 => ⟨fun vs H Q E h => by
      obtain ⟨Z, as, Kr, hZ, ha, hl, _⟩ := h
      rw [ha.length, hl]
      rfl, fun A outer s H args us vs Q E hr e0 bt rv h => by
      obtain ⟨Z, as, Kr, hZ, ha, hl, ⟨t, _, _, _, _, h0, _⟩, go⟩ := h
      have : 1 ≤ t.hg := by cases t <;> (show 1 ≤ _; first | exact Nat.le_refl 1 | exact Nat.succ_le_succ (Nat.zero_le _))
      omega⟩
  | lim + 1 => by
    have C_law_text : C8.Cal P w K mg base (12 + lim) "_law_text" (spD 2 (tText lim)) [] := D.cal (ok_text D T C_law_word C_law_in C_law_low lim)
    refine fn_d (k := 12 + lim) D.fn scLawText (body := fun cdv A outer s H E hr => ⟨_, (pss_cons (ps_set (i := 2) scLawText.nd rfl (Or.inl rfl) (C8.pe_c C_law_word hr (by omega) rfl (pa_cons (pv 0) (pa_cons (pv 1) pa_nil))))
      (pss_cons (ps_if (pt_cmpR op_notN (pv 2) pe_non (nomark _)) (pss_one (ps_ret (pe_tup (pa_cons (pv 2) (pa_cons pe_int pa_nil))))) pss_nil) (pss_cons (ps_if (pt_cmpR op_eq (pe_ix ix_tup (pv 0) pe_int (fun _ _ => rfl)) pe_str (nomark _)) (pss_one (ps_ret (pe_tup (pa_cons (pe_op op_add_str (pe_op op_add_str (C8.pe_c C_law_in hr (by omega) rfl (pa_cons (C8.pe_c C_law_text hr (by omega) rfl (pa_cons (pe_ix ix_tup (pv 0) pe_int (fun _ _ => rfl)) (pa_cons (pv 1) pa_nil))) (pa_cons pe_int pa_nil))) pe_str) (C8.pe_c C_law_in hr (by omega) rfl (pa_cons (C8.pe_c C_law_text hr (by omega) rfl (pa_cons (pe_ix ix_tup (pv 0) pe_int (fun _ _ => rfl)) (pa_cons (pv 1) pa_nil))) (pa_cons pe_int pa_nil)))) (pa_cons pe_int pa_nil))))) pss_nil) (pss_cons (ps_if (pt_cmpR op_in_seq (pe_ix ix_tup (pv 0) pe_int (fun _ _ => rfl)) (pe_lst (pa_cons pe_str (pa_cons pe_str (pa_cons pe_str pa_nil)))) rfl) (pss_one (ps_ret (pe_tup (pa_cons (pe_join pe_str (pe_op op_cat (pe_lst (pa_cons (pe_ix ix_tup (pv 0) pe_int (fun _ _ => rfl)) pa_nil)) (pe_lc (own := [("_law_part", 5)]) (g := gName 5) (tt := tYes) rfl scLawText.nd (pi_tup (pe_slice sl_tupA (pv 0) (po_some pe_int) po_none)) (blkOk_by (N := nLawText) (sc := defScope sLawText) (by decide +kernel)) (fun _ _ _ _ _ => (pg_name (i := 5) scLawText.nd rfl (Or.inl rfl))) (fun _ _ _ _ _ => pts_nil) (fun _ _ _ _ _ => (C8.pe_c C_law_in hr (by omega) rfl (pa_cons (C8.pe_c C_law_text hr (by omega) rfl (pa_cons (pv 5) (pa_cons (pv 1) pa_nil))) (pa_cons pe_int pa_nil))))))) (pa_cons pe_int pa_nil))))) pss_nil) (pss_cons (ps_set (i := 3) scLawText.nd rfl (Or.inl rfl) (pe_ifExp (pt_cmpR op_eq (pe_ix ix_tup (pv 0) pe_int (fun _ _ => rfl)) pe_str (nomark _)) (C8.pe_c C_law_low hr (by omega) rfl (pa_cons (pe_ix ix_tup (pv 0) pe_int (fun _ _ => rfl)) (pa_cons pe_int pa_nil))) pe_non))
      (pss_cons (ps_if (pt_cmpR op_notN (pv 3) pe_non (nomark _)) (pss_one (ps_ret (pe_tup (pa_cons (pe_op op_add_str (pe_op op_add_str (C8.pe_c C_law_in hr (by omega) rfl (pa_cons (C8.pe_c C_law_text hr (by omega) rfl (pa_cons (pe_ix ix_tup (pv 0) pe_int (fun _ _ => rfl)) (pa_cons (pv 1) pa_nil))) (pa_cons pe_int pa_nil))) pe_str) (pe_ix ix_tup (C8.pe_c C_law_text hr (by omega) rfl (pa_cons (pv 3) (pa_cons (pv 1) pa_nil))) pe_int (fun _ _ => rfl))) (pa_cons pe_int pa_nil))))) pss_nil) (pss_cons (ps_set (i := 4) scLawText.nd rfl (Or.inl rfl) (pe_op op_add_str (pe_op op_add_str (pe_op op_add_str (pe_op op_add_str (pe_op op_add_str (pe_ix ix_tup (pv 0) pe_int (fun _ _ => rfl)) pe_str) (pe_callTy call_str_int (by rfl) T.str (by decide +kernel) (pa_cons (pv 1) pa_nil))) pe_str) (pe_ix ix_tup (C8.pe_c C_law_text hr (by omega) rfl (pa_cons (pe_ix ix_tup (pv 0) pe_int (fun _ _ => rfl)) (pa_cons (pv 1) pa_nil))) pe_int (fun _ _ => rfl))) pe_str))
      (pss_one (ps_ret (pe_tup (pa_cons (pe_op op_add_str (pv 4) (pe_ix ix_tup (C8.pe_c C_law_text hr (by omega) rfl (pa_cons (pe_ix ix_tup (pv 0) pe_int (fun _ _ => rfl)) (pa_cons (pe_op op_add (pv 1) pe_int) pa_nil))) pe_int (fun _ _ => rfl))) (pa_cons pe_int pa_nil)))))))))))), ?_⟩)
    rintro as Kr _ ⟨t, ar, rfl, hg, hs, hl, h10, hc, k⟩
    have wd1 := st_wd ar t
    refine (sm_seq (sm_set (ev_call (es_cons (ev_var rfl) (es_cons (ev_var rfl) es_nil)) ar_nil rfl ⟨t, ar, rfl, hg.ok, hg.cl, by omega, rfl⟩) ?_))
    by_cases l0 : t.lv = 0
    · rw [if_pos l0]
      have e : (ws ar t).headD "" = GL.glS (ws ar t) := by
        cases t with
        | at_ n => exact (glS_one _).symm
        | lf l => exact (glS_one _).symm
        | all a b => cases l0
        | fn a b => cases l0
        | app a b => cases l0
        | self a b => cases l0
        | tri q a b c => cases l0
      rw [e, ]
      rw [l0] at k
      exact (sm_seq (sm_if (b := true) ((et_test (ev_op (ev_var rfl) ev_non fv_notN)).is rfl) (fun h => (sm_ret (ev_tup (eds_cons (ev_var rfl) (eds_cons ev_int eds_nil))) k)) (fun z => by cases z)))
    rw [if_neg l0]
    refine (sm_seq (sm_if (b := false) ((et_test (ev_op (ev_var rfl) ev_non fv_notN)).is rfl) (fun z => by cases z) (fun h => (sm_next ?_))))
    have g1 : (" " : Str).length = 1 := by decide +kernel
    cases t with
    | at_ n => exact absurd rfl l0
    | lf l => exact absurd rfl l0
    | app a b =>
      obtain ⟨ga, gb⟩ := Gd.two (u := 0) (v := 0) (ta := 0) (a := a) (b := b) hg.ok hg.cl hg.sz hg.at_ hg.ln
      have hs : a.sz + b.sz + 1 ≤ 30000 := hs
      have hl : max a.hg b.hg + 1 ≤ lim + 1 := hl
      have h10 : max a.hg b.hg + 1 ≤ 10 := h10
      have hc : cnt ar + (max a.hg b.hg + 1) ≤ 100000 := hc
      have xa := tx_len ga (by omega)
      have xb := tx_len gb (by omega)
      have ya := brx_len (m := 1) (t := a) (x := GL.glS (ws ar a))
      have yb := brx_len (m := 0) (t := b) (x := GL.glS (ws ar b))
      rw [tx_app ga gb] at k
      exact (sm_seq (sm_if (b := true) ((et_test (ev_op (ev_op (ev_var rfl) ev_int (fv_ixT at0)) ev_str fv_eqS)).is (by decide +kernel)) (fun h => (sm_ret (ev_tup (eds_cons (ev_op (ev_op (ev_call (es_cons (ev_call (es_cons (ev_op (ev_var rfl) ev_int (fv_ixT at1)) (es_cons (ev_var rfl) es_nil)) ar_nil rfl ⟨a, ar, rfl, ga, by omega, by omega, by omega, by omega, rfl⟩) (es_cons ev_int es_nil)) ar_nil rfl ⟨GL.glS (ws ar a), a.lv, 1, rfl, by omega, rfl⟩) ev_str (fv_addS (a := brx 1 a (GL.glS (ws ar a))) (by rw [g1, sizeLine_eq]; omega))) (ev_call (es_cons (ev_call (es_cons (ev_op (ev_var rfl) ev_int (fv_ixT at2)) (es_cons (ev_var rfl) es_nil)) ar_nil rfl ⟨b, ar, rfl, gb, by omega, by omega, by omega, by omega, rfl⟩) (es_cons ev_int es_nil)) ar_nil rfl ⟨GL.glS (ws ar b), b.lv, 0, rfl, by omega, rfl⟩) (fv_addS (b := brx 0 b (GL.glS (ws ar b))) (by rw [len_add, g1, sizeLine_eq]; omega))) (eds_cons ev_int eds_nil))) k)) (fun z => by cases z)))
    | all a b =>
      obtain ⟨ga, gb, gn⟩ := Gd.bind (a := a) (b := b) hg.ok hg.cl hg.sz hg.at_ hg.ln
      have hs : a.sz + b.sz + 1 ≤ 30000 := hs
      have hl : max a.hg b.hg + 1 ≤ lim + 1 := hl
      have h10 : max a.hg b.hg + 1 ≤ 10 := h10
      have hc : cnt ar + (max a.hg b.hg + 1) ≤ 100000 := hc
      have xa := tx_len ga (by omega)
      have xb := tx_len gb (by omega)
      have ya := brx_len (m := 2) (t := a) (x := GL.glS (ws ar a))
      have nl := numS_len (n := cnt ar) (by omega)
      have c1 : (" x" : Str).length = 2 := by decide +kernel
      have c2 : (" : " : Str).length = 3 := by decide +kernel
      have c3 : (" . " : Str).length = 3 := by decide +kernel
      have c4 : (" -> " : Str).length = 4 := by decide +kernel
      have c5 : ("all" : Str).length = 3 := by decide +kernel
      have c6 : ("fun" : Str).length = 3 := by decide +kernel
      refine sm_seq (sm_if (b := false) ((et_test (ev_op (ev_op (ev_var rfl) ev_int (fv_ixT at0)) ev_str fv_eqS)).is (by decide +kernel)) (fun z => by cases z) (fun _ => sm_next ?_))
      refine sm_seq (sm_if (b := false) ((et_test (ev_op (ev_op (ev_var rfl) ev_int (fv_ixT at0)) (Ev.of_el (el_lst (eds_cons ev_str (eds_cons ev_str (eds_cons ev_str eds_nil))))) (fv_inLs (bs := ["same", "self", "put"])))).is (by decide +kernel)) (fun z => by cases z) (fun _ => sm_next ?_))
      have el : lowD 0 (st (true :: ar) b) = if 0 ∈ fr 0 b then .none else (st (false :: ar) b).d := by
        have h : lw 0 (st (true :: ar) b) = if 0 ∈ fr 0 b then none else some (st (false :: ar) b) := lw_st b 0 ar
        unfold lowD
        rw [h]
        by_cases z : 0 ∈ fr 0 b
        · rw [if_pos z, if_pos z]
        · rw [if_neg z, if_neg z]
      refine (sm_seq (sm_set (i := 3) (ev_if (b := true) ((et_test (ev_op (ev_op (ev_var rfl) ev_int (fv_ixT at0)) ev_str fv_eqS)).is (by decide +kernel)) (fun h => (ev_call (es_cons (ev_op (ev_var rfl) ev_int (fv_ixT at2)) (es_cons ev_int es_nil)) ar_nil rfl ⟨st (true :: ar) b, 0, rfl, by rw [st_hg]; omega, st_ok gb.ok, rfl⟩)) (fun z => by cases z)) ?_))
      rw [el]
      by_cases z : 0 ∈ fr 0 b
      · rw [if_pos z]
        rw [show ws ar (.all a b) = ("all" : Str) :: xw (cnt ar) :: (":" : Str) :: (ws ar a ++ sDot :: ws (true :: ar) b) from if_pos z, tx_bind (cW "all" (by simp)).1 (by omega) ga gb] at k
        refine (sm_seq (sm_if (b := false) ((et_test (ev_op (ev_var rfl) ev_non fv_notN)).is rfl) (fun z => by cases z) (fun h => (sm_next ?_))))
        refine (sm_seq (sm_set (i := 4) (ev_op (ev_op (ev_op (ev_op (ev_op (ev_op (ev_var rfl) ev_int (fv_ixT at0)) ev_str (fv_addS (a := "all") (b := " x") (by rw [sizeLine_eq]; omega))) (ev_fn (es_cons (ev_var rfl) es_nil) (fv_strI (log_ok (by omega)))) (fv_addS (a := "all" ++ " x") (b := numS (cnt ar)) (by rw [len_add, sizeLine_eq]; omega))) ev_str (fv_addS (b := " : ") (by rw [len_add, len_add, sizeLine_eq]; omega))) (ev_op (ev_call (es_cons (ev_op (ev_var rfl) ev_int (fv_ixT at1)) (es_cons (ev_var rfl) es_nil)) ar_nil rfl ⟨a, ar, rfl, ga, by omega, by omega, by omega, by omega, rfl⟩) ev_int (fv_ixT at0)) (fv_addS (b := GL.glS (ws ar a)) (by rw [len_add, len_add, len_add, sizeLine_eq]; omega))) ev_str (fv_addS (b := " . ") (by rw [len_add, len_add, len_add, len_add, sizeLine_eq]; omega))) ?_))
        exact (sm_ret (ev_tup (eds_cons (ev_op (ev_var rfl) (ev_op (ev_call (es_cons (ev_op (ev_var rfl) ev_int (fv_ixT at2)) (es_cons (ev_op (ev_var rfl) ev_int fv_int) es_nil)) ar_nil rfl ⟨b, true :: ar, by rw [cnt_true]; rfl, gb, by omega, by omega, by omega, by rw [cnt_true]; omega, rfl⟩) ev_int (fv_ixT at0)) (fv_addS (b := GL.glS (ws (true :: ar) b)) (by rw [len_add, len_add, len_add, len_add, len_add, sizeLine_eq]; omega))) (eds_cons ev_int eds_nil))) k)
      · rw [if_neg z]
        have gf := gn z
        have xf := tx_len gf (by omega)
        obtain ⟨df, ef⟩ := d_shape (st (false :: ar) b)
        rw [show ws ar (.all a b) = br (decide (2 < a.lv)) (ws ar a) ++ sTo :: ws (false :: ar) b from if_neg z, tx_to ga gf] at k
        refine (sm_seq (sm_if (b := true) ((et_test (ev_op (ev_var rfl) ev_non fv_notN)).is (by rw [ef]; rfl)) (fun h => ?_) (fun z => by cases z)))
        exact (sm_ret (ev_tup (eds_cons (ev_op (ev_op (ev_call (es_cons (ev_call (es_cons (ev_op (ev_var rfl) ev_int (fv_ixT at1)) (es_cons (ev_var rfl) es_nil)) ar_nil rfl ⟨a, ar, rfl, ga, by omega, by omega, by omega, by omega, rfl⟩) (es_cons ev_int es_nil)) ar_nil rfl ⟨GL.glS (ws ar a), a.lv, 2, rfl, by omega, rfl⟩) ev_str (fv_addS (a := brx 2 a (GL.glS (ws ar a))) (b := " -> ") (by rw [c4, sizeLine_eq]; omega))) (ev_op (ev_call (es_cons (ev_var rfl) (es_cons (ev_var rfl) es_nil)) ar_nil rfl ⟨b, false :: ar, by rw [cnt_false]; rfl, gf, by omega, by omega, by omega, by rw [cnt_false]; omega, rfl⟩) ev_int (fv_ixT at0)) (fv_addS (b := GL.glS (ws (false :: ar) b)) (by rw [len_add, c4, sizeLine_eq]; omega))) (eds_cons ev_int eds_nil))) k)
    | fn a b =>
      obtain ⟨ga, gb, gn⟩ := Gd.bind (a := a) (b := b) hg.ok hg.cl hg.sz hg.at_ hg.ln
      have hs : a.sz + b.sz + 1 ≤ 30000 := hs
      have hl : max a.hg b.hg + 1 ≤ lim + 1 := hl
      have h10 : max a.hg b.hg + 1 ≤ 10 := h10
      have hc : cnt ar + (max a.hg b.hg + 1) ≤ 100000 := hc
      have xa := tx_len ga (by omega)
      have xb := tx_len gb (by omega)
      have ya := brx_len (m := 2) (t := a) (x := GL.glS (ws ar a))
      have nl := numS_len (n := cnt ar) (by omega)
      have c1 : (" x" : Str).length = 2 := by decide +kernel
      have c2 : (" : " : Str).length = 3 := by decide +kernel
      have c3 : (" . " : Str).length = 3 := by decide +kernel
      have c4 : (" -> " : Str).length = 4 := by decide +kernel
      have c5 : ("all" : Str).length = 3 := by decide +kernel
      have c6 : ("fun" : Str).length = 3 := by decide +kernel
      refine sm_seq (sm_if (b := false) ((et_test (ev_op (ev_op (ev_var rfl) ev_int (fv_ixT at0)) ev_str fv_eqS)).is (by decide +kernel)) (fun z => by cases z) (fun _ => sm_next ?_))
      refine sm_seq (sm_if (b := false) ((et_test (ev_op (ev_op (ev_var rfl) ev_int (fv_ixT at0)) (Ev.of_el (el_lst (eds_cons ev_str (eds_cons ev_str (eds_cons ev_str eds_nil))))) (fv_inLs (bs := ["same", "self", "put"])))).is (by decide +kernel)) (fun z => by cases z) (fun _ => sm_next ?_))
      rw [show ws ar (.fn a b) = ("fun" : Str) :: xw (cnt ar) :: (":" : Str) :: (ws ar a ++ sDot :: ws (true :: ar) b) from rfl, tx_bind (cW "fun" (by simp)).1 (by omega) ga gb] at k
      refine (sm_seq (sm_set (i := 3) (ev_if (b := false) ((et_test (ev_op (ev_op (ev_var rfl) ev_int (fv_ixT at0)) ev_str fv_eqS)).is (by decide +kernel)) (fun z => by cases z) (fun h => ev_non)) ?_))
      refine (sm_seq (sm_if (b := false) ((et_test (ev_op (ev_var rfl) ev_non fv_notN)).is rfl) (fun z => by cases z) (fun h => (sm_next ?_))))
      refine (sm_seq (sm_set (i := 4) (ev_op (ev_op (ev_op (ev_op (ev_op (ev_op (ev_var rfl) ev_int (fv_ixT at0)) ev_str (fv_addS (a := "fun") (b := " x") (by rw [sizeLine_eq]; omega))) (ev_fn (es_cons (ev_var rfl) es_nil) (fv_strI (log_ok (by omega)))) (fv_addS (a := "fun" ++ " x") (b := numS (cnt ar)) (by rw [len_add, sizeLine_eq]; omega))) ev_str (fv_addS (b := " : ") (by rw [len_add, len_add, sizeLine_eq]; omega))) (ev_op (ev_call (es_cons (ev_op (ev_var rfl) ev_int (fv_ixT at1)) (es_cons (ev_var rfl) es_nil)) ar_nil rfl ⟨a, ar, rfl, ga, by omega, by omega, by omega, by omega, rfl⟩) ev_int (fv_ixT at0)) (fv_addS (b := GL.glS (ws ar a)) (by rw [len_add, len_add, len_add, sizeLine_eq]; omega))) ev_str (fv_addS (b := " . ") (by rw [len_add, len_add, len_add, len_add, sizeLine_eq]; omega))) ?_))
      exact (sm_ret (ev_tup (eds_cons (ev_op (ev_var rfl) (ev_op (ev_call (es_cons (ev_op (ev_var rfl) ev_int (fv_ixT at2)) (es_cons (ev_op (ev_var rfl) ev_int fv_int) es_nil)) ar_nil rfl ⟨b, true :: ar, by rw [cnt_true]; rfl, gb, by omega, by omega, by omega, by rw [cnt_true]; omega, rfl⟩) ev_int (fv_ixT at0)) (fv_addS (b := GL.glS (ws (true :: ar) b)) (by rw [len_add, len_add, len_add, len_add, len_add, sizeLine_eq]; omega))) (eds_cons ev_int eds_nil))) k)
    | self a b =>
      obtain ⟨ga, gb⟩ := Gd.two (u := 0) (v := 0) (ta := 0) (a := a) (b := b) hg.ok hg.cl hg.sz hg.at_ hg.ln
      have hs : a.sz + b.sz + 1 ≤ 30000 := hs
      have hl : max a.hg b.hg + 1 ≤ lim + 1 := hl
      have h10 : max a.hg b.hg + 1 ≤ 10 := h10
      have hc : cnt ar + (max a.hg b.hg + 1) ≤ 100000 := hc
      have xa := tx_len ga (by omega)
      have xb := tx_len gb (by omega)
      have ya := brx_len (m := 0) (t := a) (x := GL.glS (ws ar a))
      have yb := brx_len (m := 0) (t := b) (x := GL.glS (ws ar b))
      have c5 : ("self" : Str).length = 4 := by decide +kernel
      rw [tx_self ga gb] at k
      have hgs : ∀ g ∈ [a, b], Gd ar g ∧ g.sz ≤ 30000 ∧ g.hg ≤ lim ∧ g.hg ≤ 10 ∧ cnt ar + g.hg ≤ 100000 := fun g hm => by
        simp only [List.mem_cons, List.not_mem_nil, or_false] at hm
        rcases hm with rfl | rfl
        · exact ⟨ga, by omega, by omega, by omega, by omega⟩
        · exact ⟨gb, by omega, by omega, by omega, by omega⟩
      refine sm_seq (sm_if (b := false) ((et_test (ev_op (ev_op (ev_var rfl) ev_int (fv_ixT at0)) ev_str fv_eqS)).is (by decide +kernel)) (fun z => by cases z) (fun _ => sm_next ?_))
      refine sm_seq (sm_if (b := true) ((et_test (ev_op (ev_op (ev_var rfl) ev_int (fv_ixT at0)) (Ev.of_el (el_lst (eds_cons ev_str (eds_cons ev_str (eds_cons ev_str eds_nil))))) (fv_inLs (bs := ["same", "self", "put"])))).is (by decide +kernel)) (fun _ => ?_) (fun z => by cases z))
      refine sm_ret (ev_tup (eds_cons (ev_joinL (ys := ["self", brx 0 a (GL.glS (ws ar a)), brx 0 b (GL.glS (ws ar b))]) ev_str (Ev.is (Ev.of_el (el_op (Ev.of_el (el_lst (eds_cons (ev_op (ev_var rfl) ev_int (fv_ixT at0)) eds_nil))) (Ev.of_el (el_lcY (ys := ([a, b].map fun g => brx 0 g (GL.glS (ws ar g))).map .str) (fi_tup (xs := [a, b].map fun g => (st ar g).d) (Ev.is (ev_slA (ev_var rfl) (eo_some ev_int) eo_none) (by rw [show (1 : Int) = ((1 : Nat) : Int) from rfl, cutD_from']; rfl))) ⟨⟨.un, rfl, trivial⟩, trivial⟩ ?_ ?_ (fun j z y hz hy => ?_))) (fl_cat ?_))) ?_) ?_) (eds_cons ev_int eds_nil))) k
      · rw [List.length_map, sizeLine_eq]
        show 2 ≤ 16777216
        decide
      · rw [List.length_map, List.length_map, List.length_map]
      · rw [List.getElem?_map] at hz
        rw [List.getElem?_map, List.getElem?_map] at hy
        cases eg : [a, b][j]? with
        | none => rw [eg] at hz; cases hz
        | some g =>
          rw [eg] at hz hy
          cases hz
          cases hy
          obtain ⟨gg, g1, g2, g3, g4⟩ := hgs g (List.mem_of_getElem? eg)
          have xg := tx_len gg (by omega)
          exact ⟨_, tgw_name, (ev_call (es_cons (ev_call (es_cons (ev_var rfl) (es_cons (ev_var rfl) es_nil)) ar_nil rfl ⟨g, ar, rfl, gg, by omega, by omega, by omega, by omega, rfl⟩) (es_cons ev_int es_nil)) ar_nil rfl ⟨GL.glS (ws ar g), g.lv, 0, rfl, by omega, rfl⟩), rfl, ⟨⟨_, rfl, trivial⟩, trivial⟩⟩
      · rw [sizeLine_eq]
        show 1 + 2 ≤ 16777216
        decide
      · rfl
      · rw [g1]
        show ("self" : Str).length + ((brx 0 a _).length + ((brx 0 b _).length + 0)) + 3 * 1 ≤ 16777216
        omega
    | tri q a b c =>
      obtain ⟨ga, gb, gc⟩ := Gd.three hg
      have hs : a.sz + b.sz + c.sz + 1 ≤ 30000 := hs
      have hl : max a.hg (max b.hg c.hg) + 1 ≤ lim + 1 := hl
      have h10 : max a.hg (max b.hg c.hg) + 1 ≤ 10 := h10
      have hc : cnt ar + (max a.hg (max b.hg c.hg) + 1) ≤ 100000 := hc
      have xa := tx_len ga (by omega)
      have xb := tx_len gb (by omega)
      have xc := tx_len gc (by omega)
      have ya := brx_len (m := 0) (t := a) (x := GL.glS (ws ar a))
      have yb := brx_len (m := 0) (t := b) (x := GL.glS (ws ar b))
      have yc := brx_len (m := 0) (t := c) (x := GL.glS (ws ar c))
      have c5 := (triW_ok q).2
      rw [tx_tri ga gb gc] at k
      have hgs : ∀ g ∈ [a, b, c], Gd ar g ∧ g.sz ≤ 30000 ∧ g.hg ≤ lim ∧ g.hg ≤ 10 ∧ cnt ar + g.hg ≤ 100000 := fun g hm => by
        simp only [List.mem_cons, List.not_mem_nil, or_false] at hm
        rcases hm with rfl | rfl | rfl
        · exact ⟨ga, by omega, by omega, by omega, by omega⟩
        · exact ⟨gb, by omega, by omega, by omega, by omega⟩
        · exact ⟨gc, by omega, by omega, by omega, by omega⟩
      refine sm_seq (sm_if (b := false) ((et_test (ev_op (ev_op (ev_var rfl) ev_int (fv_ixT at0)) ev_str fv_eqS)).is (decide_eq_false (show triW q ≠ "app" from (show ∀ q, triW q ≠ "app" by decide +kernel) q))) (fun z => by cases z) (fun _ => sm_next ?_))
      refine sm_seq (sm_if (b := true) ((et_test (ev_op (ev_op (ev_var rfl) ev_int (fv_ixT at0)) (Ev.of_el (el_lst (eds_cons ev_str (eds_cons ev_str (eds_cons ev_str eds_nil))))) (fv_inLs (bs := ["same", "self", "put"])))).is ((show ∀ q, ((["same", "self", "put"] : List Str).any fun b => b == triW q) = true by decide +kernel) q)) (fun _ => ?_) (fun z => by cases z))
      refine sm_ret (ev_tup (eds_cons (ev_joinL (ys := [triW q, brx 0 a (GL.glS (ws ar a)), brx 0 b (GL.glS (ws ar b)), brx 0 c (GL.glS (ws ar c))]) ev_str (Ev.is (Ev.of_el (el_op (Ev.of_el (el_lst (eds_cons (ev_op (ev_var rfl) ev_int (fv_ixT at0)) eds_nil))) (Ev.of_el (el_lcY (ys := ([a, b, c].map fun g => brx 0 g (GL.glS (ws ar g))).map .str) (fi_tup (xs := [a, b, c].map fun g => (st ar g).d) (Ev.is (ev_slA (ev_var rfl) (eo_some ev_int) eo_none) (by rw [show (1 : Int) = ((1 : Nat) : Int) from rfl, cutD_from']; rfl))) ⟨⟨.un, rfl, trivial⟩, trivial⟩ ?_ ?_ (fun j z y hz hy => ?_))) (fl_cat ?_))) ?_) ?_) (eds_cons ev_int eds_nil))) k
      · rw [List.length_map, sizeLine_eq]
        show 3 ≤ 16777216
        decide
      · rw [List.length_map, List.length_map, List.length_map]
      · rw [List.getElem?_map] at hz
        rw [List.getElem?_map, List.getElem?_map] at hy
        cases eg : [a, b, c][j]? with
        | none => rw [eg] at hz; cases hz
        | some g =>
          rw [eg] at hz hy
          cases hz
          cases hy
          obtain ⟨gg, g1, g2, g3, g4⟩ := hgs g (List.mem_of_getElem? eg)
          have xg := tx_len gg (by omega)
          exact ⟨_, tgw_name, (ev_call (es_cons (ev_call (es_cons (ev_var rfl) (es_cons (ev_var rfl) es_nil)) ar_nil rfl ⟨g, ar, rfl, gg, by omega, by omega, by omega, by omega, rfl⟩) (es_cons ev_int es_nil)) ar_nil rfl ⟨GL.glS (ws ar g), g.lv, 0, rfl, by omega, rfl⟩), rfl, ⟨⟨_, rfl, trivial⟩, trivial⟩⟩
      · rw [sizeLine_eq]
        show 1 + 3 ≤ 16777216
        decide
      · rfl
      · rw [g1]
        show (triW q).length + ((brx 0 a _).length + ((brx 0 b _).length + ((brx 0 c _).length + 0))) + 4 * 1 ≤ 16777216
        omega
end
end KP
set_option Elab.async false
set_option linter.unusedVariables false
set_option linter.unusedSectionVars false
set_option maxRecDepth 100000
set_option maxHeartbeats 2000000
namespace KP
open PySem PySem.Spec PyProof.Rows L2 KA OW
theorem len_wl : ∀ ws : List Str, ws.length ≤ wl ws
  | [] => Nat.le_refl _
  | a :: ws => by
    have := len_wl ws
    rw [wl_cons, List.length_cons]
    omega
theorem len_mzs : ∀ l : List Itm, (∀ i ∈ l, 1 ≤ mz i) → l.length ≤ mzs l
  | [], _ => Nat.le_refl _
  | a :: l, h => by
    have := len_mzs l fun i hi => h i (List.mem_cons_of_mem _ hi)
    have := h a List.mem_cons_self
    rw [mzs_cons, List.length_cons]
    omega
theorem mz_pos : ∀ i : Itm, 1 ≤ mz i
  | .w _ => Nat.le_refl _
  | .p t _ => by
    have := sz_pos t
    show 1 ≤ 10 * t.sz
    omega
section
variable {P : Program} {w : World} {K : PySem.W.Frag} {mg : Str → Option Value} {base : Heap}
theorem ok_shown {f : Addr} {fd : FuncData} (F : Fun K "shown" "shown" sShown f fd) (T : Txt K w mg) (C_pieces : C8.Cal P w K mg base 4 "_pieces" (spD 3 tPieces) []) (C_text_of : C8.Cal P w K mg base 1 "text_of" (spD 1 tTextOf) []) : FnOk P w K mg base CX0 5 f fd ["term", "names"] (spD 2 tShown) := by
  refine fn_d F scShown (body := fun cdv A outer s H E hr => ⟨_, (pss_cons (ps_set (i := 2) scShown.nd rfl (Or.inl rfl) (pe_lst pa_nil))
      (pss_cons (ps_set (i := 3) scShown.nd rfl (Or.inl rfl) (pe_lst (pa_cons (pe_tup (pa_cons (pv 0) (pa_cons (pe_callTy call_tuple_of (by rfl) T.tuple (by decide +kernel) (pa_cons (pe_lc (own := [("number", 8)]) (g := gName 8) (tt := tYes) rfl scShown.nd (pi_range1 (by rfl) T.range (pa_cons (pv 1) pa_nil)) (blkOk_by (N := nShown) (sc := defScope sShown) (by decide +kernel)) (fun _ _ _ _ _ => (pg_name (i := 8) scShown.nd rfl (Or.inl rfl))) (fun _ _ _ _ _ => pts_nil) (fun _ _ _ _ _ => (pe_joined (PJ.cons pe_str (PJ.cons (pe_fmt (pv 8)) PJ.nil))))) pa_nil)) (pa_cons (pv 1) pa_nil)))) pa_nil)))
      (pss_cons (ps_while PassesOwn.never (pt_truth (pv 3) (by intro _; rfl)) (pss_cons (ps_set (i := 4) scShown.nd rfl (Or.inl rfl) (pe_bm0 PySem.F.plainAttrs_list PySem.F.slot_list_pop PySem.F.type_list_pop mt_pop (pv 3)))
      (pss_one (ps_if (pt_val (pe_isD is_str (pv 4) T.isi T.str (by decide +kernel))) (pss_one (ps_expr (pe_bm PySem.F.plainAttrs_list PySem.F.slot_list_append PySem.F.type_list_append mt_append (pv 2) (pa_cons (pv 4) pa_nil)))) (pss_cons (ps_asg (pv 4) (pg_tup rfl (pgs_cons (pg_name (i := 5) scShown.nd rfl (Or.inl rfl)) (pgs_cons (pg_name (i := 6) scShown.nd rfl (Or.inl rfl)) (pgs_cons (pg_name (i := 7) scShown.nd rfl (Or.inl rfl)) pgs_nil)))))
      (pss_one (ps_expr (pe_bm PySem.F.plainAttrs_list PySem.F.slot_list_extend PySem.F.type_list_extend mt_extend (pv 3) (pa_cons (pe_revL (C8.pe_c C_pieces hr (by omega) rfl (pa_cons (pv 5) (pa_cons (pv 6) (pa_cons (pv 7) pa_nil))))) pa_nil)))))))))
      (pss_one (ps_ret (C8.pe_c C_text_of hr (by omega) rfl (pa_cons (pv 2) pa_nil))))))), ?_⟩)
  rintro as Kr _ ⟨t, n, rfl, hg, hn, hs, k⟩
  have cr : cnt (List.replicate n true) = n := cnt_rep n
  obtain ⟨nw, lw⟩ := ws_ok (t := t) (ar := List.replicate n true) hg.ok hg.cl (by rw [cr]; omega)
  have ea : arD (List.replicate n true) = .tuple ((List.range n).map fun i => .str (xw i)) := by
    show PyData.tuple ((nms (List.replicate n true)).reverse.map .str) = _
    rw [nms_rep, List.map_map]
    rfl
  have e0 : Itm.d (.p t (List.replicate n true)) = .tuple [t.d, .tuple ((List.range n).map fun i => .str (xw i)), .int (n : Int)] := by
    show PyData.tuple [t.d, arD (List.replicate n true), .int (cnt (List.replicate n true) : Int)] = _
    rw [ea, cr]
  refine (sm_seq (sm_setL (el_lst eds_nil) ?_))
  refine sm_seq (sm_setL (xs := [.tuple [t.d, .tuple ((List.range n).map fun i => .str (xw i)), .int (n : Int)]]) (el_lst (eds_cons (ev_tup (eds_cons (ev_var rfl) (eds_cons (ev_fn (es_cons (Ev.of_el (el_lcY (ys := (List.range n).map fun i => .str (xw i)) (fi_rng1 (eds_cons (ev_var rfl) eds_nil) (by constructor <;> omega)) (by exact ⟨⟨.un, rfl, trivial⟩, trivial⟩) ?_ ?_ (fun j z y hz hy => ?_))) es_nil) fv_tupL) (eds_cons (ev_var rfl) eds_nil)))) eds_nil)) ?_ (by decide) (by show 3 < 9; decide))
  · rw [rngD_len, sizeLine_eq]
    omega
  · rw [rngD_len, List.length_map, List.length_range]
    omega
  · obtain ⟨lt, rfl⟩ := rngD_at hz
    have lt : j < n := by omega
    rw [List.getElem?_map, List.getElem?_range lt] at hy
    cases hy
    have nl : (numS j).length ≤ 30 := numS_len (by omega)
    have exw : Str.empty ++ "x" ++ numS j = xw j := by rw [Str.empty_append]; rfl
    rw [show (fun i => PyData.str (xw i)) j = PyData.str (Str.empty ++ "x" ++ numS j) from congrArg PyData.str exw.symm]
    exact ⟨_, tgw_name, (js_cons ev_str (sz1 em_len (by decide +kernel)) (js_cons (ev_fmtI (ev_var rfl) (log_ok (by omega))) (sz1 (by decide +kernel) (by show (numS j).length ≤ 1000; omega)) js_nil)), rfl, ⟨⟨_, rfl, trivial⟩, trivial⟩⟩
  rw [← e0]
  refine (sm_seq (sm_while (fun m ρ => ∃ (stk : List Itm) (told : List Str) (s4 s5 s6 s7 s8 : Sl), m = mzs stk ∧ mzs stk ≤ 10 * t.sz ∧ (∀ i ∈ stk, GdI i) ∧ told ++ stk.flatMap Itm.ws = ws (List.replicate n true) t ∧ ρ = [.d t.d, .d (.int (n : Int)), .l (told.map .str), .l (stk.map Itm.d).reverse, s4, s5, s6, s7, s8]) ⟨_, [.p t (List.replicate n true)], [], _, _, _, _, _, rfl, Nat.le_refl _, fun i hi => by rw [List.mem_singleton.mp hi]; exact hg, by rw [List.nil_append]; exact List.append_nil _, rfl⟩ (fun m ρ w => ?_)))
  obtain ⟨stk, told, s4, s5, s6, s7, s8, rfl, hm, hgd, hw, rfl⟩ := w
  have lt := len_wl (ws (List.replicate n true) t)
  have el : (ws (List.replicate n true) t).length = told.length + (stk.flatMap Itm.ws).length := by rw [← hw, List.length_append]
  have lz := len_mzs stk fun i _ => mz_pos i
  cases stk with
  | nil =>
    have e : told = ws (List.replicate n true) t := by
      rw [← hw]
      exact (List.append_nil _).symm
    refine ⟨false, _, (et_truO (xs := []) rfl), (fun z => by cases z), fun _ => ?_⟩
    rw [e]
    exact (sm_ret (ev_call (es_cons (ev_varF rfl) es_nil) ar_nil rfl ⟨_, rfl, nw, by omega, rfl⟩) k)
  | cons i stk =>
    have er : ((i :: stk).map Itm.d).reverse = (stk.map Itm.d).reverse ++ [i.d] := by rw [List.map_cons, List.reverse_cons]
    rw [er]
    refine ⟨true, _, (et_truO rfl).is (by cases (stk.map Itm.d).reverse <;> rfl), (fun _ => ?_), (fun z => by cases z)⟩
    refine (sm_seq (sm_set (ev_pop rfl) ?_))
    rw [mzs_cons] at hm lz
    rw [List.length_cons] at lz
    cases i with
    | w s =>
      refine sm_if (b := true) ((et_B (ev_fn (es_cons (ev_var rfl) (es_cons ev_cv es_nil)) fv_isD)).is rfl) (fun _ => (sm_app rfl (ev_var rfl) rfl ?_ ?_)) (fun z => by cases z)
      · rw [List.length_map, sizeLine_eq]
        omega
      · refine ⟨mzs stk, ?_, stk, told ++ [s], .d (.str s), s5, s6, s7, s8, rfl, ?_, fun i hi => hgd i (List.mem_cons_of_mem _ hi), ?_, ?_⟩
        · rw [mzs_cons]
          show mzs stk < 1 + mzs stk
          omega
        · omega
        · rw [← hw, List.append_assoc]
          rfl
        · rw [List.map_append]
          rfl
    | p t1 ar =>
      have g1 : Gd ar t1 := hgd _ List.mem_cons_self
      have pm := pcs_mz ar t1
      have pl := len_mzs (pcs ar t1) fun i _ => mz_pos i
      have em : mz (.p t1 ar) = 10 * t1.sz := rfl
      refine sm_if (b := false) ((et_B (ev_fn (es_cons (ev_var rfl) (es_cons ev_cv es_nil)) fv_isD)).is rfl) (fun z => by cases z) (fun _ => ?_)
      refine (sm_seq (sm_asg (ev_var rfl) (tg_tup (tgs_cons tg_name (tgs_cons tg_name (tgs_cons tg_name tgs_nil)))) ?_))
      refine (sm_extL (k := 3) rfl (el_revL (Ev.of_el (el_call (es_cons (ev_var rfl) (es_cons (ev_var rfl) (es_cons (ev_var rfl) es_nil))) ar_nil rfl ⟨t1, ar, rfl, g1.ok, g1.cl, g1.sz, g1.at_, g1.ln, rfl⟩))) rfl ?_ ?_)
      · rw [List.length_reverse, List.length_reverse, List.length_map, List.length_map, sizeLine_eq]
        omega
      · refine ⟨mzs (pcs ar t1 ++ stk), ?_, pcs ar t1 ++ stk, told, .d (Itm.d (.p t1 ar)), .d t1.d, .d (arD ar), .d (.int (cnt ar : Int)), s8, rfl, ?_, fun i hi => ?_, ?_, ?_⟩
        · rw [mzs_app, mzs_cons]
          omega
        · rw [mzs_app]
          omega
        · rcases List.mem_append.mp hi with hi | hi
          · exact pcs_gd g1 i hi
          · exact hgd i (List.mem_cons_of_mem _ hi)
        · rw [List.flatMap_append, pcs_ws, ← hw]
          rfl
        · rw [List.map_append, List.reverse_append]
          rfl
end
end KP
set_option Elab.async false
set_option linter.unusedVariables false
set_option linter.unusedSectionVars false
set_option maxRecDepth 100000
set_option maxHeartbeats 1000000
namespace KP
open PySem PySem.Spec PyProof.Rows L2 KA OW
/-! ### a drawn term is what the law sees of it -/
theorem rep_at {k i : Nat} (h : i < k) : (List.replicate k true)[i]? = some true := by
  rw [List.getElem?_replicate, if_pos h]
theorem at_rep {k i : Nat} (h : (List.replicate k true)[i]? = some true) : i < k := by
  rw [List.getElem?_replicate] at h
  split at h
  · assumption
  · cases h
theorem st_id : ∀ (t : Tm) (k : Nat), Cl (List.replicate k true) t → st (List.replicate k true) t = t
  | .at_ n, k, h => by
    have lt := at_rep (h n (by unfold fr; rw [if_pos (Nat.zero_le n)]; exact List.mem_singleton_self _))
    show Tm.at_ (cnt ((List.replicate k true).take n)) = .at_ n
    rw [List.take_replicate, cnt_rep, Nat.min_eq_left (by omega)]
  | .lf l, k, h => rfl
  | .all a b, k, h => by
    obtain ⟨ca, cb⟩ := cl_two (a := fr 0 a) (b := fr 1 b) h
    have e : true :: List.replicate k true = List.replicate (k + 1) true := rfl
    show Tm.all (st (List.replicate k true) a) (st (true :: List.replicate k true) b) = .all a b
    rw [st_id a k ca, e, st_id b (k + 1) (e ▸ Cl.under cb)]
  | .fn a b, k, h => by
    obtain ⟨ca, cb⟩ := cl_two (a := fr 0 a) (b := fr 1 b) h
    have e : true :: List.replicate k true = List.replicate (k + 1) true := rfl
    show Tm.fn (st (List.replicate k true) a) (st (true :: List.replicate k true) b) = .fn a b
    rw [st_id a k ca, e, st_id b (k + 1) (e ▸ Cl.under cb)]
  | .app a b, k, h => by
    obtain ⟨ca, cb⟩ := cl_two (a := fr 0 a) (b := fr 0 b) h
    show Tm.app (st (List.replicate k true) a) (st (List.replicate k true) b) = .app a b
    rw [st_id a k ca, st_id b k cb]
  | .self a b, k, h => by
    obtain ⟨ca, cb⟩ := cl_two (a := fr 0 a) (b := fr 0 b) h
    show Tm.self (st (List.replicate k true) a) (st (List.replicate k true) b) = .self a b
    rw [st_id a k ca, st_id b k cb]
  | .tri q a b c, k, h => by
    obtain ⟨ca, cbc⟩ := cl_two (a := fr 0 a) (b := fr 0 b ++ fr 0 c) h
    obtain ⟨cb, cc⟩ := cl_two cbc
    show Tm.tri q (st (List.replicate k true) a) (st (List.replicate k true) b) (st (List.replicate k true) c) = .tri q a b c
    rw [st_id a k ca, st_id b k cb, st_id c k cc]
theorem gd_of {n B s a h : Nat} {t : Tm} (d : Dt n B s a h t) (hB : B ≤ 100000) (hs : s ≤ 20000) (ha : a < 64) (hn : n ≤ 1000) : Gd (List.replicate n true) t where
  ok := okB_ok (okB_mono hB d.ok)
  cl i hi := rep_at (d.cl i hi)
  sz := by have := d.sz; omega
  at_ := by have := d.at_; omega
  ln := by
    have := d.sz
    rw [List.length_replicate]
    omega
/-- so the law's text of a drawn term is what the program shows -/
def shS (n : Nat) (t : Tm) : Str := GL.glS (ws (List.replicate n true) t)
theorem got_text {lim n B s a h : Nat} {t : Tm} (d : Dt n B s a h t) (hB : B ≤ 100000) (hs : s ≤ 20000) (ha : a < 64) (hn : n ≤ 1000) (hl : h ≤ lim) (h10 : h ≤ 10) : tText lim [.d t.d, .d (.int (n : Int))] (fun r => r = .d (.tuple [.str (shS n t), .int (t.lv : Int)])) := by
  have g := gd_of d hB hs ha hn
  have hh := d.hg
  have hz := d.sz
  refine ⟨t, List.replicate n true, by rw [st_id t n g.cl, cnt_rep], g, by omega, by omega, by omega, by rw [cnt_rep]; omega, rfl⟩
theorem got_shown {n B s a h : Nat} {t : Tm} (d : Dt n B s a h t) (hB : B ≤ 100000) (hs : s ≤ 20000) (ha : a < 64) (hn : n ≤ 1000) : tShown [.d t.d, .d (.int (n : Int))] (fun r => r = .d (.str (shS n t))) :=
  ⟨t, n, rfl, gd_of d hB hs ha hn, hn, by have := d.sz; omega, rfl⟩
end KP
set_option Elab.async false
set_option linter.unusedVariables false
set_option linter.unusedSectionVars false
set_option maxRecDepth 100000
set_option maxHeartbeats 1000000
/-! The same with an else: it runs where nothing is refused. -/
namespace KA
open PySem PySem.Spec PyProof.Rows L2
def tTryAsE (K : PySem.W.Frag) (l : List (Value × Nat × (Addr → Value → Option Addr → TS))) (tb : WX → TS) (u : TS) : TS := fun D σ H => tb (wAs K D l) { D with nx := u D } σ H
section
variable {X : Cx} {body : List Stmt} {h0 : ExceptHandler} {hds : List ExceptHandler} {l : List (Value × Nat × (Addr → Value → Option Addr → TS))} {pos : Pos} {tb : WX → TS}
theorem ps_try_asE {orelse : List Stmt} {u : TS} (ho : PSs X orelse u) (stk : X.stack = X.env :: X.outer) (frm : X.env.frame = some X.env.locals) (nd : X.N.Nodup)
    (hb : ∀ (W : WX) (pn : List (Addr × Obj)) (xe : Value → Shared → Prop), Takes (X.tr pn xe) W → PassesOwn (model X.prog X.w) X.A X.env xe → PSs (X.tr pn xe) body (tb W))
    (hh : HdsA X (h0 :: hds) l) : PS X (.Try body (h0 :: hds) orelse [] pos) (tTryAsE X.K l tb u) := by
  refine ⟨fun pins s0 σ0 H0 D I0 want => ?_⟩
  have okX := I0.ok
  have frames : X.A.frames = some (X.env :: X.outer) := by rw [okX.frames, stk]
  refine wpAny_Try_except ?_
  refine wpAny_mono ((hb (wAs X.K D l) (X.pn ++ pins) (fun u t1 => wpAny (model X.prog X.w) X.A (noteFrame u X.env) (fun _ t2 => wpAny (model X.prog X.w) X.A (setFlight u none) (fun _ t3 =>
    wpAny (model X.prog X.w) X.A (handleBy u X.env (h0 :: hds)) (SP X pins D) X.xe t3) X.xe t2) X.xe t1) (fun u t0 inAir => ?_) PassesOwn.looking).run [] s0 σ0 H0 { D with nx := u D } (I0.toTry _) want) (fun fl t1 ends => ?_) (fun u t1 z => z)
  · obtain ⟨a, B, sB, pinsB, σ1, H1, cls, d, rfl, JB, newB, up0, air, freeA, osE, bareG, w⟩ := inAir
    have J0 : Inv X pins σ1 H1 sB := JB.ofTry okX
    have air' : Sky B (X.env :: X.outer) a (Zc cls d) X.env.locals t0.heap := by rw [← stk]; exact air
    show wpAny (model X.prog X.w) X.A (noteFrame (.ref a) X.env) _ _ _
    refine Sky.land Zc.steady frames frm air' fun hA flA upA => ?_
    have JA : Inv X pins σ1 H1 { t0 with heap := hA } := J0.landed newB flA.1 (up0.trans upA) osE bareG
    obtain ⟨oA, vA, getA, zcA, datA⟩ := flA.there
    have offF : a ∉ frs (X.env :: X.outer) := fun mem => by
      obtain ⟨_, o1, get1, notF⟩ := flA.2.2.1.mem mem
      rw [getA] at get1
      cases get1
      exact notF _ datA
    have offL : a ≠ X.env.locals := fun z => offF (List.mem_filterMap.mpr ⟨X.env, List.mem_cons_self, by rw [frm, z]⟩)
    have offS : a ∉ X.fs := fun mem => by
      obtain ⟨en, hen, q⟩ := List.mem_filterMap.mp mem
      exact offF (List.mem_filterMap.mpr ⟨en, List.mem_cons_of_mem _ hen, q⟩)
    have SA := JA.suite getA datA freeA offL offS
    have go : ∀ {hds' : List ExceptHandler} {l' : List (Value × Nat × (Addr → Value → Option Addr → TS))}, HdsA X hds' l' → wAs X.K D l' cls d σ1 H1 →
        wpAny (model X.prog X.w) X.A (handleBy (.ref a) X.env hds') (SP X pins D) X.xe { t0 with heap := hA } := by
      intro hds' l' hk
      induction hk with
      | rest =>
        intro w
        exact False.elim w
      | @cons x n c i ts b1 su np p3 hds2 l2 nm at_ loc hs r ih =>
        intro w
        obtain ⟨b, hb1, hyes, hno⟩ := w
        have here : Loc X.env.scope n := .inl loc
        refine wpAny_handleBy_cons (codeAny_handlers_test ?_) (by intro q; cases q)
        have lookT : PySem.W.Looks (model X.prog X.w) hA (typeOf (.ref a)) cls := fun _ _ _ t keep q => wpAny_typeOf_ref (keep _ _ getA) (by rw [zcA.1]; exact q)
        have lookM := PySem.W.exm_one (M := model X.prog X.w) JA.kIn lookT hb1
        have name : ∀ {Q E : Value → Shared → Prop}, Q c { t0 with heap := hA } → wpAny (model X.prog X.w) (X.A.mark (some (.ref a))) (eval (.Name x np) X.env) Q E { t0 with heap := hA } := fun {Q E} q => by
          obtain ⟨gl, dbg, own | ⟨none_, blt, nn⟩⟩ := nm
          · exact ld_glob (X := X.suite a ((a, oA) :: (X.pn ++ pins))) SA gl own q dbg
          · exact ld_blt (X := X.suite a ((a, oA) :: (X.pn ++ pins))) SA gl none_ blt q nn dbg
        refine name (lookM.here ?_)
        cases b with
        | false =>
          show wpAny _ X.A (handleBy (.ref a) X.env hds2) _ _ _
          exact ih (hno rfl)
        | true =>
          refine codeAny_handlers_suite_as ?_
          refine HandSPX.lands_againZ flA fun hC flC upC => ?_
          have JC : Inv X pins σ1 H1 { t0 with heap := hC } := J0.landed newB flC.1 ((up0.trans upA).trans upC) osE bareG
          obtain ⟨oC, vC, getC, zcC, datC⟩ := flC.there
          have SC := JC.suite getC datC freeA offL offS
          refine store_ok (X := X.suite a ((a, oC) :: (X.pn ++ pins))) (v := .ref a) SC nd at_ here rfl (fun t5 S5 => ?_) (.inr loc)
          refine wpAny_mono ((hs a oC cls d (X.pn ++ pins) zcC ⟨_, datC⟩).run [] t5 _ H1 _ S5 (hyes rfl a freeA)) (fun fl t6 ends => ?_) (fun _ _ z => False.elim z)
          have gone : ∀ {ρ : L2.St} {G : Hp} {Q : Shared → Prop}, Inv (X.suite a ((a, oC) :: (X.pn ++ pins))) [] ρ G t6 → (∀ t7, Inv X pins (ρ.set i none) G t7 → Q t7) →
              wpAny (model X.prog X.w) X.A (do bindName X.env n .none; unbindBehindTheSuite X.env n p3) (fun _ t7 => Q t7) X.xe t6 := fun {ρ G Q} S6 q => gone_ok (S6.unsuite okX) nd at_ loc q
          cases fl with
          | next =>
            obtain ⟨ρ, G, S6, q⟩ := ends
            exact gone S6 fun t7 J7 => ⟨_, _, J7, q⟩
          | brk =>
            obtain ⟨ρ, G, S6, q⟩ := ends
            exact gone S6 fun t7 J7 => ⟨_, _, J7, q⟩
          | cont =>
            obtain ⟨ρ, G, S6, q⟩ := ends
            exact gone S6 fun t7 J7 => ⟨_, _, J7, q⟩
          | ret u =>
            obtain ⟨v, ρ, G, S6, rv, q⟩ := ends
            exact gone S6 fun t7 J7 => ⟨_, _, _, J7, rv, q⟩
    exact go hh w
  · cases fl with
    | next =>
      obtain ⟨ρ, G, J, q⟩ := ends
      exact ho.run pins _ ρ G D (J.ofTry okX) q
    | brk =>
      obtain ⟨ρ, G, J, q⟩ := ends
      exact ⟨ρ, G, J.ofTry okX, q⟩
    | cont =>
      obtain ⟨ρ, G, J, q⟩ := ends
      exact ⟨ρ, G, J.ofTry okX, q⟩
    | ret u =>
      obtain ⟨v, ρ, G, J, rv, q⟩ := ends
      exact ⟨v, ρ, G, J.ofTry okX, rv, q⟩
end
end KA
set_option Elab.async false
set_option linter.unusedVariables false
set_option linter.unusedSectionVars false
set_option maxRecDepth 100000
set_option maxHeartbeats 1000000
namespace OW
open PySem PySem.Spec PyProof.Rows L2 KA
variable [Tbs]
section
variable {ρ ρ' ρ1 ρ2 : List Sl} {s s' : Sl} {i : Nat} {K : KK} {C : Addr} {KF : PySem.W.Frag} {u : TS}
theorem sm_tryE {l : List (Value × Nat × (Addr → Value → Option Addr → TS))} {tb : WX → TS} (h : ∀ W, Sm (tb W) ρ { K with nx := fun ρ' => Sm u ρ' K }) : Sm (tTryAsE KF l tb u) ρ K := fun c A σ H D R f dk =>
  h _ c A σ H { D with nx := u D } R f ⟨fun ρ' A' σ' H' hk R' f' => hk c A' σ' H' D R' f' dk, dk.rt, dk.bk, dk.ct⟩
theorem sm_tryXE {l : List (Value × Nat × (Addr → Value → Option Addr → TS))} {tb : WX → TS} {ts : Addr → Value → Option Addr → TS} (h : ∀ W, Rs W (tb W) ρ C s ρ') (ht : Takes1 KF C l i ts) (i0 : i ≠ 0 := by decide) (i1 : i ≠ fl := by decide)
    (hs : ∀ a d, Sm (ts a (.ref C) (some d)) (ρ'.set i (.p (excMo a d s))) { nx := fun _ => False, rt := K.rt }) : Sm (tTryAsE KF l tb u) ρ K := fun c A σ H D R f dk => by
  refine h (wAs KF D l) c A σ H { D with nx := u D } R f fun d v A' σ' H' R' f' e o => ?_
  induction ht with
  | @here c0 i0' ts0 r0 hx =>
    refine ⟨true, hx, (fun _ a ha => ?_), (fun z => by cases z)⟩
    refine hs a d c _ _ H' _ (R'.set (s := .p (excMo a d s)) (v := .ref a) i0 ⟨rfl, _, rfl, rfl, v, e, o⟩) (by rw [aset_ne i1.symm]; exact f') ⟨fun _ _ _ _ z => z.elim, fun r ρ v A σ H k => dk.rt r ρ v A σ H k, fun _ _ _ _ z => z.elim, fun _ _ _ _ z => z.elim⟩
  | @next c0 i0' j0 ts0 ts1 r0 hx _ ih => exact ⟨false, hx, (fun z => by cases z), fun _ => ih i0 i1 hs⟩
end
end OW
set_option Elab.async false
set_option linter.unusedVariables false
set_option linter.unusedSectionVars false
set_option maxRecDepth 100000
set_option maxHeartbeats 2000000
namespace KP
open PySem PySem.Spec PyProof.Rows L2 KA OW
/-! ### the refusals, and the defs that refuse -/
section
variable {ρ ρ' ρ1 ρ2 : List Sl} {te ta tb : TE} {s s' : Sl} {x y : PyData} {i : Nat} {tr : TA} {ss : List Sl}
theorem ev_sp1 {ok : PyData → Prop} {f : PyData → Bool} {E : XK} (h : Es tr ρ [.d x] ρ') (hx : ok x) : Ev (tCall (sp1 ok f) [] E tr) ρ (.d (.bool (f x))) ρ' := fun c A σ H Q R f' q =>
  h c A σ H _ R f' fun vs A1 H1 R1 f1 S1 o1 => by
    match vs, o1 with
    | [v], o1 => exact ⟨v, x, rfl, Dn.mono vw_sub o1.1, hx, fun H2 S2 => q _ A1 H2 (R1.up S2) f1 (S1.trans (vw_up S2)) (.bl _)⟩
end
def clsB : Stmt → List Stmt | .ClassDef (body := b) .. => b | _ => []
abbrev sClsT : Stmt := top 2
abbrev sClsN : Stmt := top 3
abbrev sInitT : Stmt := (clsB sClsT).headD (.Pass ⟨0, 0, 0, 0⟩)
abbrev sInitN : Stmt := (clsB sClsN).headD (.Pass ⟨0, 0, 0, 0⟩)
abbrev sWant : Stmt := top 22
abbrev sWantW : Stmt := top 23
abbrev sShow : Stmt := top 36
abbrev nShow : List Str := ["term", "names"]
theorem scShow : FnScope nShow ["term", "names"] (defScope sShow) := ⟨rfl, rfl, rfl, by decide +kernel, rfl, by decide +kernel, by decide +kernel⟩
abbrev sClsF : Stmt := top 4
abbrev sInitF : Stmt := (clsB sClsF).headD (.Pass ⟨0, 0, 0, 0⟩)
theorem scInitF : FnScope ["self", "found"] ["self", "found"] (defScope sInitF) := ⟨rfl, rfl, rfl, by decide +kernel, rfl, by decide +kernel, by decide +kernel⟩
theorem scInitT : FnScope ["self", "found"] ["self", "found"] (defScope sInitT) := ⟨rfl, rfl, rfl, by decide +kernel, rfl, by decide +kernel, by decide +kernel⟩
theorem scInitN : FnScope ["self", "found"] ["self", "found"] (defScope sInitN) := ⟨rfl, rfl, rfl, by decide +kernel, rfl, by decide +kernel, by decide +kernel⟩
section
variable {P : Program} {w : World} {K : PySem.W.Frag} {mg : Str → Option Value} {base : Heap} {C C1 C2 C3 U U1 U2 fI fI1 fI2 : Addr} {fdI fdI1 fdI2 : FuncData}
theorem ok_initT {nm : Str} (Z : NoX K mg nm "NoTerm.__init__" sInitT C U fI fdI) : FnOk P w K mg base CX0 1 fI fdI ["self", "found"] (spErr C) := by
  refine Z.fn.ok scInitT (fun vs H Q E h => ?_) (fun cdv A outer s H vs Q E hr h => ?_)
  · obtain ⟨a, v, rfl, _⟩ := h
    rfl
  · obtain ⟨a, v, rfl, ha, k⟩ := h
    refine ⟨_, pss_cons (ps_expr (pe_upinit Z.up rfl Z.gU (pa_cons (pv 0) (pa_cons pe_str pa_nil)))) (pss_one (ps_ost (pv 0) (pv 1))), ?_⟩
    refine ⟨_, rfl, a, C, _, rfl, (by decide), Z.oex, ha, ?_⟩
    exact ⟨v, rfl, .ref a, rfl, a, C, rfl, Z.oex, Z.noF, Or.inl ⟨ha, fun dx n ne => k dx n ne⟩⟩
theorem ok_initN {nm : Str} (Z : NoX K mg nm "NoNumber.__init__" sInitN C U fI fdI) : FnOk P w K mg base CX0 1 fI fdI ["self", "found"] (spErr C) := by
  refine Z.fn.ok scInitN (fun vs H Q E h => ?_) (fun cdv A outer s H vs Q E hr h => ?_)
  · obtain ⟨a, v, rfl, _⟩ := h
    rfl
  · obtain ⟨a, v, rfl, ha, k⟩ := h
    refine ⟨_, pss_cons (ps_expr (pe_upinit Z.up rfl Z.gU (pa_cons (pv 0) (pa_cons pe_str pa_nil)))) (pss_one (ps_ost (pv 0) (pv 1))), ?_⟩
    refine ⟨_, rfl, a, C, _, rfl, (by decide), Z.oex, ha, ?_⟩
    exact ⟨v, rfl, .ref a, rfl, a, C, rfl, Z.oex, Z.noF, Or.inl ⟨ha, fun dx n ne => k dx n ne⟩⟩
theorem ok_initF {nm : Str} (Z : NoX K mg nm "NoFit.__init__" sInitF C U fI fdI) : FnOk P w K mg base CX0 1 fI fdI ["self", "found"] (spErr C) := by
  refine Z.fn.ok scInitF (fun vs H Q E h => ?_) (fun cdv A outer s H vs Q E hr h => ?_)
  · obtain ⟨a, v, rfl, _⟩ := h
    rfl
  · obtain ⟨a, v, rfl, ha, k⟩ := h
    refine ⟨_, pss_cons (ps_expr (pe_upinit Z.up rfl Z.gU (pa_cons (pv 0) (pa_cons pe_str pa_nil)))) (pss_one (ps_ost (pv 0) (pv 1))), ?_⟩
    refine ⟨_, rfl, a, C, _, rfl, (by decide), Z.oex, ha, ?_⟩
    exact ⟨v, rfl, .ref a, rfl, a, C, rfl, Z.oex, Z.noF, Or.inl ⟨ha, fun dx n ne => k dx n ne⟩⟩
def tWant (C : Addr) : List Sl → (Rv → Prop) → (Addr → Sl → Prop) → Prop := fun as Kr X => ∃ s d, as = [s] ∧ Isd s d ∧ okT d ∧ (tm d = true → Kr (.d .none)) ∧ (tm d = false → X C s)
def tWantW (C : Addr) : List Sl → (Rv → Prop) → (Addr → Sl → Prop) → Prop := fun as Kr X => ∃ s d lo hi, as = [s, .d (.int lo), .d (.int hi)] ∧ Isd s d ∧ (wholeB lo hi d = true → Kr (.d .none)) ∧ (wholeB lo hi d = false → X C s)
theorem scWant : FnScope ["thing"] ["thing"] (defScope sWant) := ⟨rfl, rfl, rfl, by decide +kernel, rfl, by decide +kernel, by decide +kernel⟩
theorem scWantW : FnScope ["thing", "low", "high"] ["thing", "low", "high"] (defScope sWantW) := ⟨rfl, rfl, rfl, by decide +kernel, rfl, by decide +kernel, by decide +kernel⟩
theorem ok_want {f : Addr} {fd : FuncData} (F : Fun K "want_term" "want_term" sWant f fd) (Z : NoX K mg "NoTerm" "NoTerm.__init__" sInitT C U fI fdI) (CT : C8.Cal P w K mg base 4 "is_term" (sp1 okT tm) []) : FnOk P w K mg base (L2.CX P w) 5 f fd ["thing"] (spX 1 (tWant C)) := by
  refine fn_x F scWant (body := fun cdv A outer s H E hr => ⟨_, pss_one (ps_if (pt_not (pt_val (C8.pe_c CT hr (by decide) rfl (pa_cons (pv 0) pa_nil)))) (pss_one (ps_raise rfl (takes_of rfl rfl rfl rfl) (pmk_oex Z.oex Z.iC Z.tI (ok_initT Z) (hr.mono (by decide)) Z.b .nil pass0 rfl Z.gC (pa_cons (pv 0) pa_nil)))) pss_nil), ?_⟩)
  rintro as Kr X _ ⟨s, d, rfl, is, ok, yes, no⟩
  have tst : Et _ ([s] ++ uns 0) (!tm d) ([s] ++ uns 0) := et_not (et_B (ev_sp1 (ok := okT) (f := tm) (E := C8.E0) (es_cons (ev_varD (i := 0) rfl is) es_nil) ok))
  cases ht : tm d with
  | true => exact Or.inl (sm_if tst (fun h => by rw [ht] at h; cases h) fun _ => sm_next (yes ht))
  | false => exact Or.inr ⟨C, s, _, no ht, rs_if tst (fun _ => rs_raise (ev_varI rfl is)) fun h => by rw [ht] at h; cases h⟩
theorem ev_wholeI {ρ ρ' : List Sl} {tr : TA} {d : PyData} {lo hi : Int} {E : XK} (h : Es tr ρ [.d d, .d (.int lo), .d (.int hi)] ρ') : Ev (tCall spWhole [] E tr) ρ (.d (.bool (wholeB lo hi d))) ρ' := fun c A σ H Q R f q =>
  h c A σ H _ R f fun vs A1 H1 R1 f1 S1 o1 => by
    match vs, o1 with
    | [v, l, h'], o1 =>
      obtain rfl := int_v o1.2.1
      obtain rfl := int_v o1.2.2.1
      exact ⟨v, d, lo, hi, rfl, Dn.mono vw_sub o1.1, fun H2 S2 => q _ A1 H2 (R1.up S2) f1 (S1.trans (vw_up S2)) (.bl _)⟩
theorem ok_wantw {f : Addr} {fd : FuncData} (F : Fun K "want_whole" "want_whole" sWantW f fd) (Z : NoX K mg "NoNumber" "NoNumber.__init__" sInitN C U fI fdI) (CW : C8.Cal P w K mg base 2 "is_whole" spWhole []) : FnOk P w K mg base (L2.CX P w) 5 f fd ["thing", "low", "high"] (spX 3 (tWantW C)) := by
  refine fn_x F scWantW (body := fun cdv A outer s H E hr => ⟨_, pss_one (ps_if (pt_not (pt_val (C8.pe_c CW hr (by decide) rfl (pa_cons (pv 0) (pa_cons (pv 1) (pa_cons (pv 2) pa_nil)))))) (pss_one (ps_raise rfl (takes_of rfl rfl rfl rfl) (pmk_oex Z.oex Z.iC Z.tI (ok_initN Z) (hr.mono (by decide)) Z.b .nil pass0 rfl Z.gC (pa_cons (pv 0) pa_nil)))) pss_nil), ?_⟩)
  rintro as Kr X _ ⟨s, d, lo, hi, rfl, is, yes, no⟩
  have tst : Et _ ([s, .d (.int lo), .d (.int hi)] ++ uns 0) (!wholeB lo hi d) ([s, .d (.int lo), .d (.int hi)] ++ uns 0) := et_not (et_B (ev_wholeI (E := C8.E0) (es_cons (ev_varD (i := 0) rfl is) (es_cons (ev_var (i := 1) rfl) (es_cons (ev_var (i := 2) rfl) es_nil)))))
  cases ht : wholeB lo hi d with
  | true => exact Or.inl (sm_if tst (fun h => by rw [ht] at h; cases h) fun _ => sm_next (yes ht))
  | false => exact Or.inr ⟨C, s, _, no ht, rs_if tst (fun _ => rs_raise (ev_varI rfl is)) fun h => by rw [ht] at h; cases h⟩
theorem want_yes {C : Addr} {s : Sl} {d : PyData} (is : Isd s d) (ok : okT d) (h : tm d = true) : tWant C [s] (fun r => r = .d .none) fun _ _ => False := ⟨s, d, rfl, is, ok, fun _ => rfl, fun z => by rw [h] at z; cases z⟩
theorem want_no {C : Addr} {s : Sl} {d : PyData} (is : Isd s d) (ok : okT d) (h : tm d = false) : tWant C [s] (fun _ => False) fun C' s' => C' = C ∧ s' = s := ⟨s, d, rfl, is, ok, (fun z => by rw [h] at z; cases z), fun _ => ⟨rfl, rfl⟩⟩
theorem wantw_yes {C : Addr} {s : Sl} {d : PyData} {lo hi : Int} (is : Isd s d) (h : wholeB lo hi d = true) : tWantW C [s, .d (.int lo), .d (.int hi)] (fun r => r = .d .none) fun _ _ => False := ⟨s, d, lo, hi, rfl, is, fun _ => rfl, fun z => by rw [h] at z; cases z⟩
theorem wantw_no {C : Addr} {s : Sl} {d : PyData} {lo hi : Int} (is : Isd s d) (h : wholeB lo hi d = false) : tWantW C [s, .d (.int lo), .d (.int hi)] (fun _ => False) fun C' s' => C' = C ∧ s' = s := ⟨s, d, lo, hi, rfl, is, (fun z => by rw [h] at z; cases z), fun _ => ⟨rfl, rfl⟩⟩
theorem whole_int {lo hi : Int} {d : PyData} (h : wholeB lo hi d = true) : ∃ i, d = .int i ∧ lo ≤ i ∧ i ≤ hi := by
  cases d <;> first | (cases h; done) | skip
  rename_i i
  have h : (decide (lo ≤ i) && decide (i ≤ hi)) = true := h
  simp only [Bool.and_eq_true, decide_eq_true_eq] at h
  exact ⟨i, rfl, h.1, h.2⟩
def tShowX (C1 C2 C3 : Addr) : List Sl → (Rv → Prop) → (Addr → Sl → Prop) → Prop := fun as Kr X => ∃ s1 s2 d b, as = [s1, s2] ∧ Isd s1 d ∧ Isd s2 b ∧ okT d ∧
  (tm d = false → X C1 s1) ∧ (tm d = true → wholeB 0 100 b = false → X C2 s2) ∧ (tm d = true → wholeB 0 100 b = true → ∃ (t : Tm) (n : Nat), d = t.d ∧ b = .int (n : Int) ∧ t.ok = true ∧ t.sz ≤ 30000 ∧ (fr 0 t).length < 64 ∧ (((fr 0 t).all fun i => decide (i < n)) = false → X C3 s1) ∧ (((fr 0 t).all fun i => decide (i < n)) = true → Gd (List.replicate n true) t ∧ n ≤ 1000 ∧ Kr (.d (.str (shS n t)))))
theorem ok_show {f : Addr} {fd : FuncData} {dvs : List V} {kws : List (Str × V)} (F : FunD K "show" "show" (defArgs sShow) (defBody sShow) (defScope sShow) dvs kws f fd) (TP : TxtP K mg) (Z : NoX K mg "NoFit" "NoFit.__init__" sInitF C3 U fI fdI)
    (C_want : CalX P w K mg base 5 "want_term" ["thing"] (spX 1 (tWant C1))) (C_wantw : CalX P w K mg base 5 "want_whole" ["thing", "low", "high"] (spX 3 (tWantW C2))) (C_fits : C8.Cal P w K mg base 4 "fits" (spD 2 tFits) []) (C_shown : C8.Cal P w K mg base 5 "shown" (spD 2 tShown) []) :
    FnOk P w K mg base (L2.CX P w) 6 f fd ["term", "names"] (spX 2 (tShowX C1 C2 C3)) := by
  refine fn_xD F scShow (body := fun cdv A outer s H E hr => ⟨_, pss_cons (ps_expr (pe_x C_want (takes_of rfl rfl rfl rfl) hr (by decide) rfl (pa_cons (pv 0) pa_nil))) (pss_cons (ps_expr (pe_x C_wantw (takes_of rfl rfl rfl rfl) hr (by decide) rfl (pa_cons (pv 1) (pa_cons pe_int (pa_cons (C8.pe_gc rfl TP.most_names) pa_nil))))) (pss_cons (ps_if (pt_not (pt_val (C8.pe_c C_fits hr (by decide) rfl (pa_cons (pv 0) (pa_cons (pv 1) pa_nil))))) (pss_one (ps_raise rfl (takes_of rfl rfl rfl rfl) (pmk_oex Z.oex Z.iC Z.tI (ok_initF Z) (hr.mono (by decide)) Z.b .nil pass0 rfl Z.gC (pa_cons (pv 0) pa_nil)))) pss_nil) (pss_one (ps_ret (C8.pe_c C_shown hr (by decide) rfl (pa_cons (pv 0) (pa_cons (pv 1) pa_nil))))))), ?_⟩)
  rintro as Kr X _ ⟨s1, s2, d, b, rfl, i1, i2, ok, n1, n2, yes⟩
  cases ht : tm d with
  | false => exact Or.inr ⟨C1, s1, _, n1 ht, rs_seq1 (rs_drop (re_call (es_cons (ev_varI rfl i1) es_nil) rfl (want_no i1 ok ht)))⟩
  | true =>
    have a1 : ∀ {E' : L2.St → XK}, Ev (tCallS (spX 1 (tWant C1)) E' (tCons (tVar 0) tNil)) [s1, s2] (.d .none) [s1, s2] := fun {_} => ev_callX (es_cons (ev_varI rfl i1) es_nil) rfl (want_yes i1 ok ht)
    have e2 : Es (tCons (tVar 1) (tCons (tC (.int 0)) (tCons (tC (.int 100)) tNil))) [s1, s2] [s2, .d (.int 0), .d (.int 100)] [s1, s2] := es_cons (ev_varI rfl i2) (es_cons ev_int (es_cons ev_int es_nil))
    cases hb : wholeB 0 100 b with
    | false => exact Or.inr ⟨C2, s2, [s1, s2], n2 ht hb, rs_seq (sm_drop a1 (rs_seq1 (W := fun cls d _ H => E cls d H) (rs_drop (re_call e2 rfl (wantw_no i2 hb)))))⟩
    | true =>
      obtain ⟨t, n, rfl, rfl, tok, tsz, tfr, no, good⟩ := yes ht hb
      have tst : Et _ [s1, s2] (!((fr 0 t).all fun i => decide (i < n))) [s1, s2] := et_not (et_B (ev_call (E := C8.E0) (T := tFits) (x := .bool ((fr 0 t).all fun i => decide (i < n))) (es_cons (ev_varD (i := 0) rfl i1) (es_cons (ev_varD (i := 1) rfl i2) es_nil)) ar_nil rfl ⟨t, n, rfl, tok, by omega, tfr, rfl⟩))
      cases hf : (fr 0 t).all fun i => decide (i < n) with
      | false => exact Or.inr ⟨C3, s1, [s1, s2], no hf, rs_seq (sm_drop a1 (rs_seq (W := fun cls d _ H => E cls d H) (sm_drop (s := .d .none) (ev_callX e2 rfl (wantw_yes i2 hb)) (rs_seq1 (W := fun cls d _ H => E cls d H) (rs_if tst (fun _ => rs_raise (ev_varI rfl i1)) fun h => by rw [hf] at h; cases h)))))⟩
      | true =>
        obtain ⟨g, hn, k⟩ := good hf
        exact Or.inl (sm_seq (sm_drop a1 (sm_seq (sm_drop (s := .d .none) (ev_callX e2 rfl (wantw_yes i2 hb)) (sm_seq (sm_if tst (fun h => by rw [hf] at h; cases h) (fun _ => sm_next (sm_ret (ev_call (es_cons (ev_varD rfl i1) (es_cons (ev_varD rfl i2) es_nil)) ar_nil rfl ⟨t, n, rfl, g, hn, tsz, rfl⟩) k))))))))
end
end KP
set_option Elab.async false
set_option linter.unusedVariables false
set_option linter.unusedSectionVars false
set_option maxRecDepth 100000
set_option maxHeartbeats 2000000
namespace OW
open PySem PySem.Spec PyProof.Rows L2 KA
variable [Tbs]
/-! ### a def that is handed a list at a known address, and changes it -/
def spA (n : Nat) (T : Addr → List PyData → List Sl → (Rv → List PyData → Prop) → Prop) : Sp := fun vs H Q _ => ∃ (Z : Addr → Prop) (p : Addr) (cs : List V) (ct : List PyData) (as : List Sl) (K : Rv → List PyData → Prop), Z p ∧ ZOk Z H ∧ H p = some (.lst cs) ∧ DnAll (hz Z H) cs ct ∧ ArAll (hz Z H) vs as ∧ as.length = n ∧ T p ct as K ∧
  ∀ r c' cs' v H', K r c' → H' p = some (.lst cs') → DnAll (hz Z H') cs' c' → ((∀ a, Z a → a ≠ p → ¬ tabA a → H' a = H a) ∧ Tb (hz Z H') H') → Same (hz Z H) (hz Z H') → RvOk Z H H' v r → Q v H'
section
variable {c : Fr} {A : Am} {ρ ρ' ρ1 ρ2 : List Sl} {σ : L2.St} {H H' : Hp}
theorem rp_startA {N : List Str} {vs cs : List V} {ct : List PyData} {as : List Sl} {n j : Nat} {Z : Addr → Prop} {p : Addr} (hN : n + N.length < fl) (hp : Z p) (hZ : ZOk Z H) (ep : H p = some (.lst cs)) (dc : DnAll (hz Z H) cs ct) (ha : ArAll (hz Z H) vs as) (hl : as.length = n) (hj : as[j]? = some (.p (isV (.ref p)))) :
    Rp ⟨fun a => Z a ∧ a ≠ p, none, H, hz Z H⟩ (aset (fun _ => none) j (some p)) ((as ++ uns (N.length - n)).set j (.la p ct)) (start N vs) H := by
  have R := rp_start (N := N) (n := n) (Z := Z) hN hZ ha hl
  have hv : vw (fun a => Z a ∧ a ≠ p) (aset (fun _ => none) j (some p)) H = hz Z H := by
    funext b
    by_cases z : Z b
    · have e2 : hz Z H b = none := by unfold hz vw; rw [if_pos (Or.inl z)]
      rw [e2]
      unfold vw
      rw [if_pos]
      by_cases q : b = p
      · exact Or.inr ⟨j, by rw [q]; exact aset_at⟩
      · exact Or.inl ⟨z, q⟩
    · have e2 : hz Z H b = H b := by
        unfold hz vw
        rw [if_neg]
        rintro (q | ⟨i, q⟩)
        · exact z q
        · cases q
      rw [e2]
      unfold vw
      rw [if_neg]
      rintro (q | ⟨i, q⟩)
      · exact z q.1
      · by_cases i0 : i = j
        · rw [i0, aset_at] at q
          cases q
          exact z hp
        · rw [aset_ne i0] at q
          cases q
  have one : ∀ {i : Nat} {a : Addr}, aset (fun _ => none) j (some p) i = some a → i = j ∧ a = p := fun {i a} q => by
    by_cases i0 : i = j
    · rw [i0, aset_at] at q
      exact ⟨i0, (Option.some.inj q).symm⟩
    · rw [aset_ne i0] at q
      cases q
  have tp : ∀ b, tabA b → b ≠ p := fun b t q => by
    obtain ⟨ps, g⟩ := hZ.tb.at_ t
    rw [q, ep] at g
    cases g
  have jl : j < (as ++ uns (N.length - n)).length := by
    have := (List.getElem?_eq_some_iff.mp hj).1
    rw [List.length_append]
    omega
  refine ⟨by rw [List.length_set]; exact R.len, by rw [List.length_set]; exact R.sz, ?_, ?_, ?_, ?_, by rw [hv]; exact Same.refl _, (fun q e => by cases e), ?_, fun b t => ⟨hZ.tz b t, tp b t⟩, by rw [hv]; exact hZ.tb⟩
  · intro i j a e e'
    rw [(one e).1, (one e').1]
  · intro i a e z
    exact z.2 (one e).2
  · intro i a e
    rw [(one e).2, ep]
    simp
  · intro a z _
    exact ⟨hZ.there a z.1, rfl⟩
  · intro i s e
    rw [hv]
    have hv0 : vw Z (fun _ => none) H = hz Z H := rfl
    by_cases q : i = j
    · subst q
      rw [List.getElem?_set_self jl] at e
      cases e
      have e0 : (as ++ uns (N.length - n))[i]? = some (.p (isV (.ref p))) := by
        rw [List.getElem?_append_left (List.getElem?_eq_some_iff.mp hj).1]
        exact hj
      obtain ⟨_, v, e1, hv1⟩ := R.sl i _ e0
      obtain rfl := isv_v hv1
      exact ⟨cs, aset_at, e1, ep, dc⟩
    · rw [List.getElem?_set_ne (fun z => q z.symm)] at e
      rw [aset_ne q]
      exact R.sl i s e
/-- the list comes back changed -/
theorem Rp.backA (R : Rp c A ρ σ H) {i : Nat} {p : Addr} {c0 c1 : List PyData} {cs : List V} (h : ρ[i]? = some (.la p c0) ∨ ρ[i]? = some (.wa p c0)) (e : A i = some p) (e' : H' p = some (.lst cs)) (dx : DnAll (hz (zz c.Z A) H') cs c1) (hz' : (∀ a, zz c.Z A a → a ≠ p → ¬ tabA a → H' a = H a) ∧ Tb (hz (zz c.Z A) H') H') (S : Same (hz (zz c.Z A) H) (hz (zz c.Z A) H')) :
    Rp c A (ρ.set i (match ρ[i]? with | some (.la _ _) => .la p c1 | _ => .wa p c1)) σ H' := by
  have ev : vw c.Z A (fun b => if b = p then H p else H' b) = vw c.Z A H' := by
    funext b
    unfold vw
    split
    · rfl
    · rename_i q
      have : b ≠ p := fun z => q (Or.inr ⟨i, z ▸ e⟩)
      exact if_neg this
  have S2 : Aft (zz c.Z A) H (fun b => if b = p then H p else H' b) := by
    refine ⟨fun b o z t => ?_, ?_⟩
    · show (if b = p then H p else H' b) = some o
      by_cases q : b = p
      · rw [if_pos q, ← q]
        exact z
      · rw [if_neg q]
        by_cases q' : zz c.Z A b
        · rw [hz'.1 b q' q t]
          exact z
        · exact (hz_some (S _ _ (hz_mk q' z))).2
    · have t := hz'.2
      rw [hz_eq] at t ⊢
      rw [ev]
      exact t.mono (Same.refl _) fun b hb => if_neg (show ¬ b = p from fun q => R.nt e (q ▸ hb))
  have R2 := R.upA S2
  have hi : i < ρ.length := by rcases h with h | h <;> exact (List.getElem?_eq_some_iff.mp h).1
  have R3 := R2.mutO (s := (match ρ[i]? with | some (.la _ _) => Sl.la p c1 | _ => Sl.wa p c1)) (o := .lst cs) hi e (fun H2 h2 => by
    rcases h with h | h
    · rw [h]
      obtain ⟨vs, e1, e2, _, _⟩ := R.sl i _ h
      exact ⟨cs, rfl, e2, h2, by rw [ev, ← hz_eq]; exact dx⟩
    · rw [h]
      exact ⟨cs, rfl, h2, by rw [ev, ← hz_eq]; exact dx⟩)
  have e3 : upd (fun b => if b = p then H p else H' b) p (.lst cs) = H' := by
    funext b
    by_cases q : b = p
    · rw [q, upd_same, e']
    · rw [upd_ne q]
      exact if_neg q
  rw [e3] at R3
  exact R3
theorem ev_varA {i : Nat} {a : Addr} {xs : List PyData} (h : ρ[i]? = some (.la a xs)) : Ev (tVar i) ρ (.p (isV (.ref a))) ρ := fun c A σ H Q R f q => by
  obtain ⟨vs, e, e1, e2, dx⟩ := R.sl i _ h
  exact ⟨_, e1, q _ A H R f (Same.refl _) rfl⟩
theorem ev_callAl {n i : Nat} {p : Addr} {c0 c1 : List PyData} {x : PyData} {ss : List Sl} {tr : TA} {E : XK} {T : Addr → List PyData → List Sl → (Rv → List PyData → Prop) → Prop} (h : Es tr ρ ss ρ1) (hi : ρ1[i]? = some (.la p c0)) (hn : ss.length = n) (g : T p c0 ss fun r c' => r = .d x ∧ c' = c1) :
    Ev (tCall (spA n T) [] E tr) ρ (.d x) (ρ1.set i (.la p c1)) := fun c A σ H Q R f q =>
  h c A σ H _ R f fun vs A1 H1 R1 f1 S1 o1 => by
    obtain ⟨cs, ep, e1, eH, dc⟩ := R1.sl i _ hi
    refine ⟨zz c.Z A1, p, cs, c0, ss, _, Or.inr ⟨i, ep⟩, zz_ok R1, eH, by rw [hz_eq]; exact dc, by rw [hz_eq, List.append_nil]; exact o1, hn, g, fun r c' cs' v H' hr e' dc' k S o => ?_⟩
    obtain ⟨rfl, rfl⟩ := hr
    have o : Dn (hz (zz c.Z A1) H') v x := o
    have R2 := R1.backA (Or.inl hi) ep e' dc' k S
    rw [hi] at R2
    rw [hz_eq] at o
    exact q v A1 H' R2 f1 (S1.trans (vw_back S)) o
theorem ev_callAw {n i : Nat} {p : Addr} {c0 c1 : List PyData} {x : PyData} {ss : List Sl} {tr : TA} {E : XK} {T : Addr → List PyData → List Sl → (Rv → List PyData → Prop) → Prop} (h : Es tr ρ ss ρ1) (hi : ρ1[i]? = some (.wa p c0)) (hn : ss.length = n) (g : T p c0 ss fun r c' => r = .d x ∧ c' = c1) :
    Ev (tCall (spA n T) [] E tr) ρ (.d x) (ρ1.set i (.wa p c1)) := fun c A σ H Q R f q =>
  h c A σ H _ R f fun vs A1 H1 R1 f1 S1 o1 => by
    obtain ⟨cs, ep, eH, dc⟩ := R1.sl i _ hi
    refine ⟨zz c.Z A1, p, cs, c0, ss, _, Or.inr ⟨i, ep⟩, zz_ok R1, eH, by rw [hz_eq]; exact dc, by rw [hz_eq, List.append_nil]; exact o1, hn, g, fun r c' cs' v H' hr e' dc' k S o => ?_⟩
    obtain ⟨rfl, rfl⟩ := hr
    have o : Dn (hz (zz c.Z A1) H') v x := o
    have R2 := R1.backA (Or.inr hi) ep e' dc' k S
    rw [hi] at R2
    rw [hz_eq] at o
    exact q v A1 H' R2 f1 (S1.trans (vw_back S)) o
end
section
variable {P : Program} {w : World} {K : PySem.W.Frag} {mg : Str → Option Value} {base : Heap}
theorem fn_aG {x qual : Str} {st : Stmt} {f : Addr} {fd : FuncData} {N ps : List Str} {k n : Nat} {T : Addr → List PyData → List Sl → (Rv → List PyData → Prop) → Prop} (j : Nat) (F : Fun K x qual st f fd) (S : FnScope N ps (defScope st)) (hj : ∀ p ct as Kr, T p ct as Kr → as[j]? = some (.p (isV (.ref p)))) (hn : ps.length = n := by rfl) (hN : n + N.length < fl := by decide)
    (body : ∀ (cdv : Value) (A : Around) (outer : List Env) (s : Shared) (H : Hp) (E : XK), A.guards = some [] → Room k (A.deeper (envOfC qual (defScope st) s.heap.objs.size f cdv)) →
      ∃ t, PSs (cxOf CX0 P w K mg base N qual (defScope st) f cdv A outer s H E) (defBody st) t ∧ ∀ p ct as Kr, as.length = n → T p ct as Kr →
        Sm t ((as ++ uns (N.length - n)).set j (.la p ct)) { nx := fun ρ => ∃ c', ρ[j]? = some (.la p c') ∧ Kr (.d .none) c', rt := fun r ρ => ∃ c', ρ[j]? = some (.la p c') ∧ Kr r c' }) :
    FnG P w K mg base CX0 (k + 1) f fd ps (spA n T) := by
  refine fnG F S (fun vs H Q E h => ?_) (fun cdv A outer s H vs Q E g hr h => ?_)
  · obtain ⟨Z, p, cs, ct, as, Kr, hp, hZ, ep, dc, ha, hl, _⟩ := h
    rw [ha.length, hl, hn]
  · obtain ⟨Z, p, cs, ct, as, Kr, hp, hZ, ep, dc, ha, hl, hT, go⟩ := h
    obtain ⟨t, ht, hb⟩ := body cdv A outer s H E g hr
    have hjp := hj _ _ _ _ hT
    have jn : j < n := by rw [← hl]; exact (List.getElem?_eq_some_iff.mp hjp).1
    refine ⟨t, ht, hb p ct as Kr hl hT ⟨fun a => Z a ∧ a ≠ p, none, H, hz Z H⟩ _ _ H _ (rp_startA hN hp hZ ep dc ha hl hjp) (by rw [aset_ne (by omega)]) ?_⟩
    have fin : ∀ {A' : Am} {ρ' : List Sl} {σ' : L2.St} {H' : Hp} {c' : List PyData} {r : Rv} {v : V}, Rp ⟨fun a => Z a ∧ a ≠ p, none, H, hz Z H⟩ A' ρ' σ' H' → ρ'[j]? = some (.la p c') → Kr r c' → RvAt ⟨fun a => Z a ∧ a ≠ p, none, H, hz Z H⟩ A' H' v r → Q v H' := by
      intro A' ρ' σ' H' c' r v R h0 hk o
      obtain ⟨cs', e1, e2, e3, dc'⟩ := R.sl j _ h0
      have up : Same (vw (fun b => Z b ∧ b ≠ p) A' H') (hz Z H') := fun b u e => by
        obtain ⟨h1, h2, h3⟩ := vw_some e
        refine hz_mk (fun z => h1 ⟨z, fun q => h2 j (by rw [q]; exact e1)⟩) h3
      refine go r c' cs' v H' hk e3 (DnAll.mono up dc') ⟨fun b z n t => (R.keep b ⟨z, n⟩ t).2, R.tb.mono up fun _ _ => rfl⟩ (fun b u e => up _ _ (R.old _ _ e)) ?_
      refine rv_out (fun b u e nz _ => R.old _ _ (hz_mk nz e)) (fun b z => ?_) R.inj R.off R.bor o
      by_cases q : b = p
      · exact Or.inr ⟨j, by omega, by rw [q]; exact e1⟩
      · exact Or.inl ⟨z, q⟩
    refine ⟨fun ρ' A' σ' H' hk R f => ?_, fun r ρ' v A' σ' H' hk R o => ?_, fun _ _ _ _ h => h.elim, fun _ _ _ _ h => h.elim⟩
    · obtain ⟨c', h0, hk⟩ := hk
      exact fin R h0 hk ⟨f, .non⟩
    · obtain ⟨c', h0, hk⟩ := hk
      exact fin R h0 hk o
end
end OW
set_option Elab.async false
set_option linter.unusedVariables false
set_option linter.unusedSectionVars false
set_option maxRecDepth 100000
set_option maxHeartbeats 2000000
namespace OW
open PySem PySem.Spec PyProof.Rows L2 KA
variable [Tbs]
/-! ### a def that is handed data, or a list at a known address -/
def spU (n : Nat) (T1 : List Sl → (Rv → Prop) → Prop) (T2 : Addr → List PyData → List Sl → (Rv → List PyData → Prop) → Prop) : Sp := fun vs H Q E => spD n T1 vs H Q E ∨ spA n T2 vs H Q E
theorem FnG.orU {P : Program} {w : World} {K : PySem.W.Frag} {mg : Str → Option Value} {base : Heap} {k n : Nat} {f : Addr} {fd : FuncData} {ps : List Str} {T1 : List Sl → (Rv → Prop) → Prop} {T2 : Addr → List PyData → List Sl → (Rv → List PyData → Prop) → Prop}
    (F1 : FnG P w K mg base CX0 k f fd ps (spD n T1)) (F2 : FnG P w K mg base CX0 k f fd ps (spA n T2)) : FnG P w K mg base CX0 k f fd ps (spU n T1 T2) := by
  refine ⟨fun vs H Q E h => h.elim (F1.len vs H Q E) (F2.len vs H Q E), fun A outer s H args us vs Q E g hr e0 bt rv h => ?_⟩
  rcases h with h | h
  · exact F1.run A outer s H args us vs Q E g hr e0 bt rv h
  · exact F2.run A outer s H args us vs Q E g hr e0 bt rv h
section
variable {c : Fr} {A : Am} {ρ ρ' ρ1 ρ2 : List Sl} {σ : L2.St} {H H' : Hp} {te ta tb ti : TE} {s : Sl} {x : PyData} {i j k n : Nat} {tr : TA} {xs : List PyData} {ss : List Sl} {K : KK} {a p : Addr} {KF : PySem.W.Frag} {c0 c1 : List PyData} {E : XK}
  {T1 : List Sl → (Rv → Prop) → Prop} {T2 : Addr → List PyData → List Sl → (Rv → List PyData → Prop) → Prop}
theorem ev_callU (h : Es tr ρ ss ρ') (hn : ss.length = n) (g : T1 ss fun r => r = .d x) : Ev (tCall (spU n T1 T2) [] E tr) ρ (.d x) ρ' := fun c A σ H Q R f q =>
  h c A σ H _ R f fun vs A1 H1 R1 f1 S1 o1 => by
    refine Or.inl ⟨zz c.Z A1, ss, _, zz_ok R1, by rw [hz_eq, List.append_nil]; exact o1, hn, g, fun r v H' hr S o => ?_⟩
    subst hr
    have o : Dn (hz (zz c.Z A1) H') v x := o
    rw [hz_eq] at o
    exact q v A1 H' (R1.upA S) f1 (S1.trans (vw_upA R1 S)) o
theorem ev_callUl (h : Es tr ρ ss ρ1) (hi : ρ1[i]? = some (.la p c0)) (hn : ss.length = n) (g : T2 p c0 ss fun r c' => r = .d x ∧ c' = c1) :
    Ev (tCall (spU n T1 T2) [] E tr) ρ (.d x) (ρ1.set i (.la p c1)) := fun c A σ H Q R f q =>
  h c A σ H _ R f fun vs A1 H1 R1 f1 S1 o1 => by
    obtain ⟨cs, ep, e1, eH, dc⟩ := R1.sl i _ hi
    refine Or.inr ⟨zz c.Z A1, p, cs, c0, ss, _, Or.inr ⟨i, ep⟩, zz_ok R1, eH, by rw [hz_eq]; exact dc, by rw [hz_eq, List.append_nil]; exact o1, hn, g, fun r c' cs' v H' hr e' dc' k S o => ?_⟩
    obtain ⟨rfl, rfl⟩ := hr
    have o : Dn (hz (zz c.Z A1) H') v x := o
    have R2 := R1.backA (Or.inl hi) ep e' dc' k S
    rw [hi] at R2
    rw [hz_eq] at o
    exact q v A1 H' R2 f1 (S1.trans (vw_back S)) o
theorem ev_callUw (h : Es tr ρ ss ρ1) (hi : ρ1[i]? = some (.wa p c0)) (hn : ss.length = n) (g : T2 p c0 ss fun r c' => r = .d x ∧ c' = c1) :
    Ev (tCall (spU n T1 T2) [] E tr) ρ (.d x) (ρ1.set i (.wa p c1)) := fun c A σ H Q R f q =>
  h c A σ H _ R f fun vs A1 H1 R1 f1 S1 o1 => by
    obtain ⟨cs, ep, eH, dc⟩ := R1.sl i _ hi
    refine Or.inr ⟨zz c.Z A1, p, cs, c0, ss, _, Or.inr ⟨i, ep⟩, zz_ok R1, eH, by rw [hz_eq]; exact dc, by rw [hz_eq, List.append_nil]; exact o1, hn, g, fun r c' cs' v H' hr e' dc' k S o => ?_⟩
    obtain ⟨rfl, rfl⟩ := hr
    have o : Dn (hz (zz c.Z A1) H') v x := o
    have R2 := R1.backA (Or.inr hi) ep e' dc' k S
    rw [hi] at R2
    rw [hz_eq] at o
    exact q v A1 H' R2 f1 (S1.trans (vw_back S)) o
/-- such a list gets a text put behind -/
theorem sm_appS {z : Str} (h0 : ρ[k]? = some (.la a xs)) (len : xs.length < sizeLine) (q : K.nx (ρ.set k (.la a (xs ++ [.str z])))) : Sm (tDrop (tBM KF "list" rAppend (tVar k) (tCons (tC (.str z)) tNil))) ρ K := fun c A σ H D R f dk => by
  obtain ⟨vs, e, e1, e2, dx⟩ := R.sl k _ h0
  exact ⟨_, e1, Or.inl ⟨rfl, vs, SqL.of e2⟩, a, vs, .str z, rfl, rfl, e2, by rw [dx.length]; exact len, dk.nx _ _ _ _ q (R.mutA h0 (dx.snoc (.str z))) f⟩
theorem ev_prB {b : Bool} (h : ∀ (c : Fr) (A : Am) (σ : L2.St) (H : Hp), Rp c A ρ σ H → Pr te σ H (.d (.bool b))) : Ev te ρ (.d (.bool b)) ρ := fun c A σ H Q R f q =>
  h c A σ H R H (Same.refl _) _ fun v H2 S o => by
    obtain rfl := bool_v o
    exact q _ A H2 (R.up S) f (vw_up S) (.bl b)
/-! ### a display with new lists, for each of which a slot is kept -/
def EsX (ta : TA) (ρ : List Sl) (G : List Sl → List Sl → Prop) : Prop := ∀ (c : Fr) (A : Am) (σ : L2.St) (H : Hp) (Q : List V → Hp → Prop), Rp c A ρ σ H → A fl = none →
  (∀ ss ρ' vs A' H', G ss ρ' → Rp c A' ρ' σ H' → A' fl = none → Same (vw c.Z A H) (vw c.Z A' H') → ArAll (vw c.Z A' H') vs ss → Q vs H') → ta σ H Q
theorem esx_nil {G : List Sl → List Sl → Prop} (g : G [] ρ) : EsX tNil ρ G := fun c A σ H Q R f q => q _ _ _ A H g R f (Same.refl _) trivial
theorem esx_cons {G : List Sl → List Sl → Prop} (h : Ev te ρ s ρ1) (g : EsX tr ρ1 fun ss ρ' => G (s :: ss) ρ') : EsX (tCons te tr) ρ G := fun c A σ H Q R f q =>
  h c A σ H _ R f fun v A1 H1 R1 f1 S1 o1 => g c A1 σ H1 _ R1 f1 fun ss ρ' vs A2 H2 hG R2 f2 S2 o2 => q _ ρ' (v :: vs) A2 H2 hG R2 f2 (S1.trans S2) ⟨o1.mono S2, o2⟩
theorem esx_es {G : List Sl → List Sl → Prop} (h : Es tr ρ ss ρ1) (g : G ss ρ1) : EsX tr ρ G := fun c A σ H Q R f q =>
  h c A σ H _ R f fun vs A1 H1 R1 f1 S1 o1 => q _ _ vs A1 H1 g R1 f1 S1 o1
theorem esx_new {G : List Sl → List Sl → Prop} (h : El te ρ xs ρ1) (g : ∀ a, EsX tr (ρ1.set i (.wa a xs)) fun ss ρ' => G (.p (isV (.ref a)) :: ss) ρ') (i0 : i ≠ 0 := by decide) (hi : i < ρ1.length := by simp [uns]) : EsX (tCons te tr) ρ G := fun c A σ H Q R f q =>
  h c A σ H _ R f fun a vs A1 H1 R1 f1 S1 e dx => by
    have R2 := R1.keepA i0 hi f1 e dx
    have S2 : Same (vw c.Z A1 H1) (vw c.Z (aset (aset A1 i (some a)) fl none) H1) := vw_less fun k b z => by
      by_cases q : k = fl
      · rw [q, aset_at] at z
        cases z
      · rw [aset_ne q] at z
        by_cases q' : k = i
        · rw [q', aset_at] at z
          cases z
          exact ⟨fl, f1⟩
        · rw [aset_ne q'] at z
          exact ⟨k, z⟩
    exact g a c _ σ H1 _ R2 aset_at fun ss ρ' us A3 H3 hG R3 f3 S3 o3 => q _ ρ' (.ref a :: us) A3 H3 hG R3 f3 ((S1.trans S2).trans S3) ⟨rfl, o3⟩
theorem sm_setX (h : EsX tr ρ fun ss ρ1 => ss.length ≤ sizeLine ∧ i < ρ1.length ∧ K.nx (ρ1.set i (.lm (arL ss)))) (i0 : i ≠ 0 := by decide) : Sm (tAsg (tLst tr) (gName i)) ρ K := fun c A σ H D R f dk =>
  h c A σ H _ R f fun ss ρ1 vs A1 H1 ⟨len, hi, k⟩ R1 f1 S1 o1 => ⟨by rw [o1.length]; exact len, fun a ha =>
    dk.nx _ _ _ _ k ((R1.fly ha).setO (s := .lm (arL ss)) i0 hi aset_at fun W S => ⟨a, vs, rfl, rfl, upd_same, o1.mono ((vw_fly ha).trans S)⟩) aset_at⟩
/-- one of such a list -/
theorem ev_pickM {z : Int} (h : ρ[i]? = some (.lm (arL ss))) (hi : Ev ti ρ (.d (.int z)) ρ1) (h' : ρ1[i]? = some (.lm (arL ss))) (ez : z = (k : Int)) (e : ss[k]? = some s) : Ev (tOp (rIxL KF) (tVar i) ti) ρ s ρ1 := fun c A σ H Q R f q => by
  obtain ⟨b, us, e0, e1, e2, o⟩ := R.sl i _ h
  refine ⟨_, e1, hi c A σ H _ R f fun w A1 H1 R1 f1 S1 o1 => ?_⟩
  obtain rfl := int_v o1
  obtain ⟨b', us', g0, g1, g2, o'⟩ := R1.sl i _ h'
  rw [e1] at g1
  cases g1
  obtain ⟨v, hv, ov⟩ := arAll_at (show ArAll (vw c.Z A1 H1) us' ss from o') e
  subst ez
  exact ⟨b, us', _, v, rfl, rfl, SqL.of g2, at_of rfl hv, q v A1 H1 R1 f1 S1 ov⟩
/-- a variable that is only assigned, whose slot is kept -/
theorem tg_keepW (h : ρ[i]? = some (.wa a xs)) : Tg (gName i) s ρ ρ := fun c A σ H v Q R f o q => by
  refine q A _ H ⟨by rw [List.length_set]; exact R.len, R.sz, R.inj, R.off, R.live, R.keep, R.old, R.bor, (fun j t z => ?_), R.tz, R.tb⟩ f (Same.refl _)
  by_cases e : j = i
  · subst e
    rw [h] at z
    cases z
    exact R.sl j _ h
  · rw [List.getElem?_set_ne (Ne.symm e)]
    exact R.sl j t z
/-! ### a pair of a word and a thing, by places -/
theorem ev_pair0 {z : Str} (h : Ev te ρ (.p (pairMo z s)) ρ1) : Ev (tOp (rIxT KF) te (tC (.int 0))) ρ (.d (.str z)) ρ1 := fun c A σ H Q R f q =>
  h c A σ H _ R f fun u A1 H1 R1 f1 S1 ⟨t, v, e, h1, o⟩ => by
    subst e
    exact ⟨t, [.str z, v], 0, .str z, rfl, rfl, SqT.of (vw_sub _ _ h1), rfl, q _ A1 H1 R1 f1 S1 (.str z)⟩
theorem ev_pair1 {z : Str} (h : Ev te ρ (.p (pairMo z s)) ρ1) : Ev (tOp (rIxT KF) te (tC (.int 1))) ρ s ρ1 := fun c A σ H Q R f q =>
  h c A σ H _ R f fun u A1 H1 R1 f1 S1 ⟨t, v, e, h1, o⟩ => by
    subst e
    exact ⟨t, [.str z, v], 1, v, rfl, rfl, SqT.of (vw_sub _ _ h1), rfl, q v A1 H1 R1 f1 S1 o⟩
end
end OW
set_option Elab.async false
set_option linter.unusedVariables false
set_option linter.unusedSectionVars false
set_option maxRecDepth 100000
set_option maxHeartbeats 2000000
namespace OW
open PySem PySem.Spec PyProof.Rows L2 KA
variable [Tbs]
/-! ### a call by names of a def that may refuse -/
def tCallXN (n m : Nat) (sp : Sp) (gV : List V → List V → List V) (E : L2.St → XK) (t tk : TA) : TE := fun σ H Q => t σ H fun vs H1 => tk σ H1 fun zs H2 => vs.length = n ∧ zs.length = m ∧ sp (gV vs zs) H2 Q (E σ)
structure CalXN (P : Program) (w : World) (K : PySem.W.Frag) (mg : Str → Option Value) (base : Heap) (k : Nat) (x : Str) (n : Nat) (ks : List Str) (idx : List Nat) (dvs : List V) (sp : Sp) : Prop where
  ex : ∃ (f : Addr) (fd : FuncData) (ps : List Str) (its : List Value), FnOk P w K mg base (L2.CX P w) k f fd ps sp ∧ mg x = some (.ref f) ∧ PySem.W.keepIn K (.ref f) = true ∧ KBn K fd ps n ks (gN idx its) (gN idx dvs)
section
variable {X : Cx} {CXx : CXT} {k j n : Nat} {ks ps : List Str} {idx : List Nat} {dvs : List V} {sp : Sp} {x : Str} {p pos : Pos} {kws : List Keyword} {e : Expr} {es : List Expr} {t tk : TA} {f : Addr} {fd : FuncData} {g : List Value → List Value → List Value} {gV : List V → List V → List V} {W : WX} {E : L2.St → XK}
theorem run_fnXN {pins : List (Addr × Obj)} {σ : L2.St} {H : Hp} {s : Shared} {Q : VK} {us ws : List Value} {vs zs : List V} (F : FnOk X.prog X.w X.K X.mg X.base CXx k f fd ps sp) (hr : Room k X.A) (hb : KBn X.K fd ps n ks g gV) (hx : PassesAt CXx X σ (E σ))
    (I : Inv X pins σ H s) (r : Vals vs us) (rz : Vals zs ws) (l1 : vs.length = n) (l2 : zs.length = ks.length) (h : sp (gV vs zs) H Q (E σ)) : wpAny (model X.prog X.w) X.A (call (.ref f) us (ks.zip ws)) (EP X pins σ Q) X.xe s := by
  have r2 := hb.rel r rz
  refine wpAny_call (codeAny_mono (F.run X.A X.stack s H ⟨us, ks.zip ws⟩ (g us ws) (gV vs zs) Q (E σ) hr I.env0 (hb.to s us ws I.kIn (r.length.symm.trans l1) (rz.length.symm.trans l2)) r2 h) fun r s' hq => ?_)
  cases r with
  | error e => exact hx pins H s e s' I hq
  | ok fl =>
    cases fl with
    | ret u => exact I.after hq
    | next => exact False.elim hq
    | brk => exact False.elim hq
    | cont => exact False.elim hq
theorem pe_xn0 (c : CalXN X.prog X.w X.K X.mg X.base k x 0 ks idx dvs sp) (ta : Takes X W) (hr : Room j X.A) (hk : k ≤ j) (hg : Gl X x)
    (hkw : PK X kws tk) (hall : (backToKw pos (keywordEach kws X.env)).all (·.1.isSome) = true := by rfl) (hks : (backToKw pos (keywordEach kws X.env)).filterMap (·.1) = ks := by rfl)
    (hdb : (x == ("__debug__" : Str)) = false := by decide) (hpl : ((backTo pos (starEach [] X.env)).any (·.1) || (backToKw pos (keywordEach kws X.env)).any (·.1.isNone)) = false := by rfl) :
    PE X (.Call (.Name x p) [] kws pos) (tCallXN 0 ks.length sp (gN idx dvs) (fun σ => WE W σ) tNil tk) := by
  obtain ⟨f, fd, ps, its, F, hm, kp, hb⟩ := c.ex
  refine ⟨fun pins s σ H Q I h => ?_⟩
  have h : tk σ H fun zs H2 => ([] : List V).length = 0 ∧ zs.length = ks.length ∧ sp (gN idx dvs [] zs) H2 Q (WE W σ) := h
  refine wpAny_Call_Name_kw (ld_glob I hg hm ?_ hdb)
  refine PySem.W.callWith_KW0 (h₀ := X.base) I.ok.mod.kin kp hall (thn (hkw.run pos pins s σ H _ I h) fun ws s2 ⟨zs, H2, I2, rz, l1, l2, q2⟩ => ⟨I2.kIn, ?_⟩) hpl
  rw [hks]
  exact run_fnXN (us := []) (vs := []) (E := fun σ => WE W σ) F (hr.mono hk) hb (passAt ta σ) I2 .nil rz l1 l2 q2
end
section
variable {ρ ρ' ρ1 ρ2 : List Sl} {tk : TA} {zs ds : List Sl} {x : PyData} {idx : List Nat} {dvs : List V} {m k : Nat} {E : L2.St → XK} {T : List Sl → (Rv → Prop) → (Addr → Sl → Prop) → Prop} {W : WX} {C : Addr} {s : Sl} {ta tb : TE}
theorem ev_callXN (hk : Es tk ρ zs ρ') (hd : ∀ W, ArAll W dvs ds) (l2 : zs.length = m) (hn : (gN idx ds [] zs).length = k) (g : T (gN idx ds [] zs) (fun r => r = .d x) fun _ _ => False) : Ev (tCallXN 0 m (spX k T) (gN idx dvs) E tNil tk) ρ (.d x) ρ' := fun c A σ H Q R f q =>
  hk c A σ H _ R f fun us A2 H2 R2 f2 S2 o2 => by
    refine ⟨rfl, o2.length.trans l2, zz c.Z A2, gN idx ds [] zs, _, _, zz_ok R2, by rw [hz_eq]; exact pm_ar (ArAll.append (show ArAll _ [] [] from trivial) ((hd _).append o2)) _, hn, g, fun r v H' hr S o => ?_, fun _ _ _ _ _ z => z.elim⟩
    subst hr
    have o : Dn (hz (zz c.Z A2) H') v x := o
    rw [hz_eq] at o
    exact q v A2 H' (R2.upA S) f2 (S2.trans (vw_upA R2 S)) o
theorem re_callXN (hk : Es tk ρ zs ρ') (hd : ∀ W, ArAll W dvs ds) (l2 : zs.length = m) (hn : (gN idx ds [] zs).length = k) (g : T (gN idx ds [] zs) (fun _ => False) fun C' s' => C' = C ∧ s' = s) : Re W (tCallXN 0 m (spX k T) (gN idx dvs) (fun σ => WE W σ) tNil tk) ρ C s ρ' := fun c A σ H Q R f q =>
  hk c A σ H _ R f fun us A1 H1 R1 f1 S1 o1 => by
    refine ⟨rfl, o1.length.trans l2, zz c.Z A1, gN idx ds [] zs, _, _, zz_ok R1, by rw [hz_eq]; exact pm_ar (ArAll.append (show ArAll _ [] [] from trivial) ((hd _).append o1)) _, hn, g, fun _ _ _ z => z.elim, fun C' s' d v H' z S e o => ?_⟩
    obtain ⟨rfl, rfl⟩ := z
    rw [hz_eq] at e o
    exact q d v A1 H' (R1.upA S) f1 e o
theorem re_if {tt : TT} {b : Bool} (h : Et tt ρ b ρ1) (h1 : b = true → Re W ta ρ1 C s ρ') (h2 : b = false → Re W tb ρ1 C s ρ') : Re W (tIf tt ta tb) ρ C s ρ' := fun c A σ H Q R f q =>
  h c A σ H _ R f fun A1 H1 R1 f1 S1 => by
    cases b with
    | true => exact h1 rfl c A1 σ H1 Q R1 f1 q
    | false => exact h2 rfl c A1 σ H1 Q R1 f1 q
end
end OW
namespace KP
open PySem PySem.Spec PyProof.Rows L2 KA OW
/-! ### what is caught -/
abbrev sLawCaught : Stmt := top 49
abbrev nLawCaught : List Str := ["_law_whole", "_law_wide", "_law_way", "e"]
theorem scLawCaught : FnScope nLawCaught ["_law_whole", "_law_wide", "_law_way"] (defScope sLawCaught) := ⟨rfl, rfl, rfl, by decide +kernel, rfl, by decide +kernel, by decide +kernel⟩
def tCaught : List Sl → (Rv → Prop) → Prop := fun as Kr => ∃ (way : Int) (s1 s2 sN : Sl) (d b : PyData) (wd : Str) (s : Sl), as = [s1, s2, .d (.int way)] ∧ Isd s1 d ∧ Isd s2 b ∧ okT d ∧ ((way = 0 ∨ way = 1) ∧ sN = s2 ∨ way = 2 ∧ sN = .d (.int 0) ∧ b = .int 0) ∧
  ((tm d = false ∧ wd = "term" ∧ s = s1) ∨ (tm d = true ∧ wholeB 0 100 b = false ∧ wd = "number" ∧ s = sN) ∨
    (∃ (t : Tm) (n : Nat), d = t.d ∧ b = .int (n : Int) ∧ n ≤ 100 ∧ tm d = true ∧ t.ok = true ∧ t.sz ≤ 30000 ∧ (fr 0 t).length < 64 ∧
      ((((fr 0 t).all fun i => decide (i < n)) = false ∧ wd = "fit" ∧ s = s1) ∨ (((fr 0 t).all fun i => decide (i < n)) = true ∧ Gd (List.replicate n true) t ∧ wd = "told" ∧ s = .d (.str (shS n t)))))) ∧ Kr (.p (pairMo wd s))
section
variable {ρ : List Sl} {s1 s2 sN s : Sl} {way : Int} {C : Addr} {W : WX} {T : List Sl → (Rv → Prop) → (Addr → Sl → Prop) → Prop} {x : PyData} {K' : KK} {z z1 z2 : V} {d b : PyData}
abbrev tShC (T : List Sl → (Rv → Prop) → (Addr → Sl → Prop) → Prop) (z z2 : Str) (W : WX) : TS := tSeq (tIfS (tTest (tOp rEq (tVar 2) (tC (.int 0)))) (tRet (tTup (tCons (tC (.str z)) (tCons (tCallS (spX 2 T) (fun σ => WE W σ) (tCons (tVar 0) (tCons (tVar 1) tNil))) tNil)))) tNext)
  (tRet (tTup (tCons (tC (.str z2)) (tCons (tIf (tTest (tOp rEq (tVar 2) (tC (.int 1)))) (tCallXN 0 2 (spX 2 T) (gN [2, 1] [.int 0]) (fun σ => WE W σ) tNil (tCons (tVar 1) (tCons (tVar 0) tNil))) (tCallXN 0 1 (spX 2 T) (gN [1, 0] [.int 0]) (fun σ => WE W σ) tNil (tCons (tVar 0) tNil))) tNil))))
theorem et_way {ρ : List Sl} {m n : Int} (h0 : ρ[2]? = some (.d (.int m))) : Et (tTest (tOp rEq (tVar 2) (tC (.int n)))) ρ (decide (m = n)) ρ := et_test (ev_op (ev_var h0) ev_int fv_eqI)
theorem ar_0 : ∀ W : Hp, ArAll W [V.int 0] [.d (.int 0)] := fun W => ⟨.int 0, trivial⟩
theorem rs_shc {z z2 : Str} (i1 : Isd s1 d) (i2 : Isd s2 b) (hw : (way = 0 ∨ way = 1) ∧ sN = s2 ∨ way = 2 ∧ sN = .d (.int 0) ∧ b = .int 0) (g : T [s1, sN] (fun _ => False) fun C' s' => C' = C ∧ s' = s) :
    Rs W (tShC T z z2 W) [s1, s2, .d (.int way), .un] C s [s1, s2, .d (.int way), .un] := by
  rcases hw with ⟨rfl | rfl, rfl⟩ | ⟨rfl, rfl, rfl⟩
  · exact rs_seq1 (rs_if (et_way rfl) (fun _ => rs_ret (re_tup2 (re_call (es_cons (ev_varI rfl i1) (es_cons (ev_varI rfl i2) es_nil)) rfl g))) (fun h => absurd rfl (of_decide_eq_false h)))
  · exact rs_seq (sm_if (et_way rfl) (fun h => absurd (of_decide_eq_true h) (by decide)) (fun _ => sm_next (rs_ret (re_tup2 (re_if (et_way rfl) (fun _ => re_callXN (es_cons (ev_varI rfl i2) (es_cons (ev_varI rfl i1) es_nil)) ar_0 rfl rfl g) (fun h => absurd rfl (of_decide_eq_false h)))))))
  · exact rs_seq (sm_if (et_way rfl) (fun h => absurd (of_decide_eq_true h) (by decide)) (fun _ => sm_next (rs_ret (re_tup2 (re_if (et_way rfl) (fun h => absurd (of_decide_eq_true h) (by decide)) (fun _ => re_callXN (es_cons (ev_varI rfl i1) es_nil) ar_0 rfl rfl g))))))
theorem sm_shc {z : Str} (i1 : Isd s1 d) (i2 : Isd s2 b) (hw : (way = 0 ∨ way = 1) ∧ sN = s2 ∨ way = 2 ∧ sN = .d (.int 0) ∧ b = .int 0) (g : T [s1, sN] (fun r => r = .d x) fun _ _ => False) (k : K'.rt (.p (pairMo z (.d x))) [s1, s2, .d (.int way), .un]) :
    Sm (tShC T z z W) [s1, s2, .d (.int way), .un] K' := by
  rcases hw with ⟨rfl | rfl, rfl⟩ | ⟨rfl, rfl, rfl⟩
  · exact sm_seq (sm_if (et_way rfl) (fun _ => sm_retP (ev_pair (ev_callX (es_cons (ev_varI rfl i1) (es_cons (ev_varI rfl i2) es_nil)) rfl g)) k) (fun h => absurd rfl (of_decide_eq_false h)))
  · exact sm_seq (sm_if (et_way rfl) (fun h => absurd (of_decide_eq_true h) (by decide)) (fun _ => sm_next (sm_retP (ev_pair (ev_if (et_way rfl) (fun _ => ev_callXN (es_cons (ev_varI rfl i2) (es_cons (ev_varI rfl i1) es_nil)) ar_0 rfl rfl g) (fun h => absurd rfl (of_decide_eq_false h)))) k)))
  · exact sm_seq (sm_if (et_way rfl) (fun h => absurd (of_decide_eq_true h) (by decide)) (fun _ => sm_next (sm_retP (ev_pair (ev_if (et_way rfl) (fun h => absurd (of_decide_eq_true h) (by decide)) (fun _ => ev_callXN (es_cons (ev_varI rfl i1) es_nil) ar_0 rfl rfl g))) k)))
end
section
variable {P : Program} {w : World} {K : PySem.W.Frag} {mg : Str → Option Value} {base : Heap} {C1 C2 C3 U fI1 fI2 fI3 : Addr} {fdI1 fdI2 fdI3 : FuncData}
structure ShowC (P : Program) (w : World) (K : PySem.W.Frag) (mg : Str → Option Value) (base : Heap) (C1 C2 C3 : Addr) : Prop where
  p : CalX P w K mg base 6 "show" ["term", "names"] (spX 2 (tShowX C1 C2 C3))
  n : CalXN P w K mg base 6 "show" 0 ["names", "term"] [2, 1] [.int 0] (spX 2 (tShowX C1 C2 C3))
  t : CalXN P w K mg base 6 "show" 0 ["term"] [1, 0] [.int 0] (spX 2 (tShowX C1 C2 C3))
theorem ok_caught {f : Addr} {fd : FuncData} (F : Fun K "_law_caught" "_law_caught" sLawCaught f fd) (Z1 : NoX K mg "NoTerm" "NoTerm.__init__" sInitT C1 U fI1 fdI1) (Z2 : NoX K mg "NoNumber" "NoNumber.__init__" sInitN C2 U fI2 fdI2) (Z3 : NoX K mg "NoFit" "NoFit.__init__" sInitF C3 U fI3 fdI3)
    (n21 : PySem.W.exmOne K (.ref C2) (.ref C1) = some false) (n31 : PySem.W.exmOne K (.ref C3) (.ref C1) = some false) (n32 : PySem.W.exmOne K (.ref C3) (.ref C2) = some false) (Y : ShowC P w K mg base C1 C2 C3) :
    FnOk P w K mg base CX0 7 f fd ["_law_whole", "_law_wide", "_law_way"] (spD 3 tCaught) := by
  refine fn_d F scLawCaught (body := fun cdv A outer s H E hr => ⟨_, pss_one (KA.ps_try_as rfl rfl scLawCaught.nd
      (fun W pn xe tk _ => pss_cons (ps_if (pt_cmpR op_eq (pv 2) pe_int (nomark _)) (pss_one (ps_ret (pe_tup (pa_cons pe_str (pa_cons (pe_x Y.p tk hr (by decide) rfl (pa_cons (pv 0) (pa_cons (pv 1) pa_nil))) pa_nil))))) pss_nil)
        (pss_one (ps_ret (pe_tup (pa_cons pe_str (pa_cons (pe_ifExp (pt_cmpR op_eq (pv 2) pe_int (nomark _)) (pe_xn0 Y.n tk hr (by decide) rfl (pk_cons (pv 1) (pk_cons (pv 0) pk_nil))) (pe_xn0 Y.t tk hr (by decide) rfl (pk_cons (pv 0) pk_nil))) pa_nil))))))
      (.cons ⟨rfl, by decide, .inl Z1.gC⟩ (i := 3) rfl rfl (fun a oe cls d pn hz hf => pss_one (ps_ret (pe_tup (pa_cons pe_str (pa_cons (pe_xf Z1.xf Z1.noF hz hf (pv 3)) pa_nil)))))
        (.cons ⟨rfl, by decide, .inl Z2.gC⟩ (i := 3) rfl rfl (fun a oe cls d pn hz hf => pss_one (ps_ret (pe_tup (pa_cons pe_str (pa_cons (pe_xf Z2.xf Z2.noF hz hf (pv 3)) pa_nil)))))
          (.cons ⟨rfl, by decide, .inl Z3.gC⟩ (i := 3) rfl rfl (fun a oe cls d pn hz hf => pss_one (ps_ret (pe_tup (pa_cons pe_str (pa_cons (pe_xf Z3.xf Z3.noF hz hf (pv 3)) pa_nil))))) .rest)))), ?_⟩)
  rintro as Kr _ ⟨way, s1, s2, sN, d, b, wd, sr, rfl, i1, i2, ok, hw, hc, k⟩
  have iN : Isd sN b := by
    rcases hw with ⟨_, rfl⟩ | ⟨_, rfl, rfl⟩
    · exact i2
    · exact .d _
  rcases hc with ⟨bad, rfl, rfl⟩ | ⟨td, bad, rfl, rfl⟩ | ⟨t, n, rfl, rfl, hn, td, tok, tsz, tfr, hc⟩
  · have T : tShowX C1 C2 C3 [sr, sN] (fun _ => False) fun C' s' => C' = C1 ∧ s' = sr := ⟨sr, sN, d, b, rfl, i1, iN, ok, fun _ => ⟨rfl, rfl⟩, (fun z => by rw [bad] at z; cases z), fun z => by rw [bad] at z; cases z⟩
    exact sm_tryX (i := 3) (C := C1) (s := sr) (ρ' := [sr, s2, .d (.int way), .un]) (fun W => rs_shc i1 i2 hw T) (.here Z1.te) (by decide) (by decide) (fun a d => sm_retP (ev_pair (ev_found rfl)) k)
  · have T : tShowX C1 C2 C3 [s1, sr] (fun _ => False) fun C' s' => C' = C2 ∧ s' = sr := ⟨s1, sr, d, b, rfl, i1, iN, ok, (fun z => by rw [td] at z; cases z), (fun _ _ => ⟨rfl, rfl⟩), fun _ z => by rw [bad] at z; cases z⟩
    exact sm_tryX (i := 3) (C := C2) (s := sr) (ρ' := [s1, s2, .d (.int way), .un]) (fun W => rs_shc i1 i2 hw T) (.next n21 (.here Z2.te)) (by decide) (by decide) (fun a d => sm_retP (ev_pair (ev_found rfl)) k)
  · have wn : wholeB 0 100 (.int (n : Int)) = true := by
      show (decide ((0 : Int) ≤ n) && decide ((n : Int) ≤ 100)) = true
      rw [decide_eq_true (by omega : (0 : Int) ≤ n), decide_eq_true (by omega : (n : Int) ≤ 100)]
      rfl
    rcases hc with ⟨nf, rfl, rfl⟩ | ⟨yf, gd, rfl, rfl⟩
    · have T : tShowX C1 C2 C3 [sr, sN] (fun _ => False) fun C' s' => C' = C3 ∧ s' = sr := ⟨sr, sN, t.d, _, rfl, i1, iN, ok, (fun z => by rw [td] at z; cases z), (fun _ z => by rw [wn] at z; cases z), fun _ _ => ⟨t, n, rfl, rfl, tok, tsz, tfr, (fun _ => ⟨rfl, rfl⟩), fun z => by rw [nf] at z; cases z⟩⟩
      exact sm_tryX (i := 3) (C := C3) (s := sr) (ρ' := [sr, s2, .d (.int way), .un]) (fun W => rs_shc i1 i2 hw T) (.next n31 (.next n32 (.here Z3.te))) (by decide) (by decide) (fun a d => sm_retP (ev_pair (ev_found rfl)) k)
    · have T : tShowX C1 C2 C3 [s1, sN] (fun r => r = .d (.str (shS n t))) fun _ _ => False := ⟨s1, sN, t.d, _, rfl, i1, iN, ok, (fun z => by rw [td] at z; cases z), (fun _ z => by rw [wn] at z; cases z), fun _ _ => ⟨t, n, rfl, rfl, tok, tsz, tfr, (fun z => by rw [yf] at z; cases z), fun _ => ⟨gd, by omega, rfl⟩⟩⟩
      exact sm_try (fun W => sm_shc i1 i2 hw T k)
end
end KP
set_option Elab.async false
set_option linter.unusedVariables false
set_option linter.unusedSectionVars false
set_option maxRecDepth 100000
set_option maxHeartbeats 2000000
namespace OW
open PySem PySem.Spec PyProof.Rows L2 KA
section
variable {σ : L2.St} {H : Hp} {te ta tb : TE} {tr : TA} {x : PyData} {xs ys : List PyData} {a b : Nat}
theorem shown_fits (B : KP.Bd a b x) (ha : a ≤ 100) (hb : b ≤ 16000000) : x.showable = true ∧ x.shown.length ≤ sizeLine ∧ x.depth ≤ 100 := by
  have sh := KP.shown_le _ B.1
  exact ⟨sh.2, by rw [sizeLine_eq]; have := B.2.2; have := sh.1; omega, Nat.le_trans B.2.1 ha⟩
theorem pr_reprEq (ha : Pr ta σ H (.d x)) (hb : Pr tb σ H (.d x)) (B : KP.Bd a b x) (la : a ≤ 100) (lb : b ≤ 16000000) : Pr (tOp rEq (tCB rRepr (tCons ta tNil)) (tCB rRepr (tCons tb tNil))) σ H (.d (.bool true)) := by
  obtain ⟨h1, h2, h3⟩ := shown_fits B la lb
  have := pr_op (pr_fn (prs_cons ha prs_nil) (fv_repr h1 h2 h3)) (pr_fn (prs_cons hb prs_nil) (fv_repr h1 h2 h3)) fv_eqS
  have e : decide (x.shown = x.shown) = true := by simp
  rw [e] at this
  exact this
theorem pr_lst (h : Prs tr σ H (xs.map Sl.d)) (len : xs.length ≤ sizeLine := by simp [sizeLine_eq]) : Pr (tLst tr) σ H (.d (.list xs)) := fun H1 S Q q => h H1 S _ fun vs H2 S2 o => by
  have dn : DnAll H2 vs xs := by
    clear h q
    induction xs generalizing vs with
    | nil => cases vs with
      | nil => exact .nil
      | cons _ _ => exact o.elim
    | cons x xs ih => cases vs with
      | nil => exact o.elim
      | cons v vs => exact .cons o.1 (ih (Nat.le_of_succ_le len) vs o.2)
  exact ⟨by rw [dn.length]; exact len, fun b hb => q _ _ (S2.trans (Same.new hb)) (.lst upd_same (DnAll.mono (Same.new hb) dn))⟩
theorem fv_catL (len : xs.length + ys.length ≤ sizeLine) : FV2 rCat (.d (.list xs)) (.d (.list ys)) (.d (.list (xs ++ ys))) := fun W H v w Q S o o' q => by
  obtain ⟨a, vs, rfl, e, dx⟩ := lst_v o
  obtain ⟨b, ws, rfl, e', dy⟩ := lst_v o'
  exact ⟨a, b, vs, ws, rfl, rfl, S _ _ e, S _ _ e', by rw [dx.length, dy.length]; exact len, fun p hp => q (.ref p) _ (Same.new hp) fun W' S' nw => .lst (nw p _ hp upd_same) (DnAll.mono S' (dx.append dy))⟩
theorem dn_rep {W : Hp} {vs : List V} (dx : DnAll W vs xs) : ∀ n : Nat, DnAll W (List.replicate n vs).flatten (List.replicate n xs).flatten
  | 0 => .nil
  | n + 1 => by
    rw [List.replicate_succ, List.replicate_succ, List.flatten_cons, List.flatten_cons]
    exact dx.append (dn_rep dx n)
theorem fv_repL {n : Int} (h : 0 ≤ n ∧ n ≤ 1000 ∧ xs.length ≤ 1000) : FV2 rRep (.d (.list xs)) (.d (.int n)) (.d (.list (List.replicate n.toNat xs).flatten)) := fun W H v w Q S o o' q => by
  obtain ⟨a, vs, rfl, e, dx⟩ := lst_v o
  obtain rfl := int_v o'
  obtain ⟨h0, h1, h2⟩ := h
  refine ⟨a, n, vs, rfl, rfl, S _ _ e, by omega, by omega, ?_, fun p hp => q (.ref p) _ (Same.new hp) fun W' S' nw => .lst (nw p _ hp upd_same) (DnAll.mono S' (dn_rep dx _))⟩
  rw [dx.length, sizeLine_eq]
  have := Nat.mul_le_mul h2 (show n.toNat ≤ 1000 by omega)
  omega
theorem ev_negC {ρ : List Sl} {n : Int} : Ev (tUn (rU fun i => .int (-i)) (tC (.int n))) ρ (.d (.int (-n))) ρ := fun c A σ H Q R f q => ⟨n, rfl, q _ A H R f (Same.refl _) (.int _)⟩
theorem ev_dic0 {ρ : List Sl} : Ev tDNewK ρ (.d (.dict [])) ρ := fun c A σ H Q R f q => fun b hb =>
  q _ A _ (R.up (Same.new hb)) f (vw_up (Same.new hb)) (.dic (new_view R hb upd_same) .nil .nil)
theorem ev_cat5 {ρ : List Sl} {KF : PySem.W.Frag} (h : Ev ta ρ (.d (.tuple xs)) ρ) (h' : Ev tb ρ (.d (.tuple ys)) ρ) (l : xs.length + ys.length ≤ 20 := by simp) : Ev (tOp (rCatA KF) ta tb) ρ (.d (.tuple (xs ++ ys))) ρ :=
  ev_op h h' (fv_catA (Nat.le_trans l (by rw [sizeLine_eq]; decide)))
theorem ev_put1 {ρ : List Sl} {a : PyData} (h : Ev te ρ (.d a) ρ) : Ev (tTup (tCons te tNil)) ρ (.d (.tuple [a])) ρ := ev_tup (eds_cons h eds_nil)
end
theorem set_self {α : Type} {ρ : List α} {k : Nat} {s : α} (h : ρ[k]? = some s) : ρ.set k s = ρ := by
  obtain ⟨lt, e⟩ := List.getElem?_eq_some_iff.mp h
  apply List.ext_getElem?
  intro i
  by_cases q : i = k
  · rw [q, List.getElem?_set_self lt, h]
  · rw [List.getElem?_set_ne (Ne.symm q)]
/-- a slot's data is taken as just this value -/
theorem sm_exact {ρ : List Sl} {j : Nat} {x : PyData} {t : TS} {K : KK} (h : ρ[j]? = some (.d x)) (q : ∀ v, Sm t (ρ.set j (.p (exactMo v x))) K) : Sm t ρ K := fun c A σ H D R f dk => by
  obtain ⟨v, e1, d1, R1⟩ := R.exact h
  exact q v c A σ H D R1 f dk
/-- a kept list goes to the variable that has it -/
theorem sm_take {ρ : List Sl} {t : TS} {K : KK} {i j : Nat} {a : Addr} {xs : List PyData} (h6 : ρ[i]? = some (.wa a xs)) (h4 : ρ[j]? = some (.p (isV (.ref a)))) (q : Sm t ((ρ.set i .any).set j (.la a xs)) K) (i0 : i ≠ 0 := by decide) (j0 : j ≠ 0 := by decide) : Sm t ρ K := fun c A σ H D R f dk => by
  obtain ⟨ws, e4, e5, dx⟩ := R.sl i _ h6
  obtain ⟨_, u, e0, hu⟩ := R.sl j _ h4
  obtain rfl : u = .ref a := hu
  have R4 := R.toFlG i0 h6 e4
  have lj : j < (ρ.set i .any).length := by rw [List.length_set]; exact (List.getElem?_eq_some_iff.mp h4).1
  have R5 := R4.setO (s := .la a xs) j0 lj aset_at fun W S => ⟨ws, rfl, rfl, e5, DnAll.mono ((vw_toFl e4).trans S) dx⟩
  have es : σ.set j (some (.ref a)) = σ := set_self e0
  rw [es] at R5
  exact q c _ σ H D R5 aset_at dk
end OW
set_option Elab.async false
set_option linter.unusedVariables false
set_option linter.unusedSectionVars false
set_option maxRecDepth 100000
set_option maxHeartbeats 4000000
namespace KP
open PySem PySem.Spec PyProof.Rows L2 KA OW
/-! ### what is refused rightly -/
abbrev sLawRefusedRight : Stmt := top 50
abbrev nLawRefusedRight : List Str := ["_law_box_here", "_law_whole", "_law_wide", "_law_some", "_law_odd", "_law_many", "_law_found"]
theorem scLawRefusedRight : FnScope nLawRefusedRight ["_law_box_here", "_law_whole", "_law_wide"] (defScope sLawRefusedRight) := ⟨rfl, rfl, rfl, by decide +kernel, rfl, by decide +kernel, by decide +kernel⟩
def bdB (a b : Nat) (d : PyData) : Bool := fine d && decide (d.depth ≤ a) && decide (wt d ≤ b)
theorem bdB_of {a b : Nat} {d : PyData} (h : bdB a b d = true) : Bd a b d := by
  unfold bdB at h
  rw [Bool.and_eq_true, Bool.and_eq_true] at h
  exact ⟨h.1.1, of_decide_eq_true h.1.2, of_decide_eq_true h.2⟩
mutual
theorem nodes2_wt : ∀ d : PyData, 2 * nodes d ≤ wt d
  | .none => by simp [nodes, wt]
  | .bool b => by simp [nodes, wt]
  | .int i => by simp [nodes, wt]
  | .str x => by simp [nodes, wt]
  | .list ds => by simp only [nodes, wt]; omega
  | .dict kvs => by simp only [nodes, wt]; omega
  | .tuple ds => by
    have := nodes2All_wt ds
    simp only [nodes, wt]
    omega
theorem nodes2All_wt : ∀ ds : List PyData, 2 * nodesAll ds ≤ wtAll ds
  | [] => by simp [nodesAll, wtAll]
  | d :: ds => by
    have h1 := nodes2_wt d
    have h2 := nodes2All_wt ds
    simp only [nodesAll, wtAll]
    omega
end
theorem ok2_of {a b : Nat} {d : PyData} (h : Bd a b d) (hb : b ≤ 2000000) : okT d := ⟨h.1, by have := nodes2_wt d; have := h.2.2; omega⟩
theorem tm_tup {d : PyData} (h : tm d = true) : ∃ w xs, d = .tuple (.str w :: xs) := by
  cases d <;> first | (cases h; done) | skip
  rename_i ds
  cases ds with
  | nil => cases h
  | cons x xs => cases x <;> first | exact ⟨_, _, rfl⟩ | cases h
theorem tm_more {w : Str} {xs ys : List PyData} (h : tm (.tuple (.str w :: xs)) = true) : tm (.tuple (.str w :: (xs ++ [.tuple ys]))) = false := by
  cases hp : parts w with
  | some n =>
    rw [tm_parts hp, Bool.and_eq_true, decide_eq_true_eq] at h
    rw [tm_parts hp, List.length_append, decide_eq_false (by rw [List.length_singleton]; omega)]
    rfl
  | none =>
    rw [tm_leaf hp] at h
    rw [tm_leaf hp]
    match xs with
    | [] => cases h
    | [x] =>
      show (nameB x && (if w = "maker" then cntB 0 (.tuple ys) else decide (w = "eater") && wholeB 0 5 (.tuple ys))) = false
      rw [show cntB 0 (.tuple ys) = false from rfl, show wholeB 0 5 (.tuple ys) = false from rfl, Bool.and_false, ite_self, Bool.and_false]
    | [x, y] => rfl
    | x :: y :: z :: r => cases h
section
variable (d : PyData) (w : Str) (xs : List PyData)
/-- what is no term, as data; at three a list of its own -/
def oddL : List PyData := [.none, .int 0, .str "*0", .list [d], .tuple [d]] ++ [.tuple [.str "at"], .tuple [.str "at", .int (-1)], .tuple [.str "kind", .int 6], .tuple [.str "all", d], .tuple (.str w :: xs ++ [d]), .dict [], .tuple []]
def oddS (a : Addr) : List Sl := [.d .none, .d (.int 0), .d (.str "*0"), .p (isV (.ref a)), .d (.tuple [d])] ++ [.d (.tuple [.str "at"]), .d (.tuple [.str "at", .int (-1)]), .d (.tuple [.str "kind", .int 6]), .d (.tuple [.str "all", d]), .d (.tuple (.str w :: xs ++ [d])), .d (.dict []), .d (.tuple [])]
end
def manyL : List PyData := [.int (-1), .int 101, .bool true, .none, .str "0", .list [.int 0], .int (10 ^ (29 : Int).toNat), .bool false]
theorem many_bd : ∀ x ∈ manyL, Bd 15 100000 x ∧ wholeB 0 100 x = false := by
  have h : ∀ x ∈ manyL, (bdB 15 100000 x && !wholeB 0 100 x) = true := by
    intro x hx
    simp only [manyL, List.mem_cons, List.not_mem_nil, or_false] at hx
    rcases hx with rfl | rfl | rfl | rfl | rfl | rfl | rfl | rfl <;> decide +kernel
  intro x hx
  have := h x hx
  rw [Bool.and_eq_true, Bool.not_eq_true'] at this
  exact ⟨bdB_of this.1, this.2⟩
theorem odd_bd {d : PyData} {w : Str} {xs : List PyData} (hd : d = .tuple (.str w :: xs)) (td : tm d = true) (bd : Bd 12 40000 d) : ∀ x ∈ oddL d w xs, Bd 15 100000 x ∧ tm x = false := by
  have no : ∀ {z : PyData}, bdB 15 100000 z = true → tm z = false → Bd 15 100000 z ∧ tm z = false := fun h g => ⟨bdB_of h, g⟩
  have b12 : Bd 12 220 (.str "all") := (Bd.wd (w := "all")).mono (by decide) (by decide)
  have more : Bd 15 100000 (.tuple (.str w :: xs ++ [d])) := by
    have hb := bd
    rw [hd] at hb
    obtain ⟨h1, h2, h3⟩ := hb
    have h1 : fineAll (.str w :: xs) = true := by simpa only [fine] using h1
    have h2 : PyData.depthAll (.str w :: xs) + 1 ≤ 12 := h2
    have h3 : wtAll (.str w :: xs) + 4 ≤ 40000 := h3
    obtain ⟨g1, g2, g3⟩ := bd
    refine ⟨?_, ?_, ?_⟩
    · show fine (.tuple ((.str w :: xs) ++ [d])) = true
      simp only [fine]
      rw [fineAll_append, h1]
      simp only [fineAll, g1]
      rfl
    · show PyData.depthAll ((.str w :: xs) ++ [d]) + 1 ≤ 15
      rw [depthAll_append]
      have : PyData.depthAll [d] = max d.depth 0 := by simp only [PyData.depthAll]
      rw [this]
      omega
    · show wtAll ((.str w :: xs) ++ [d]) + 4 ≤ 100000
      rw [wtAll_append]
      have : wtAll [d] = wt d + 2 := by simp only [wtAll]
      rw [this]
      omega
  intro x hx
  simp only [oddL, List.mem_append, List.mem_cons, List.not_mem_nil, or_false] at hx
  rcases hx with (rfl | rfl | rfl | rfl | rfl) | (rfl | rfl | rfl | rfl | rfl | rfl | rfl)
  · exact no (by decide +kernel) rfl
  · exact no (by decide +kernel) rfl
  · exact no (by decide +kernel) rfl
  · exact ⟨(Bd.lst (BdAll.one bd)).mono (by decide) (by decide), rfl⟩
  · exact ⟨(Bd.tup (BdAll.one bd)).mono (by decide) (by decide), by subst hd; rfl⟩
  · exact no (by decide +kernel) (by decide +kernel)
  · exact no (by decide +kernel) (by decide +kernel)
  · exact no (by decide +kernel) (by decide +kernel)
  · exact ⟨(Bd.tup (BdAll.cons b12 (BdAll.one bd))).mono (by decide) (by decide), by rw [tm_parts pt_all]; rfl⟩
  · refine ⟨more, ?_⟩
    have e : tm (.tuple (.str w :: (xs ++ [.tuple (.str w :: xs)]))) = false := tm_more (hd ▸ td)
    rw [← hd] at e
    exact e
  · exact no (by decide +kernel) rfl
  · exact no (by decide +kernel) rfl
/-- a thing whose value is known, and how large it is -/
structure GoK (q : TK) : Prop where
  l : isLstD q.x = q.isL
  b : Bd 15 101000 q.x
def TK.up : TK → TK | .dat v x => .dat v x | .lst a xs => .lst a (xs ++ [.str "more"])
theorem TK.up_v (q : TK) : (TK.up q).v = q.v := by cases q <;> rfl
theorem more_bd {xs : List PyData} {a b : Nat} (h : Bd (a + 1) b (.list xs)) : Bd (a + 1) (b + 1000) (.list (xs ++ [.str "more"])) := by
  obtain ⟨h1, h2, h3⟩ := h
  have h1 : fineAll xs = true := by simpa only [fine] using h1
  have h2 : PyData.depthAll xs + 1 ≤ a + 1 := h2
  have h3 : wtAll xs + 4 ≤ b := h3
  refine ⟨?_, ?_, ?_⟩
  · show fine (.list (xs ++ [.str "more"])) = true
    simp only [fine]
    rw [fineAll_append, h1]
    decide +kernel
  · show PyData.depthAll (xs ++ [.str "more"]) + 1 ≤ a + 1
    rw [depthAll_append]
    have : PyData.depthAll [PyData.str "more"] = 0 := rfl
    omega
  · show wtAll (xs ++ [.str "more"]) + 4 ≤ _
    rw [wtAll_append]
    have : wtAll [PyData.str "more"] ≤ 1000 := by decide +kernel
    omega
theorem len_wt : ∀ xs : List PyData, xs.length ≤ wtAll xs
  | [] => Nat.le_refl _
  | x :: xs => by
    have := len_wt xs
    show xs.length + 1 ≤ wt x + 2 + wtAll xs
    omega
theorem up_bd {q : TK} (l : isLstD q.x = q.isL) (b : Bd 15 100000 q.x) : Bd 15 101000 (TK.up q).x := by
  cases q with
  | dat v x => exact b.mono (Nat.le_refl _) (by decide)
  | lst a xs => exact more_bd b
theorem tk_isd (q : TK) : Isd (.p (exactMo q.v q.x)) q.x := .p _ _ fun W v h => h.2
section
variable {ρ : List Sl} {q r : TK} {i j : Nat} {way : Int} {wd : Str} {E : XK}
theorem pair_conv {v : V} {x : PyData} (u : V) (W1 W : Hp) (back : ∀ b o, (∀ vs, o ≠ .lst vs) → W1 b = some o → W b = some o) (h : (pairMo wd (.p (exactMo v x))).P u W1) : (pairMo wd (.p (isV v))).P u W := by
  obtain ⟨t, z, eu, et, hv⟩ := h
  exact ⟨t, z, eu, back t _ (fun vs z => by cases z) et, hv.1⟩
theorem ev_caughtK (z : TK) (hi : ρ[i]? = some q.sl) (hj : ρ[j]? = some r.sl) (T : tCaught [.p (exactMo q.v q.x), .p (exactMo r.v r.x), .d (.int way)] fun u => u = .p (pairMo wd (.p (exactMo z.v z.x)))) :
    Ev (tCall (spD 3 tCaught) [] E (tCons (tVar i) (tCons (tVar j) (tCons (tC (.int way)) tNil)))) ρ (.p (pairMo wd (.p (isV z.v)))) ρ := by
  refine evp_lendG (S := pairMo wd (.p (exactMo z.v z.x))) (ss := [.p (exactMo q.v q.x), .p (exactMo r.v r.x), .d (.int way)]) [i, j] (fun k hk => ?_) (fun c A σ H R => ?_) rfl T pair_conv
  · rcases List.mem_cons.mp hk with rfl | hk
    · exact ⟨q, hi⟩
    · obtain rfl := List.mem_singleton.mp hk
      exact ⟨r, hj⟩
  · obtain ⟨e1, _⟩ := R.tk hi
    obtain ⟨e2, _⟩ := R.tk hj
    exact ⟨[q.v, r.v, .int way], fun Q k => ⟨_, e1, _, e2, k⟩, ⟨rfl, R.lentDn hi (List.mem_cons_self ..)⟩, ⟨rfl, R.lentDn hj (List.mem_cons_of_mem _ (List.mem_singleton_self _))⟩, .int _, trivial⟩
theorem et_isK (h : ρ[i]? = some q.sl) : Et (tB (tCB (rIsD "list" isLstD) (tCons (tVar i) (tCons (tC (.ty "list")) tNil)))) ρ (isLstD q.x) ρ := by
  refine et_prB fun c A σ H R => ?_
  obtain ⟨e, d⟩ := R.tk h
  exact pr_fn (prs_cons (pr_var (s := .d q.x) e d) (prs_cons (pr_c (s := .p (isV _)) (fun _ => rfl)) prs_nil)) fv_isD
end
/-- what comes behind is shown once -/
theorem via {A : Type} {t : TS} {ρ : List Sl} {K : KK} (Pf : A → List Sl) (Cf : A → Prop) (first : (∀ a, Cf a → Sm t (Pf a) K) → Sm t ρ K) (rest : ∀ a, Cf a → Sm t (Pf a) K) : Sm t ρ K := first rest
theorem viaS {A : Type} {t u : TS} {ρ : List Sl} {K : KK} (Pf : A → List Sl) (Cf : A → Prop) (first : (∀ a, Cf a → Sm u (Pf a) K) → Sm (tSeq t u) ρ K) (rest : ∀ a, Cf a → Sm u (Pf a) K) : Sm (tSeq t u) ρ K := first rest
theorem lq_len {q : TK} (b : Bd 15 100000 q.x) : ∀ a xs, q = .lst a xs → xs.length < sizeLine := fun a xs e => by
  subst e
  have b1 : wtAll xs + 4 ≤ 100000 := b.2.2
  have := len_wt xs
  rw [sizeLine_eq]
  omega
theorem sm_moreK {ρ : List Sl} {q : TK} {i : Nat} {KF : PySem.W.Frag} {KL : KK} (h : ρ[i]? = some q.sl) (l : isLstD q.x = q.isL) (b : Bd 15 100000 q.x) (k : KL.nx (ρ.set i (TK.up q).sl)) :
    Sm (tIfS (tB (tCB (rIsD "list" isLstD) (tCons (tVar i) (tCons (tC (.ty "list")) tNil)))) (tDrop (tBM KF "list" rAppend (tVar i) (tCons (tC (.str "more")) tNil))) tNext) ρ KL := by
  refine sm_if (et_isK (q := q) h) (fun z => ?_) (fun z => ?_)
  · cases q with
    | dat v x =>
      rw [show isLstD (TK.dat v x).x = false from l] at z
      cases z
    | lst a ys => exact sm_appS h (lq_len b a ys rfl) k
  · cases q with
    | dat v x =>
      have e : ρ.set i (TK.up (.dat v x)).sl = ρ := set_self h
      rw [e] at k
      exact sm_next k
    | lst a ys => cases z
theorem four_dn {W H : Hp} {us : List V} {s1 s2 s3 s4 : Sl} {d1 d2 d3 d4 : PyData} (o : ArAll W us [s1, s2, s3, s4]) (h1 : ∀ u, ArOk W u s1 → Dn H u d1) (h2 : ∀ u, ArOk W u s2 → Dn H u d2) (h3 : ∀ u, ArOk W u s3 → Dn H u d3) (h4 : ∀ u, ArOk W u s4 → Dn H u d4) : DnAll H us [d1, d2, d3, d4] := by
  cases us with
  | nil => exact o.elim
  | cons x1 us => cases us with
    | nil => exact o.2.elim
    | cons x2 us => cases us with
      | nil => exact o.2.2.elim
      | cons x3 us => cases us with
        | nil => exact o.2.2.2.elim
        | cons x4 us => cases us with
          | cons _ _ => exact o.2.2.2.2.elim
          | nil => exact .cons (h1 _ o.1) (.cons (h2 _ o.2.1) (.cons (h3 _ o.2.2.1) (.one (h4 _ o.2.2.2.1))))
def tRefused : List PyData → List Sl → (Rv → List PyData → Prop) → Prop := fun c as Kr => ∃ p n d w, c = p.ds ∧ as = [.d d, .d (.int (w : Nat))] ∧ w ≤ 100 ∧ tm d = true ∧ Bd 12 40000 d ∧ PuOk p n ∧ n + 10 ≤ maxN ∧ Kr (.d (.bool true)) (takeF (takeF p 12).2 8).2.ds
section
variable {P : Program} {w : World} {K : PySem.W.Frag} {mg : Str → Option Value} {base : Heap}
theorem ok_refused {f : Addr} {fd : FuncData} (F : Fun K "_law_refused_right" "_law_refused_right" sLawRefusedRight f fd) (T : Txt K w mg) (C_law_take : C8.Cal P w K mg base 1 "_law_take" (spB 1 tTake) []) (C_law_caught : C8.Cal P w K mg base 7 "_law_caught" (spD 3 tCaught) []) :
    FnG P w K mg base CX0 10 f fd ["_law_box_here", "_law_whole", "_law_wide"] (spB 2 tRefused) := by
  refine fn_bG (k := 9) F scLawRefusedRight (body := fun cdv A outer s H E g hr => ?_)
  have hu : (A.deeper (envOfC "_law_refused_right" (defScope sLawRefusedRight) s.heap.objs.size f cdv)).units + 200 < cLine := by have := hr.un; omega
  have hg : (cxOf CX0 P w K mg base nLawRefusedRight "_law_refused_right" (defScope sLawRefusedRight) f cdv A outer s H E).nox.A.guards = some [] := g
  refine ⟨_, PSs.nox (pss_cons (ps_set (i := 3) scLawRefusedRight.nd rfl (Or.inl rfl) (pe_lst (pa_cons pe_non (pa_cons pe_int (pa_cons pe_str (pa_cons (pe_lst (pa_cons (pv 1) pa_nil)) (pa_cons (pe_tup (pa_cons (pv 1) pa_nil)) pa_nil)))))))
      (pss_cons (ps_set (i := 3) scLawRefusedRight.nd rfl (Or.inl rfl) (pe_op op_cat (pv 3) (pe_lst (pa_cons (pe_tup (pa_cons pe_str pa_nil)) (pa_cons (pe_tup (pa_cons pe_str (pa_cons (pe_un un_neg pe_int) pa_nil))) (pa_cons (pe_tup (pa_cons pe_str (pa_cons pe_int pa_nil))) (pa_cons (pe_tup (pa_cons pe_str (pa_cons (pv 1) pa_nil))) (pa_cons (pe_op op_catA (pv 1) (pe_tup (pa_cons (pv 1) pa_nil))) (pa_cons pe_dnewK (pa_cons (pe_tup pa_nil) pa_nil))))))))))
      (pss_cons (ps_set (i := 4) scLawRefusedRight.nd rfl (Or.inl rfl) (pe_ix ix_list (pv 3) (C8.pe_c C_law_take hr (by omega) rfl (pa_cons (pv 0) (pa_cons pe_int pa_nil))) (fun _ _ => rfl)))
      (pss_cons (ps_set (i := 5) scLawRefusedRight.nd rfl (Or.inl rfl) (pe_ix ix_list (pe_lst (pa_cons (pe_un un_neg pe_int) (pa_cons pe_int (pa_cons pe_bl (pa_cons pe_non (pa_cons pe_str (pa_cons (pe_lst (pa_cons pe_int pa_nil)) (pa_cons (pe_op op_pow pe_int pe_int) (pa_cons pe_bl pa_nil))))))))) (C8.pe_c C_law_take hr (by omega) rfl (pa_cons (pv 0) (pa_cons pe_int pa_nil))) (fun _ _ => rfl)))
      (pss_cons (ps_set (i := 6) scLawRefusedRight.nd rfl (Or.inl rfl) (pe_lst (pa_cons (C8.pe_c C_law_caught hr (by omega) rfl (pa_cons (pv 4) (pa_cons (pv 5) (pa_cons pe_int pa_nil)))) (pa_cons (C8.pe_c C_law_caught hr (by omega) rfl (pa_cons (pv 4) (pa_cons (pv 2) (pa_cons pe_int pa_nil)))) pa_nil))))
      (pss_cons (ps_set (i := 6) scLawRefusedRight.nd rfl (Or.inl rfl) (pe_op op_cat (pv 6) (pe_lst (pa_cons (C8.pe_c C_law_caught hr (by omega) rfl (pa_cons (pv 1) (pa_cons (pv 5) (pa_cons pe_int pa_nil)))) (pa_cons (C8.pe_c C_law_caught hr (by omega) rfl (pa_cons (pv 1) (pa_cons (pv 5) (pa_cons pe_int pa_nil)))) pa_nil)))))
      (pss_cons (ps_if (pt_val (pe_isD is_lst (pv 4) T.isi T.list (by decide +kernel))) (pss_one (ps_expr (pe_bm PySem.F.plainAttrs_list PySem.F.slot_list_append PySem.F.type_list_append mt_append (pv 4) (pa_cons pe_str pa_nil)))) pss_nil) (pss_cons (ps_if (pt_val (pe_isD is_lst (pv 5) T.isi T.list (by decide +kernel))) (pss_one (ps_expr (pe_bm PySem.F.plainAttrs_list PySem.F.slot_list_append PySem.F.type_list_append mt_append (pv 5) (pa_cons pe_str pa_nil)))) pss_nil) (pss_one (ps_ret (pe_cmpR op_eq (pe_callB (call_repr hg hu) (by rfl) T.repr (by decide +kernel) (pa_cons (pv 6) pa_nil)) (pe_callB (call_repr hg hu) (by rfl) T.repr (by decide +kernel) (pa_cons (pe_op op_cat (pe_op op_rep (pe_lst (pa_cons (pe_tup (pa_cons pe_str (pa_cons (pv 4) pa_nil))) pa_nil)) pe_int) (pe_op op_rep (pe_lst (pa_cons (pe_tup (pa_cons pe_str (pa_cons (pv 5) pa_nil))) pa_nil)) pe_int)) pa_nil)) (nomark _)))))))))))), ?_⟩
  rintro ct as Kr _ ⟨p, n, d, wn, rfl, rfl, hw, td, bd, hp, hn, kr⟩
  obtain ⟨wd, xs, hd⟩ := tm_tup td
  obtain ⟨u0, u1, u2⟩ := takeF_ok (m := 12) hp (by decide)
  have got2 := got_take hp (by omega) (m := 12) (by decide) (by decide)
  generalize takeF p 12 = k2 at *
  obtain ⟨v0, v1, v2⟩ := takeF_ok (m := 8) u2 (by decide)
  have got3 := got_take u2 (by omega) (m := 8) (by decide) (by decide)
  generalize takeF k2.2 8 = k3 at *
  have OD := odd_bd hd td bd
  have lx : xs.length ≤ 10 := by
    cases hp : parts wd with
    | some n =>
      rw [hd, tm_parts hp, Bool.and_eq_true, decide_eq_true_eq] at td
      have : n ≤ 3 := by
        unfold parts at hp
        split at hp
        · cases hp; decide
        · split at hp
          · cases hp; decide
          · split at hp
            · cases hp; decide
            · split at hp
              · cases hp; decide
              · split at hp
                · cases hp; decide
                · split at hp
                  · cases hp; decide
                  · cases hp
      omega
    | none =>
      rw [hd, tm_leaf hp] at td
      match xs with
      | [] => show 0 ≤ 10; decide
      | [x] => show 1 ≤ 10; decide
      | [x, y] => show 2 ≤ 10; decide
      | x :: y :: z :: r => cases td
  have evW : ∀ {ρ : List Sl}, ρ[1]? = some (.d d) → Ev (tVar 1) ρ (.d (.tuple (.str wd :: xs))) ρ := fun h => (ev_var h).is hd
  refine sm_seq (sm_setX (i := 3) (esx_cons ev_non (esx_cons ev_int (esx_cons ev_str (esx_new (i := 6) (el_lst (eds_cons (ev_var (x := d) rfl) eds_nil)) (fun a1 => esx_es (es_cons (ev_put1 (ev_var rfl)) es_nil) ⟨by simp [sizeLine_eq], by simp [uns], ?_⟩))))))
  refine sm_seq (sm_setLM (i := 3) (elp_cat (i := 3) rfl (elp_lst (es_cons (ev_put1 ev_str) (es_cons (ev_tup (eds_cons ev_str (eds_cons ev_negC eds_nil))) (es_cons (ev_tup (eds_cons ev_str (eds_cons ev_int eds_nil))) (es_cons (ev_tup (eds_cons ev_str (eds_cons (ev_var rfl) eds_nil))) (es_cons (ev_cat5 (evW rfl) (ev_put1 (ev_var rfl)) (by rw [List.length_cons, List.length_singleton]; omega)) (es_cons ev_dic0 (es_cons (ev_tup eds_nil) es_nil)))))))) (by simp [sizeLine_eq])) ?_)
  show Sm _ [.l p.ds, .d d, .d (.int (wn : Int)), .lm (arL (oddS d wd xs a1)), .un, .un, .wa a1 [d]] _
  obtain ⟨sO, eO, mO⟩ : ∃ s, (oddS d wd xs a1)[k2.1.toNat]? = some s ∧ (s = .p (isV (.ref a1)) ∨ ∃ x, s = .d x ∧ x ∈ oddL d wd xs ∧ isLstD x = false) := by
    have lt : k2.1.toNat < 12 := by omega
    have all : ∀ s ∈ oddS d wd xs a1, s = .p (isV (.ref a1)) ∨ ∃ x, s = .d x ∧ x ∈ oddL d wd xs ∧ isLstD x = false := by
      intro s hs
      simp only [oddS, List.mem_append, List.mem_cons, List.not_mem_nil, or_false] at hs
      rcases hs with (rfl | rfl | rfl | rfl | rfl) | (rfl | rfl | rfl | rfl | rfl | rfl | rfl)
      rotate_left 3
      · exact Or.inl rfl
      all_goals exact Or.inr ⟨_, rfl, by simp [oddL], rfl⟩
    have ll : k2.1.toNat < (oddS d wd xs a1).length := lt
    exact ⟨_, List.getElem?_eq_getElem ll, all _ (List.getElem_mem ll)⟩
  refine sm_seq (sm_set (i := 4) (ev_pickM (i := 3) (ss := oddS d wd xs a1) rfl (ev_callB (i := 0) rfl (es_cons ev_int es_nil) rfl ar_nil rfl got2) rfl (Int.toNat_of_nonneg u0).symm eO) ?_)
  show Sm _ [.l k2.2.ds, .d d, .d (.int (wn : Int)), .lm (arL (oddS d wd xs a1)), sO, .un, .wa a1 [d]] _
  refine via (A := TK × Sl) (fun a => [.l k2.2.ds, .d d, .d (.int (wn : Int)), .lm (arL (oddS d wd xs a1)), a.1.sl, .un, a.2]) (fun a => GoK a.1 ∧ tm a.1.x = false ∧ Bd 15 100000 a.1.x) (fun rest => ?_) ?_
  · rcases mO with rfl | ⟨x, rfl, mx, nl⟩
    · refine sm_take (i := 6) (j := 4) rfl rfl ?_
      have b := OD (.list [d]) (by simp [oddL])
      exact rest (.lst a1 [d], .any) ⟨⟨rfl, b.1.mono (Nat.le_refl _) (by decide)⟩, b.2, b.1⟩
    · refine sm_exact (j := 4) rfl fun v => ?_
      have b := OD x mx
      exact rest (.dat v x, _) ⟨⟨nl, b.1.mono (Nat.le_refl _) (by decide)⟩, b.2, b.1⟩
  rintro ⟨q, s6⟩ ⟨gq, nq, bq⟩
  refine viaS (A := TK) (fun r => [.l k3.2.ds, .d d, .d (.int (wn : Int)), .lm (arL (oddS d wd xs a1)), q.sl, r.sl, s6]) (fun r => GoK r ∧ wholeB 0 100 r.x = false ∧ Bd 15 100000 r.x) (fun rest2 => ?_) ?_
  · by_cases j5 : k3.1 = 5
    · refine sm_seq (sm_pick1 (i := 5) (k := 5) (m := 8) (xs := [.int 0]) (ew_skip ev_negC (ew_skip ev_int (ew_skip ev_bl (ew_skip ev_non (ew_skip ev_str (ew_here (ys := [.int (10 ^ (29 : Int).toNat), .bool false]) (el_lst (eds_cons ev_int eds_nil)) (fun a => (eds_cons (ev_op ev_int ev_int (fv_intC ⟨by decide, by decide, by decide⟩)) (eds_cons ev_bl eds_nil))))))))) (by rw [sizeLine_eq]; decide) (fun a => _) (fun a => ev_callB (i := 0) rfl (es_cons ev_int es_nil) rfl ar_nil rfl got3) (fun a => rfl) j5 (fun a4 => ?_))
      have b := many_bd (.list [.int 0]) (by simp [manyL])
      exact rest2 (.lst a4 [.int 0]) ⟨⟨rfl, b.1.mono (Nat.le_refl _) (by decide)⟩, b.2, b.1⟩
    · obtain ⟨x, b3, mx, nl⟩ : ∃ x, atI manyL k3.1 = some x ∧ x ∈ manyL ∧ isLstD x = false := by
        have lt : k3.1.toNat < manyL.length := by show k3.1.toNat < 8; omega
        have e := List.getElem?_eq_getElem lt
        refine ⟨manyL[k3.1.toNat], ?_, List.getElem_mem lt, ?_⟩
        · have := at_nat e
          rw [Int.toNat_of_nonneg v0] at this
          exact this
        · have h : ∀ i : Fin 8, i.val ≠ 5 → isLstD (manyL[i.val]'(show i.val < 8 from i.isLt)) = false := by decide
          exact h ⟨k3.1.toNat, lt⟩ (by show k3.1.toNat ≠ 5; omega)
      refine sm_seq (sm_set (ev_op (Ev.of_el (el_lst (xs := manyL) (eds_cons ev_negC (eds_cons ev_int (eds_cons ev_bl (eds_cons ev_non (eds_cons ev_str (eds_cons (Ev.of_el (el_lst (eds_cons ev_int eds_nil))) (eds_cons (ev_op ev_int ev_int (fv_intC ⟨by decide, by decide, by decide⟩)) (eds_cons ev_bl eds_nil)))))))) (by show 8 ≤ sizeLine; rw [sizeLine_eq]; decide))) (ev_callB (i := 0) rfl (es_cons ev_int es_nil) rfl ar_nil rfl got3) (fv_ixL b3)) ?_)
      refine sm_exact (j := 5) rfl fun v => ?_
      have b := many_bd x mx
      exact rest2 (.dat v x) ⟨⟨nl, b.1.mono (Nat.le_refl _) (by decide)⟩, b.2, b.1⟩
  rintro r ⟨gr, nr, br⟩
  refine sm_exact (j := 1) rfl fun vd => sm_exact (j := 2) rfl fun vw => ?_
  show Sm _ [.l k3.2.ds, (TK.dat vd d).sl, (TK.dat vw (.int (wn : Int))).sl, .lm (arL (oddS d wd xs a1)), q.sl, r.sl, s6] _
  have okq := ok2_of bq (by decide)
  have okd := ok2_of bd (by decide)
  have odd1 : ∀ (z : TK) (way : Int), (way = 0 ∨ way = 1) → tCaught [.p (exactMo q.v q.x), .p (exactMo z.v z.x), .d (.int way)] fun u => u = .p (pairMo "term" (.p (exactMo q.v q.x))) := fun z way hw => ⟨way, _, _, _, q.x, z.x, "term", _, rfl, tk_isd q, tk_isd z, okq, Or.inl ⟨hw, rfl⟩, Or.inl ⟨nq, rfl, rfl⟩, rfl⟩
  have num1 : ∀ (way : Int), (way = 0 ∨ way = 1) → tCaught [.p (exactMo (TK.dat vd d).v (TK.dat vd d).x), .p (exactMo r.v r.x), .d (.int way)] fun u => u = .p (pairMo "number" (.p (exactMo r.v r.x))) := fun way hw => ⟨way, _, _, _, d, r.x, "number", _, rfl, tk_isd (.dat vd d), tk_isd r, okd, Or.inl ⟨hw, rfl⟩, Or.inr (Or.inl ⟨td, nr, rfl, rfl⟩), rfl⟩
  refine sm_seq (sm_setLM (i := 6) (elp_lst (es_cons (ev_caughtK (i := 4) (j := 5) (wd := "term") q rfl rfl (odd1 r 0 (Or.inl rfl))) (es_cons (ev_caughtK (i := 4) (j := 2) (wd := "term") (r := .dat vw (.int (wn : Int))) q rfl rfl (odd1 _ 1 (Or.inr rfl))) es_nil))) ?_)
  refine sm_seq (sm_setLM (i := 6) (elp_cat (i := 6) rfl (elp_lst (es_cons (ev_caughtK (i := 1) (j := 5) (wd := "number") (q := .dat vd d) r rfl rfl (num1 1 (Or.inr rfl))) (es_cons (ev_caughtK (i := 1) (j := 5) (wd := "number") (q := .dat vd d) r rfl rfl (num1 0 (Or.inl rfl))) es_nil))) (by simp [sizeLine_eq])) ?_)
  show Sm _ [.l k3.2.ds, (TK.dat vd d).sl, (TK.dat vw (.int (wn : Int))).sl, .lm (arL (oddS d wd xs a1)), q.sl, r.sl, .lm (arL [.p (pairMo "term" (.p (isV q.v))), .p (pairMo "term" (.p (isV q.v))), .p (pairMo "number" (.p (isV r.v))), .p (pairMo "number" (.p (isV r.v)))])] _
  generalize arL (oddS d wd xs a1) = LS at *
  refine sm_seq (sm_moreK (i := 4) (q := q) rfl gq.l bq ?_)
  refine sm_seq (sm_moreK (i := 5) (q := r) rfl gr.l br ?_)
  have bq' := up_bd gq.l bq
  have br' := up_bd gr.l br
  refine sm_ret (ev_prB fun c A σ H R => ?_) ⟨_, rfl, kr⟩
  obtain ⟨eq4, dq⟩ := R.tk (q := TK.up q) (i := 4) rfl
  obtain ⟨eq5, dr⟩ := R.tk (q := TK.up r) (i := 5) rfl
  have up : ∀ (z : TK) (wd : Str) (u : V), Dn H (TK.up z).v (TK.up z).x → (pairMo wd (.p (isV z.v))).P u (OW.vw c.Z A H) → Dn H u (.tuple [.str wd, (TK.up z).x]) := fun z wd u dz hu => by
    obtain ⟨t, y, eu, et, hv⟩ := hu
    obtain rfl : y = z.v := hv
    subst eu
    rw [TK.up_v] at dz
    exact .tup (vw_sub _ _ et) (.cons (.str _) (.one dz))
  obtain ⟨b6, us, e60, e61, e62, o6⟩ := R.sl 6 _ rfl
  have dn6 : Dn H (.ref b6) (.list [.tuple [.str "term", (TK.up q).x], .tuple [.str "term", (TK.up q).x], .tuple [.str "number", (TK.up r).x], .tuple [.str "number", (TK.up r).x]]) := .lst e62 (four_dn (show ArAll (OW.vw c.Z A H) us [.p (pairMo "term" (.p (isV q.v))), .p (pairMo "term" (.p (isV q.v))), .p (pairMo "number" (.p (isV r.v))), .p (pairMo "number" (.p (isV r.v)))] from o6) (fun u => up q _ u dq) (fun u => up q _ u dq) (fun u => up r _ u dr) (fun u => up r _ u dr))
  have BB : Bd 18 800000 (.list [.tuple [.str "term", (TK.up q).x], .tuple [.str "term", (TK.up q).x], .tuple [.str "number", (TK.up r).x], .tuple [.str "number", (TK.up r).x]]) := by
    have bt : Bd 15 220 (.str "term") := (Bd.wd (w := "term")).mono (by decide) (by decide)
    have bn : Bd 15 220 (.str "number") := (Bd.wd (w := "number")).mono (by decide) (by decide)
    have p1 := Bd.tup (BdAll.cons bt (BdAll.one bq'))
    have p2 := Bd.tup (BdAll.cons bn (BdAll.one br'))
    exact (Bd.lst (BdAll.cons p1 (BdAll.cons p1 (BdAll.cons p2 (BdAll.one p2))))).mono (by omega) (by omega)
  refine pr_reprEq (pr_var e61 dn6) ?_ BB (by decide) (by decide)
  have one : ∀ {i : Nat} {v : V} {wd : Str} {x : PyData}, σ[i]? = some (some v) → Dn H v x → Pr (tOp rRep (tLst (tCons (tTup (tCons (tC (.str wd)) (tCons (tVar i) tNil))) tNil)) (tC (.int 2))) σ H (.d (.list [.tuple [.str wd, x], .tuple [.str wd, x]])) := fun {i v wd x} e dx =>
    pr_op (pr_lst (xs := [.tuple [.str wd, x]]) (prs_cons (pr_pair (pr_var (s := .d x) e dx)) prs_nil)) (pr_c (s := .d (.int 2)) fun _ => .int 2) (fv_repL ⟨by decide, by decide, by simp⟩)
  exact pr_op (one eq4 dq) (one eq5 dr) (fv_catL (by simp [sizeLine_eq]))
end
end KP
set_option Elab.async false
set_option linter.unusedVariables false
set_option linter.unusedSectionVars false
set_option maxRecDepth 100000
set_option maxHeartbeats 2000000
namespace KP
open PySem PySem.Spec PyProof.Rows L2 KA OW
/-! ### how long a shown term is when it is shown once more -/
def low (w : Str) : Prop := ∀ c ∈ w.cps.toList, c < 128
theorem low_app {a b : Str} (h : low a) (g : low b) : low (a ++ b) := fun c hc => by
  rw [Str.cps_append, Array.toList_append, List.mem_append] at hc
  exact hc.elim (h c) (g c)
theorem low_of {a : Str} (h : (a.cps.toList.all fun c => decide (c < 128)) = true) : low a := fun c hc => of_decide_eq_true (List.all_eq_true.mp h c hc)
theorem numS_low {n : Nat} : low (numS n) := fun c hc => by
  rw [numS_codes] at hc
  obtain ⟨ch, hch, e⟩ := List.mem_map.mp hc
  have d := Nat.isDigit_of_mem_toDigits (by decide) (by decide) hch
  have u : ch.val ≤ '9'.val := by
    unfold Char.isDigit at d
    simp only [Bool.and_eq_true, decide_eq_true_eq] at d
    exact d.2
  have : ch.toNat ≤ 57 := u
  omega
theorem name_low {x : Str} (h : nameX x = true) : low x := fun c hc => by
  unfold nameX at h
  simp only [Bool.and_eq_true, decide_eq_true_eq, List.all_eq_true] at h
  have := h.2.2 c hc
  unfold letterB at this
  simp only [Bool.and_eq_true, decide_eq_true_eq] at this
  omega
theorem xw_low {n : Nat} : low (xw n) := low_app (low_of (by decide +kernel)) numS_low
theorem lw_low {l : Lf} (h : l.ok = true) : low l.w := by
  cases l with
  | kind n => exact low_app (low_of (by decide +kernel)) numS_low
  | name s => exact low_app (low_of (by decide +kernel)) (name_low h)
  | thing s => exact name_low h
  | maker s n =>
    have h : (nameX s && decide (n ≤ 10 ^ 29)) = true := h
    rw [Bool.and_eq_true] at h
    exact low_app (low_app (name_low h.1) (low_of (by decide +kernel))) numS_low
  | eater s n =>
    have h : (nameX s && decide (n ≤ 5)) = true := h
    rw [Bool.and_eq_true] at h
    exact low_app (low_app (name_low h.1) (low_of (by decide +kernel))) numS_low
def lows (ws : List Str) : Prop := ∀ w ∈ ws, low w
theorem lows_app {a b : List Str} (h : lows a) (g : lows b) : lows (a ++ b) := fun w hw => (List.mem_append.mp hw).elim (h w) (g w)
theorem lows_cons {a : Str} {b : List Str} (h : low a) (g : lows b) : lows (a :: b) := fun w hw => by
  rcases List.mem_cons.mp hw with rfl | hw
  · exact h
  · exact g w hw
theorem lows_nil : lows [] := fun w hw => by cases hw
theorem lows_br {b : Bool} {ws : List Str} (h : lows ws) : lows (br b ws) := by
  cases b
  · exact h
  · exact lows_cons (low_of (by decide +kernel)) (lows_app h (lows_cons (low_of (by decide +kernel)) lows_nil))
theorem nms_low : ∀ ar : List Bool, lows (nms ar)
  | [] => lows_nil
  | b :: ar => by
    refine lows_cons ?_ (nms_low ar)
    cases b
    · exact (low_of (by decide +kernel) : low "")
    · exact xw_low
theorem cw_low : ∀ c : Str, c = "all" ∨ c = "fun" ∨ c = ":" ∨ c = sDot ∨ c = sTo ∨ c = "self" ∨ c = "same" ∨ c = "put" → low c := by
  rintro c (rfl | rfl | rfl | rfl | rfl | rfl | rfl | rfl) <;> exact low_of (by decide +kernel)
theorem ws_low : ∀ {t : Tm} {ar : List Bool}, t.ok = true → lows (ws ar t)
  | .at_ n, ar, h => by
    refine lows_cons ?_ lows_nil
    rw [List.getD_eq_getElem?_getD]
    cases e : (nms ar)[n]? with
    | none => exact low_of (by decide +kernel)
    | some w => exact nms_low ar w (List.mem_of_getElem? e)
  | .lf l, ar, h => lows_cons (lw_low h) lows_nil
  | .all a b, ar, h => by
    obtain ⟨ha, hb⟩ := and2 (a := a.ok) (b := b.ok) h
    have w1 := cw_low "all" (by simp)
    have w2 := cw_low ":" (by simp)
    have w3 := cw_low sDot (by simp)
    have w4 := cw_low sTo (by simp)
    unfold ws
    split
    · exact lows_cons w1 (lows_cons xw_low (lows_cons w2 (lows_app (ws_low ha) (lows_cons w3 (ws_low hb)))))
    · exact lows_app (lows_br (ws_low ha)) (lows_cons w4 (ws_low hb))
  | .fn a b, ar, h => by
    obtain ⟨ha, hb⟩ := and2 (a := a.ok) (b := b.ok) h
    exact lows_cons (cw_low "fun" (by simp)) (lows_cons xw_low (lows_cons (cw_low ":" (by simp)) (lows_app (ws_low ha) (lows_cons (cw_low sDot (by simp)) (ws_low hb)))))
  | .app a b, ar, h => by
    obtain ⟨ha, hb⟩ := and2 (a := a.ok) (b := b.ok) h
    exact lows_app (lows_br (ws_low ha)) (lows_br (ws_low hb))
  | .self a b, ar, h => by
    obtain ⟨ha, hb⟩ := and2 (a := a.ok) (b := b.ok) h
    exact lows_cons (cw_low "self" (by simp)) (lows_app (lows_br (ws_low ha)) (lows_br (ws_low hb)))
  | .tri k a b c, ar, h => by
    obtain ⟨hab, hc⟩ := and2 (a := a.ok && b.ok) (b := c.ok) h
    obtain ⟨ha, hb⟩ := and2 hab
    have w : low (triW k) := by
      cases k
      · exact cw_low _ (by simp [triW])
      · exact cw_low _ (by simp [triW])
    exact lows_cons w (lows_app (lows_br (ws_low ha)) (lows_app (lows_br (ws_low hb)) (lows_br (ws_low hc))))
theorem gl_mem : ∀ (us : List (List Nat)) (c : Nat), c ∈ GL.gl us → c = 32 ∨ ∃ w ∈ us, c ∈ w
  | [], c, h => by cases h
  | [w], c, h => Or.inr ⟨w, List.mem_singleton_self _, h⟩
  | w :: v :: r, c, h => by
    have h : c ∈ w ++ ((if w = [40] ∨ v = [41] then [] else [32]) ++ GL.gl (v :: r)) := h
    rw [List.mem_append, List.mem_append] at h
    rcases h with h | h | h
    · exact Or.inr ⟨w, List.mem_cons_self .., h⟩
    · split at h
      · cases h
      · exact Or.inl (List.mem_singleton.mp h)
    · rcases gl_mem (v :: r) c h with h | ⟨x, hx, hc⟩
      · exact Or.inl h
      · exact Or.inr ⟨x, List.mem_cons_of_mem _ hx, hc⟩
theorem glS_low {us : List Str} (h : lows us) : low (GL.glS us) := fun c hc => by
  have hc : c ∈ GL.gl (us.map fun s => s.cps.toList) := by
    unfold GL.glS at hc
    exact hc
  rcases gl_mem _ c hc with rfl | ⟨x, hx, hc⟩
  · decide
  · obtain ⟨w, hw, rfl⟩ := List.mem_map.mp hx
    exact h w hw c hc
theorem shS_ok {n : Nat} {t : Tm} (g : Gd (List.replicate n true) t) (hn : n ≤ 1000) (hs : t.sz ≤ 100) : low (shS n t) ∧ (shS n t).length ≤ 10000 := by
  refine ⟨glS_low (ws_low g.ok), ?_⟩
  have h1 := (ws_ok g.ok g.cl (by rw [cnt_rep]; omega)).2
  have h2 := glS_len (ws (List.replicate n true) t)
  show (GL.glS (ws (List.replicate n true) t)).length ≤ 10000
  omega
/-- what is told, shown -/
theorem told_fits {z : Str} (h : low z) (l : z.length ≤ 10000) : (PyData.tuple [.str "told", .str z]).showable = true ∧ (PyData.tuple [.str "told", .str z]).shown.length ≤ 200000 ∧ (PyData.tuple [.str "told", .str z]).depth ≤ 100 := by
  refine ⟨rfl, ?_, by show 1 ≤ 100; decide⟩
  rw [PyData.shown_tuple, len_app, len_app]
  have j := join_len (PyData.shownAll [.str "told", .str z])
  rw [PyData.shownAll_length] at j
  have e1 : (Str.ofString "(").length = 1 := by decide +kernel
  have e2 : (Str.ofString (if (([.str "told", .str z] : List PyData).length == 1) = true then ",)" else ")")).length ≤ 2 := by
    split <;> decide +kernel
  have e3 : ((PyData.shownAll [.str "told", .str z]).map (·.length)).sum = (PyData.str "told").shown.length + ((PyData.str z).shown.length + 0) := by simp only [PyData.shownAll, List.map_cons, List.map_nil, List.sum_cons, List.sum_nil]
  rw [PyData.shown_str, PyData.shown_str] at e3
  have r1 := StrLaws.reprText_len "told" (by decide +kernel)
  have r2 := StrLaws.reprText_len z fun c hc => Nat.lt_of_lt_of_le (h c hc) (by decide)
  have e4 : ("told" : Str).length = 4 := by decide +kernel
  have e5 : ([.str "told", .str z] : List PyData).length = 2 := rfl
  omega
theorem two_fits {x : PyData} (h1 : x.showable = true) (h2 : x.shown.length ≤ 200000) (h3 : x.depth ≤ 90) : (PyData.list [x, x]).showable = true ∧ (PyData.list [x, x]).shown.length ≤ sizeLine ∧ (PyData.list [x, x]).depth ≤ 100 := by
  refine ⟨?_, ?_, ?_⟩
  · simp only [PyData.showable, PyData.showableAll, h1, Bool.and_self]
  · rw [PyData.shown_list, len_app, len_app]
    have j := join_len (PyData.shownAll [x, x])
    rw [PyData.shownAll_length] at j
    have e1 : (Str.ofString "[").length = 1 := by decide +kernel
    have e2 : (Str.ofString "]").length = 1 := by decide +kernel
    have e3 : ((PyData.shownAll [x, x]).map (·.length)).sum = x.shown.length + (x.shown.length + 0) := by simp only [PyData.shownAll, List.map_cons, List.map_nil, List.sum_cons, List.sum_nil]
    have e5 : ([x, x] : List PyData).length = 2 := rfl
    rw [sizeLine_eq]
    omega
  · show PyData.depthAll [x, x] + 1 ≤ 100
    simp only [PyData.depthAll]
    omega
/-! ### what doesn't fit -/
def wrapT (w : Nat) (t : Tm) : List Tm := [.app (.at_ w) t, .fn t (.at_ (w + 1)), .self t (.at_ (w + 7))]
theorem wrap_ok {w B s a h : Nat} {t : Tm} (d : Dt w B s a h t) (hB : B ≤ 100000) (hw : w ≤ 1000) (hs : s ≤ 20000) (ha : a < 62) : ∀ u ∈ wrapT w t, u.ok = true ∧ u.sz ≤ s + 2 ∧ (fr 0 u).length < 64 ∧ u.hg ≤ h + 1 ∧ ((fr 0 u).all fun i => decide (i < w)) = false := by
  have ok := okB_ok (okB_mono hB d.ok)
  have ow : ∀ k, k ≤ 2000 → (Tm.at_ k).ok = true := fun k hk => decide_eq_true (by omega)
  have l0 := fr_ats t 0
  have la := d.at_
  have ls := d.sz
  have lh := d.hg
  have ph := hg_pos t
  have nlt : ∀ k, w ≤ k → decide (k < w) = false := fun k hk => decide_eq_false (by omega)
  intro u hu
  simp only [wrapT, List.mem_cons, List.not_mem_nil, or_false] at hu
  rcases hu with rfl | rfl | rfl
  · have e : fr 0 (.app (.at_ w) t) = w :: fr 0 t := by
      show fr 0 (.at_ w) ++ fr 0 t = _
      rw [show fr 0 (.at_ w) = [w] from if_pos (Nat.zero_le w)]
      rfl
    refine ⟨?_, ?_, ?_, ?_, ?_⟩
    · show ((Tm.at_ w).ok && t.ok) = true
      rw [ow w (by omega), ok]
      rfl
    · show 1 + t.sz + 1 ≤ _
      omega
    · rw [e, List.length_cons]
      omega
    · show max 1 t.hg + 1 ≤ _
      omega
    · rw [e, List.all_cons, nlt w (Nat.le_refl _)]
      rfl
  · have e : fr 0 (.fn t (.at_ (w + 1))) = fr 0 t ++ [w] := by
      show fr 0 t ++ fr 1 (.at_ (w + 1)) = _
      rw [show fr 1 (.at_ (w + 1)) = [w + 1 - 1] from if_pos (by omega)]
      rfl
    refine ⟨?_, ?_, ?_, ?_, ?_⟩
    · show (t.ok && (Tm.at_ (w + 1)).ok) = true
      rw [ow (w + 1) (by omega), ok]
      rfl
    · show t.sz + 1 + 1 ≤ _
      omega
    · rw [e, List.length_append, List.length_singleton]
      omega
    · show max t.hg 1 + 1 ≤ _
      omega
    · rw [e, List.all_append, List.all_cons, nlt w (Nat.le_refl _), Bool.false_and, Bool.and_false]
  · have e : fr 0 (.self t (.at_ (w + 7))) = fr 0 t ++ [w + 7] := by
      show fr 0 t ++ fr 0 (.at_ (w + 7)) = _
      rw [show fr 0 (.at_ (w + 7)) = [w + 7] from if_pos (Nat.zero_le _)]
    refine ⟨?_, ?_, ?_, ?_, ?_⟩
    · show (t.ok && (Tm.at_ (w + 7)).ok) = true
      rw [ow (w + 7) (by omega), ok]
      rfl
    · show t.sz + 1 + 1 ≤ _
      omega
    · rw [e, List.length_append, List.length_singleton]
      omega
    · show max t.hg 1 + 1 ≤ _
      omega
    · rw [e, List.all_append, List.all_cons, nlt (w + 7) (by omega), Bool.false_and, Bool.and_false]
theorem fits_all {w B s a h : Nat} {t : Tm} (d : Dt w B s a h t) : ((fr 0 t).all fun i => decide (i < w)) = true := List.all_eq_true.mpr fun i hi => decide_eq_true (d.cl i hi)
/-! ### what is caught of what is drawn -/
theorem got_told {way : Int} {w B s a h : Nat} {t : Tm} (d : Dt w B s a h t) (hB : B ≤ 100000) (hs : s ≤ 1000) (ha : a < 64) (hw : w ≤ 100) (hy : (way = 0 ∨ way = 1) ∨ way = 2 ∧ w = 0) : tCaught [.d t.d, .d (.int (w : Int)), .d (.int way)] fun r => r = .p (pairMo "told" (.d (.str (shS w t)))) := by
  have g := gd_of d hB (by omega) ha (by omega)
  have ls := d.sz
  have ok := okB_ok (okB_mono hB d.ok)
  have l0 := fr_ats t 0
  have la := d.at_
  have fine := (bd_d ok).1
  have nd := nodes_d t
  refine ⟨way, _, _, .d (.int (w : Int)), t.d, .int (w : Int), "told", _, rfl, .d _, .d _, ⟨fine, by omega⟩, ?_, Or.inr (Or.inr ⟨t, w, rfl, rfl, hw, tm_d ok, ok, by omega, by omega, Or.inr ⟨fits_all d, g, rfl, rfl⟩⟩), rfl⟩
  rcases hy with hy | ⟨hy, rfl⟩
  · exact Or.inl ⟨hy, rfl⟩
  · exact Or.inr ⟨hy, rfl, rfl⟩
theorem got_unfit {w s : Nat} {u : Tm} (hw : w ≤ 100) (hs : s ≤ 1000) (ok : u.ok = true) (sz : u.sz ≤ s) (fl : (fr 0 u).length < 64) (nf : ((fr 0 u).all fun i => decide (i < w)) = false) : tCaught [.d u.d, .d (.int (w : Int)), .d (.int 0)] fun r => r = .p (pairMo "fit" (.d u.d)) := by
  have nd := nodes_d u
  exact ⟨0, _, _, .d (.int (w : Int)), u.d, .int (w : Int), "fit", _, rfl, .d _, .d _, ⟨(bd_d ok).1, by omega⟩, Or.inl ⟨Or.inl rfl, rfl⟩, Or.inr (Or.inr ⟨u, w, rfl, rfl, hw, tm_d ok, ok, by omega, fl, Or.inl ⟨nf, rfl, rfl⟩⟩), rfl⟩
end KP
set_option Elab.async false
set_option linter.unusedVariables false
set_option linter.unusedSectionVars false
set_option maxRecDepth 100000
set_option maxHeartbeats 4000000
namespace OW
open PySem PySem.Spec PyProof.Rows L2 KA
section
variable {ρ ρ' ρ1 ρ2 : List Sl} {te ta tb ti : TE} {i j k : Nat} {K' : KK} {K KF : PySem.W.Frag} {ns : List Int}
theorem sm_purse {E E' : XK} (h0 : ρ[0]? = some (.p (scrMo K ns))) (h1 : ρ[1]? = some (.d (.int (j : Int)))) (q : ∀ p, KP.PuOk p 0 → K'.nx (ρ.set i (.l p.ds))) (i0 : i ≠ 0 := by decide) (hi : i < ρ.length := by simp [uns]) :
    Sm (tAsg (tCall KP.spPurse [] E (tCons (tCall (KP.spCell K) [] E' (tCons (tVar 0) (tCons (tVar 1) tNil))) tNil)) (gName i)) ρ K' := fun c A σ H D R f dk => by
  obtain ⟨_, u, e0, a, rfl, hS⟩ := R.sl 0 _ h0
  obtain ⟨_, v, e1, dn⟩ := R.sl 1 _ h1
  obtain rfl := int_v dn
  refine ⟨_, e0, _, e1, a, ns, j, rfl, sql_mono vw_sub hS, fun z => ⟨z, rfl, fun p H' np S pu => ?_⟩⟩
  obtain ⟨x, y, z, ep, b⟩ := pu
  have R1 := R.adopt (Aft.of S (by rw [hz_eq]; exact R.tb)) np ep
  exact dk.nx _ _ _ _ (q ⟨x, y, z⟩ b) (R1.setL (xs := KP.Pu.ds ⟨x, y, z⟩) i0 hi aset_at ep (.cons (.int _) (.cons (.int _) (.one (.int _))))) aset_at
theorem ev_putP {x : PyData} {P : Mo} (h : Ev te ρ (.p P) ρ') (is : Isd (.p P) x) : Ev te ρ (.d x) ρ' := h.as is
/-- an or whose second holds -/
theorem et_reprNeF {x : PyData} (ha : Ev ta ρ (.d x) ρ') (hb : Ev tb ρ' (.d x) ρ') (h1 : x.showable = true) (h2 : x.shown.length ≤ sizeLine) (h3 : x.depth ≤ 100) : Et (tTest (tOp rNe (tCB rRepr (tCons ta tNil)) (tCB rRepr (tCons tb tNil)))) ρ false ρ' :=
  (et_test (ev_op (ev_fn (es_cons ha es_nil) (fv_repr h1 h2 h3)) (ev_fn (es_cons hb es_nil) (fv_repr h1 h2 h3)) fv_neS)).is (by simp)
end
end OW
namespace KP
open PySem PySem.Spec PyProof.Rows L2 KA OW
abbrev sLaw : Stmt := top 51
abbrev nLaw : List Str := ["_law_script", "_law_k", "_law_box_here", "_law_large", "_law_wide", "_law_whole", "_law_due", "_law_closed", "_law_wrap", "_law_beyond"]
theorem scLaw : FnScope nLaw ["_law_script"] (defScope sLaw) := ⟨rfl, rfl, rfl, by decide +kernel, rfl, by decide +kernel, by decide +kernel⟩
def spLaw (K : PySem.W.Frag) : Sp := fun vs H Q _ => ∃ (a : Addr) (ns : List Int), vs = [.ref a] ∧ (∀ b, tabA b → H b = some (.tbl #[])) ∧ SqL K H a (ns.map V.int) ∧ ns.length ≤ 63 ∧ ∀ H', Q (.bl true) H'
structure CalG (P : Program) (w : World) (K : PySem.W.Frag) (mg : Str → Option Value) (base : Heap) (k : Nat) (x : Str) (ps : List Str) (sp : Sp) : Prop where
  ex : ∃ (f : Addr) (fd : FuncData), FnG P w K mg base CX0 k f fd ps sp ∧ mg x = some (.ref f) ∧ PySem.W.keepIn K (.ref f) = true ∧ Binds K fd ps []
theorem pe_g {X : Cx} {j k : Nat} {x : Str} {ps : List Str} {sp : Sp} {p pos : Pos} {e : Expr} {es : List Expr} {t : TA} (c : CalG X.prog X.w X.K X.mg X.base k x ps sp) (quiet : X.A.guards = some []) (room : Room j X.A) (hk : k ≤ j) (glob : Gl X x) (args : PA X (e :: es) t)
    (nd : (x == ("__debug__" : Str)) = false := by decide) (st : starEach (e :: es) X.env = (false, eval e X.env) :: starEach es X.env := by rfl) (plain : (backTo pos (starEach es X.env)).any (·.1) = false := by rfl) : PE X (.Call (.Name x p) (e :: es) [] pos) (tCall sp [] C8.E0 t) := by
  obtain ⟨f, fd, F, m, kp, b⟩ := c.ex
  exact pe_callG F quiet (room.mono hk) glob m kp b args nd st plain
structure Calls (P : Program) (w : World) (K : PySem.W.Frag) (mg : Str → Option Value) (base : Heap) : Prop where
  cell : C8.Cal P w K mg base 1 "_law_cell" (spCell K) []
  box : C8.Cal P w K mg base 1 "_law_box" spPurse []
  take : C8.Cal P w K mg base 1 "_law_take" (spB 1 tTake) []
  term : C8.Cal P w K mg base 18 "_law_term" (spB 2 (tTermL 6)) []
  text : C8.Cal P w K mg base 22 "_law_text" (spD 2 (tText 10)) []
  caught : C8.Cal P w K mg base 7 "_law_caught" (spD 3 tCaught) []
  right : CalG P w K mg base 10 "_law_refused_right" ["_law_box_here", "_law_whole", "_law_wide"] (spB 2 tRefused)
section
variable {P : Program} {w : World} {K : PySem.W.Frag} {mg : Str → Option Value} {base : Heap}
theorem ok_law {f : Addr} {fd : FuncData} (F : Fun K "law" "law" sLaw f fd) (T : Txt K w mg) (Y : Calls P w K mg base) : FnG P w K mg base CX0 40 f fd ["_law_script"] (spLaw K) := by
  have ⟨C_law_cell, C_law_box, C_law_take, C_law_term, C_law_text, C_law_caught, G_law_refused_right⟩ := Y
  refine fnG (k := 39) F scLaw (fun vs H Q E h => ?_) (fun cdv A outer s H vs Q E g hr h => ?_)
  · obtain ⟨a, ns, rfl, _⟩ := h
    rfl
  obtain ⟨a, ns, rfl, tb, hS, hl, fin⟩ := h
  have hu : (A.deeper (envOfC "law" (defScope sLaw) s.heap.objs.size f cdv)).units + 200 < cLine := by have := hr.un; omega
  have hg : (cxOf CX0 P w K mg base nLaw "law" (defScope sLaw) f cdv A outer s H E).nox.A.guards = some [] := g
  refine ⟨_, PSs.nox (pss_cons (ps_for PassesOwn.never rfl (pi_range1 (by rfl) T.range (pa_cons (pe_callB (call_max2 rfl) (by rfl) T.max (by decide +kernel) (pa_cons pe_int (pa_cons (pe_callB (call_min2 rfl) (by rfl) T.min (by decide +kernel) (pa_cons pe_int (pa_cons (pe_callB call_len_seq (by rfl) T.len PySem.boot_len (pa_cons (pv 0) pa_nil)) pa_nil))) pa_nil))) pa_nil)) (pg_name (i := 1) scLaw.nd rfl (Or.inl rfl)) (pss_cons (ps_set (i := 2) scLaw.nd rfl (Or.inl rfl) (C8.pe_c C_law_box hr (by omega) rfl (pa_cons (C8.pe_c C_law_cell hr (by omega) rfl (pa_cons (pv 0) (pa_cons (pv 1) pa_nil))) pa_nil)))
      (pss_cons (ps_set (i := 3) scLaw.nd rfl (Or.inl rfl) (C8.pe_c C_law_take hr (by omega) rfl (pa_cons (pv 2) (pa_cons pe_int pa_nil))))
      (pss_cons (ps_set (i := 4) scLaw.nd rfl (Or.inl rfl) (pe_ifExp (pt_cmpR op_eq (pv 3) pe_int (nomark _)) pe_int (C8.pe_c C_law_take hr (by omega) rfl (pa_cons (pv 2) (pa_cons pe_int pa_nil)))))
      (pss_cons (ps_set (i := 5) scLaw.nd rfl (Or.inl rfl) (C8.pe_c C_law_term hr (by omega) rfl (pa_cons (pv 2) (pa_cons (pe_op op_add pe_int (C8.pe_c C_law_take hr (by omega) rfl (pa_cons (pv 2) (pa_cons pe_int pa_nil)))) (pa_cons (pv 4) pa_nil)))))
      (pss_cons (ps_set (i := 6) scLaw.nd rfl (Or.inl rfl) (pe_tup (pa_cons pe_str (pa_cons (pe_ix ix_tup (C8.pe_c C_law_text hr (by omega) rfl (pa_cons (pv 5) (pa_cons (pv 4) pa_nil))) pe_int (fun _ _ => rfl)) pa_nil))))
      (pss_cons (ps_if (pt_cmpR op_ne (pe_callB (call_repr hg hu) (by rfl) T.repr (by decide +kernel) (pa_cons (pe_lst (pa_cons (C8.pe_c C_law_caught hr (by omega) rfl (pa_cons (pv 5) (pa_cons (pv 4) (pa_cons pe_int pa_nil)))) (pa_cons (C8.pe_c C_law_caught hr (by omega) rfl (pa_cons (pv 5) (pa_cons (pv 4) (pa_cons pe_int pa_nil)))) pa_nil))) pa_nil)) (pe_callB (call_repr hg hu) (by rfl) T.repr (by decide +kernel) (pa_cons (pe_lst (pa_cons (pv 6) (pa_cons (pv 6) pa_nil))) pa_nil)) (nomark _)) (pss_one (ps_ret pe_bl)) pss_nil) (pss_cons (ps_set (i := 7) scLaw.nd rfl (Or.inl rfl) (C8.pe_c C_law_term hr (by omega) rfl (pa_cons (pv 2) (pa_cons pe_int (pa_cons pe_int pa_nil)))))
      (pss_cons (ps_if (pt_cmpR op_ne (pe_callB (call_repr hg hu) (by rfl) T.repr (by decide +kernel) (pa_cons (C8.pe_c C_law_caught hr (by omega) rfl (pa_cons (pv 7) (pa_cons pe_int (pa_cons pe_int pa_nil)))) pa_nil)) (pe_callB (call_repr hg hu) (by rfl) T.repr (by decide +kernel) (pa_cons (pe_tup (pa_cons pe_str (pa_cons (pe_ix ix_tup (C8.pe_c C_law_text hr (by omega) rfl (pa_cons (pv 7) (pa_cons pe_int pa_nil))) pe_int (fun _ _ => rfl)) pa_nil))) pa_nil)) (nomark _)) (pss_one (ps_ret pe_bl)) pss_nil) (pss_cons (ps_set (i := 8) scLaw.nd rfl (Or.inl rfl) (pe_lst (pa_cons (pe_tup (pa_cons pe_str (pa_cons (pe_tup (pa_cons pe_str (pa_cons (pv 4) pa_nil))) (pa_cons (pv 5) pa_nil)))) (pa_cons (pe_tup (pa_cons pe_str (pa_cons (pv 5) (pa_cons (pe_tup (pa_cons pe_str (pa_cons (pe_op op_add (pv 4) pe_int) pa_nil))) pa_nil)))) (pa_cons (pe_tup (pa_cons pe_str (pa_cons (pv 5) (pa_cons (pe_tup (pa_cons pe_str (pa_cons (pe_op op_add (pv 4) pe_int) pa_nil))) pa_nil)))) pa_nil)))))
      (pss_cons (ps_set (i := 9) scLaw.nd rfl (Or.inl rfl) (pe_ix ix_list (pv 8) (C8.pe_c C_law_take hr (by omega) rfl (pa_cons (pv 2) (pa_cons pe_int pa_nil))) (fun _ _ => rfl)))
      (pss_one (ps_if (PW.pt (pw_or (pt_cmpR op_ne (pe_callB (call_repr hg hu) (by rfl) T.repr (by decide +kernel) (pa_cons (C8.pe_c C_law_caught hr (by omega) rfl (pa_cons (pv 9) (pa_cons (pv 4) (pa_cons pe_int pa_nil)))) pa_nil)) (pe_callB (call_repr hg hu) (by rfl) T.repr (by decide +kernel) (pa_cons (pe_tup (pa_cons pe_str (pa_cons (pv 9) pa_nil))) pa_nil)) (nomark _)) (pw_or1 (pt_not (pt_val (pe_g G_law_refused_right hg hr (by omega) rfl (pa_cons (pv 2) (pa_cons (pv 5) (pa_cons (pv 4) pa_nil))))))))) (pss_one (ps_ret pe_bl)) pss_nil)))))))))))))
      (pss_one (ps_ret pe_bl))), ?_⟩
  refine (?main : Sm _ ([.p (scrMo K ns)] ++ uns (nLaw.length - 1)) { nx := fun _ => False, rt := fun r _ => r = .d (.bool true) }) ⟨tabA, none, H, hz tabA H⟩ _ _ H _ (rp_start (N := nLaw) (n := 1) (by decide) (zok_tabs tb) ⟨⟨a, rfl, sql_tabs tb hS⟩, trivial⟩ rfl) rfl ⟨fun _ _ _ _ z => z.elim, fun r ρ v A' σ' H' k R o => ?ret, fun _ _ _ _ z => z.elim, fun _ _ _ _ z => z.elim⟩
  case ret =>
    subst k
    obtain rfl := bool_v o.2
    exact fin H'
  clear fin hS tb
  have small : ∀ j : Int, -2 ^ 62 ≤ (if (if j < 5 then j else 5) > 2 then (if j < 5 then j else 5) else 2) ∧ (if (if j < 5 then j else 5) > 2 then (if j < 5 then j else 5) else 2) < 2 ^ 62 := fun j => by
    split <;> split <;> constructor <;> omega
  have mN : maxN = 1000000000 := rfl
  refine sm_seq (sm_for (fi_rng1 (eds_cons (ev_fn (es_cons ev_int (es_cons (ev_fn (es_cons ev_int (es_cons (ev_fn (es_cons (ev_varp rfl) es_nil) fv_lenScr) es_nil)) fv_min2) es_nil)) fv_max2) eds_nil) (small _)) (fun j ρ => ∃ s1 s2 s3 s4 s5 s6 s7 s8 s9, ρ = [.p (scrMo K ns), s1, s2, s3, s4, s5, s6, s7, s8, s9]) ⟨_, _, _, _, _, _, _, _, _, rfl⟩ (fun j x ρ ex r => ?_) (fun ρ r => ?_))
  · obtain ⟨s1, s2, s3, s4, s5, s6, s7, s8, s9, rfl⟩ := r
    obtain ⟨_, rfl⟩ := rngD_at ex
    refine ⟨_, tg_name, ?_⟩
    refine sm_seq (sm_purse rfl rfl (fun pu hp => ?_))
    obtain ⟨u0, u1, u2⟩ := takeF_ok (m := 8) hp (by decide)
    have got1 := got_take hp (by omega) (m := 8) (by decide) (by decide)
    generalize takeF pu 8 = k1 at *
    refine sm_seq (sm_set (ev_callB (i := 2) rfl (es_cons ev_int es_nil) rfl ar_nil rfl got1) ?_)
    -- how wide
    refine viaS (A := Nat × Pu) (fun a => [.p (scrMo K ns), .d (.int (j : Int)), .l a.2.ds, .d (.int k1.1), .d (.int (a.1 : Int)), s5, s6, s7, s8, s9]) (fun a => a.1 ≤ 100 ∧ PuOk a.2 2) (fun rest => ?_) ?_
    · by_cases h5 : k1.1 = 5
      · exact sm_seq (sm_set (ev_if (b := true) (s := .d (.int 100)) ((et_test (ev_op (ev_var rfl) ev_int fv_eqI)).is (decide_eq_true h5)) (fun _ => ev_int) (fun z => by cases z)) (rest (100, k1.2) ⟨Nat.le_refl _, u2.more (by omega)⟩))
      · obtain ⟨v0, v1, v2⟩ := takeF_ok (m := 13) u2 (by decide)
        have got2 := got_take u2 (by omega) (m := 13) (by decide) (by decide)
        generalize takeF k1.2 13 = k2 at *
        have e : k2.1 = ((k2.1.toNat : Nat) : Int) := (Int.toNat_of_nonneg v0).symm
        refine sm_seq (sm_set (ev_if (b := false) (s := .d (.int k2.1)) ((et_test (ev_op (ev_var rfl) ev_int fv_eqI)).is (decide_eq_false h5)) (fun z => by cases z) (fun _ => ev_callB (i := 2) rfl (es_cons ev_int es_nil) rfl ar_nil rfl got2)) ?_)
        have := rest (k2.1.toNat, k2.2) ⟨by show k2.1.toNat ≤ 100; omega, v2⟩
        rw [show (((k2.1.toNat, k2.2) : Nat × Pu).1 : Int) = k2.1 from e.symm] at this
        exact this
    rintro ⟨wn, p2⟩ ⟨hw, hp2⟩
    have hw : wn ≤ 100 := hw
    have hp2 : PuOk p2 2 := hp2
    show Sm _ [.p (scrMo K ns), .d (.int (j : Int)), .l p2.ds, .d (.int k1.1), .d (.int (wn : Int)), s5, s6, s7, s8, s9] _
    clear got1 u0 u1 u2
    obtain ⟨v0, v1, v2⟩ := takeF_ok (m := 4) hp2 (by decide)
    have got3 := got_take hp2 (by omega) (m := 4) (by decide) (by decide)
    generalize takeF p2 4 = k3 at *
    have v2 : PuOk k3.2 3 := v2
    -- the drawn term
    have ed : 1 + k3.1 = ((1 + k3.1.toNat : Nat) : Int) := by omega
    have hd : 1 + k3.1.toNat ≤ 4 := by omega
    generalize 1 + k3.1.toNat = dp at *
    have cs : ∀ {d : Nat}, d ≤ 4 → csD d ≤ 1236 ∧ szD d ≤ 46 ∧ atD d ≤ 31 := by
      intro d h
      match d, h with
      | 0, _ => decide
      | 1, _ => decide
      | 2, _ => decide
      | 3, _ => decide
      | 4, _ => decide
    obtain ⟨c1, c2, c3⟩ := cs hd
    obtain ⟨dt, pt⟩ := termF_ok dp (w := wn) v2 (by omega)
    refine sm_seq (sm_set (ev_callB (i := 2) rfl (es_cons (ev_op ev_int (ev_callB (i := 2) rfl (es_cons ev_int es_nil) rfl ar_nil rfl got3) fv_int) (es_cons (ev_var rfl) es_nil)) rfl ar_nil rfl (got_term (lim := 6) (d := dp) (w := wn) ed rfl (by omega) (by omega) (by omega) v2 (by omega))) ?_)
    generalize termF dp k3.2 wn = tq at *
    obtain ⟨t, p4⟩ := tq
    have dt : Dt wn (wn + 2 * dp) (szD dp) (atD dp) (dp + 1) t := dt
    have pt : PuOk p4 1239 := PuOk.more pt (by omega)
    show Sm _ [.p (scrMo K ns), .d (.int (j : Int)), .l p4.ds, .d (.int k1.1), .d (.int (wn : Int)), .d t.d, s6, s7, s8, s9] _
    have d5 := dt.mono (C := 1000) (s' := 46) (a' := 31) (h' := 5) (by omega) c2 c3 (by omega)
    clear got3 dt
    -- what is told of it
    have gd := gd_of d5 (by decide) (by decide) (by decide) (by omega : wn ≤ 1000)
    obtain ⟨lw1, lw2⟩ := shS_ok gd (by omega) (by have := d5.sz; omega)
    obtain ⟨f1, f2, f3⟩ := told_fits lw1 lw2
    obtain ⟨g1, g2, g3⟩ := two_fits f1 f2 (show 1 ≤ 90 by decide)
    refine sm_seq (sm_set (ev_tup (eds_cons ev_str (eds_cons (ev_op (ev_call (T := tText 10) (es_cons (ev_var rfl) (es_cons (ev_var rfl) es_nil)) ar_nil rfl (got_text d5 (by decide) (by decide) (by decide) (by omega) (by decide) (by decide))) ev_int (fv_ixT rfl)) eds_nil))) ?_)
    have ct : ∀ {ρ : List Sl} {way : Int} {E : XK}, (way = 0 ∨ way = 1) → ρ[5]? = some (.d t.d) → ρ[4]? = some (.d (.int (wn : Int))) → Ev (tCall (spD 3 tCaught) [] E (tCons (tVar 5) (tCons (tVar 4) (tCons (tC (.int way)) tNil)))) ρ (.d (.tuple [.str "told", .str (shS wn t)])) ρ := fun {ρ way E} hy h5 h4 =>
      (evp_call (P := pairMo "told" (.d (.str (shS wn t)))) (es_cons (ev_var h5) (es_cons (ev_var h4) (es_cons ev_int es_nil))) ar_nil rfl (got_told d5 (by decide) (by decide) (by decide) hw (Or.inl hy))).as (pair_isd (.d _))
    refine sm_seq (sm_if (et_reprNeF (x := .list [.tuple [.str "told", .str (shS wn t)], .tuple [.str "told", .str (shS wn t)]]) (Ev.of_el (el_lst (eds_cons (ct (Or.inl rfl) rfl rfl) (eds_cons (ct (Or.inr rfl) rfl rfl) eds_nil)))) (Ev.of_el (el_lst (eds_cons (ev_var rfl) (eds_cons (ev_var rfl) eds_nil)))) g1 g2 g3) (fun z => by cases z) (fun _ => sm_next ?_))
    clear ct g1 g2 g3 f1 f2 f3 lw1 lw2
    -- a term that is closed
    obtain ⟨dt2, pt2⟩ := termF_ok 2 (w := 0) pt (by omega)
    refine sm_seq (sm_set (ev_callB (i := 2) rfl (es_cons ev_int (es_cons ev_int es_nil)) rfl ar_nil rfl (got_term (lim := 6) (d := 2) (w := 0) rfl rfl (by decide) (by decide) (by decide) pt (by have : csD 2 = 264 := rfl; omega))) ?_)
    generalize termF 2 p4 0 = tq at *
    obtain ⟨t2, p5⟩ := tq
    have pt2 : PuOk p5 1503 := PuOk.more pt2 (by have : csD 2 = 264 := rfl; omega)
    show Sm _ [.p (scrMo K ns), .d (.int (j : Int)), .l p5.ds, .d (.int k1.1), .d (.int (wn : Int)), .d t.d, .d (.tuple [.str "told", .str (shS wn t)]), .d t2.d, s8, s9] _
    have d6 : Dt 0 1000 46 31 5 t2 := Dt.mono dt2 (by decide) (by decide) (by decide) (by decide)
    have gd2 := gd_of d6 (by decide) (by decide) (by decide) (by decide)
    obtain ⟨lw1, lw2⟩ := shS_ok gd2 (by decide) (by have := d6.sz; omega)
    obtain ⟨f1, f2, f3⟩ := told_fits lw1 lw2
    have ct : ∀ {ρ : List Sl} {E : XK}, ρ[7]? = some (.d t2.d) → Ev (tCall (spD 3 tCaught) [] E (tCons (tVar 7) (tCons (tC (.int 0)) (tCons (tC (.int 2)) tNil)))) ρ (.d (.tuple [.str "told", .str (shS 0 t2)])) ρ := fun {ρ E} h7 =>
      (evp_call (P := pairMo "told" (.d (.str (shS 0 t2)))) (es_cons (ev_var h7) (es_cons ev_int (es_cons ev_int es_nil))) ar_nil rfl (got_told (w := 0) d6 (by decide) (by decide) (by decide) (by decide) (Or.inr ⟨rfl, rfl⟩))).as (pair_isd (.d _))
    refine sm_seq (sm_if (et_reprNeF (x := .tuple [.str "told", .str (shS 0 t2)]) (ct rfl) (ev_tup (eds_cons ev_str (eds_cons (ev_op (ev_call (T := tText 10) (es_cons (ev_var rfl) (es_cons ev_int es_nil)) ar_nil rfl (got_text (n := 0) d6 (by decide) (by decide) (by decide) (by decide) (by decide) (by decide))) ev_int (fv_ixT rfl)) eds_nil))) f1 (by rw [sizeLine_eq]; omega) f3) (fun z => by cases z) (fun _ => sm_next ?_))
    clear ct f1 f2 f3 lw1 lw2
    -- what doesn't fit
    refine sm_seq (sm_set (Ev.of_el (el_lst (xs := (wrapT wn t).map Tm.d) (eds_cons (ev_tup (eds_cons ev_str (eds_cons (ev_tup (eds_cons ev_str (eds_cons (ev_var rfl) eds_nil))) (eds_cons (ev_var rfl) eds_nil)))) (eds_cons (ev_tup (eds_cons ev_str (eds_cons (ev_var rfl) (eds_cons (ev_tup (eds_cons ev_str (eds_cons (ev_op (ev_var rfl) ev_int fv_int) eds_nil))) eds_nil)))) (eds_cons (ev_tup (eds_cons ev_str (eds_cons (ev_var rfl) (eds_cons (ev_tup (eds_cons ev_str (eds_cons (ev_op (ev_var rfl) ev_int fv_int) eds_nil))) eds_nil)))) eds_nil))) (by show 3 ≤ sizeLine; rw [sizeLine_eq]; decide))) ?_)
    obtain ⟨x0, x1, x2⟩ := takeF_ok (m := 3) pt2 (by decide)
    have got4 := got_take pt2 (by omega) (m := 3) (by decide) (by decide)
    generalize takeF p5 3 = k4 at *
    obtain ⟨u, eu, mu⟩ : ∃ u, atI ((wrapT wn t).map Tm.d) k4.1 = some u.d ∧ u ∈ wrapT wn t := by
      have lt : k4.1.toNat < (wrapT wn t).length := by show k4.1.toNat < 3; omega
      have e := List.getElem?_eq_getElem lt
      refine ⟨(wrapT wn t)[k4.1.toNat], ?_, List.getElem_mem lt⟩
      have e2 : ((wrapT wn t).map Tm.d)[k4.1.toNat]? = some ((wrapT wn t)[k4.1.toNat]).d := by rw [List.getElem?_map, e]; rfl
      have := at_nat e2
      rw [Int.toNat_of_nonneg x0] at this
      exact this
    refine sm_seq (sm_set (ev_op (ev_var rfl) (ev_callB (i := 2) rfl (es_cons ev_int es_nil) rfl ar_nil rfl got4) (fv_ixL eu)) ?_)
    obtain ⟨uo, us, uf, uh, un⟩ := wrap_ok d5 (by decide) (by omega : wn ≤ 1000) (by decide) (by decide) u mu
    have bu : Bd 7 24300 (.tuple [.str "fit", u.d]) := (Bd.tup (BdAll.cons ((Bd.wd (w := "fit")).mono (Nat.zero_le 6) (Nat.le_refl 220)) (BdAll.one ((bd_d uo).mono (by omega) (by omega : 500 * u.sz ≤ 24000))))).mono (Nat.le_refl _) (by omega)
    obtain ⟨q1, q2, q3⟩ := shown_fits bu (by decide) (by decide)
    have bt : Bd 12 40000 t.d := (bd_d gd.ok).mono (by have := d5.hg; omega) (by have := d5.sz; omega)
    have ru : tRefused k4.2.ds ([.d t.d, .d (.int (wn : Int))] ++ []) fun r c' => r = .d (.bool true) ∧ c' = (takeF (takeF k4.2 12).2 8).2.ds := ⟨k4.2, _, t.d, wn, rfl, rfl, hw, tm_d gd.ok, bt, x2, by omega, rfl, rfl⟩
    refine sm_if (b := false) (Et.is (et_or (a := false) (b := false) (et_reprNeF (x := .tuple [.str "fit", u.d]) ((evp_call (P := pairMo "fit" (.d u.d)) (es_cons (ev_var rfl) (es_cons (ev_var rfl) (es_cons ev_int es_nil))) ar_nil rfl (got_unfit hw (by decide : 48 ≤ 1000) uo us uf un)).as (pair_isd (.d _))) (ev_tup (eds_cons ev_str (eds_cons (ev_var rfl) eds_nil))) q1 q2 q3) (fun _ => et_not (et_B (ev_callB (i := 2) (x := .bool true) rfl (es_cons (ev_var rfl) (es_cons (ev_var rfl) es_nil)) rfl ar_nil rfl ru))) (fun z => by cases z)) rfl) (fun z => by cases z) (fun _ => sm_next ?_)
    exact ⟨_, _, _, _, _, _, _, _, _, rfl⟩
  · obtain ⟨s1, s2, s3, s4, s5, s6, s7, s8, s9, rfl⟩ := r
    exact sm_ret ev_bl rfl
end
end KP
set_option Elab.async false
set_option linter.unusedVariables false
set_option maxRecDepth 100000
set_option maxHeartbeats 4000000
namespace KP
open PySem PySem.Spec PyProof.Rows L2 KA OW
structure DefAt (K : PySem.W.Frag) (x : Str) (st : Stmt) (f : Addr) (fd : FuncData) : Prop where
  at_ : PySem.W.nsIn K mainGlobals x = some (some (.ref f))
  fn : Fun K x x st f fd
theorem defAt {K : PySem.W.Frag} {x : Str} {st : Stmt} {f : Addr} {oc : Value} {od an : Option Addr} {osl : Array (Option Value)} {kV doc pm cdv ct : Value} (a : PySem.W.nsIn K mainGlobals x = some (some (.ref f))) (l : K.lookup f = some ⟨oc, od, .func (PySem.W.fnOf x x (defArgs st) (defBody st) (defScope st) .none kV doc pm an cdv ct), osl⟩)
    (c : PySem.W.codeIn K cdv x = true) (k : PySem.W.keepIn K (.ref f) = true) : ∃ f fd, DefAt K x st f fd := ⟨_, _, a, fun_mk l c k⟩
structure NotC (K : PySem.W.Frag) (nm qual : Str) (st : Stmt) (C fI : Addr) (fdI : FuncData) : Prop where
  at_ : PySem.W.nsIn K mainGlobals nm = some (some (.ref C))
  oex : OexC K C
  iC : PySem.W.findIn K (.ref C) "__init__" = some (some (.ref fI))
  tI : PySem.W.typeIn K (.ref fI) = some (.type "function")
  noF : PySem.W.findIn K (.ref C) "found" = some none
  fn : Fun K "__init__" qual st fI fdI
  xf : XfC K C
  te : PySem.W.exmOne K (.ref C) (.ref C) = some true
abbrev rowCs : List (Addr × Addr) := []
theorem row_tabs : (Tbs.T : List NdefX.NTab) = [] := rfl
theorem tab_void {H : Hp} (t : ∀ p ∈ rowCs, H p.2 = some (.tbl #[])) : ∀ b, tabA b → H b = some (.tbl #[]) := fun b ⟨p, hp, e⟩ => by
  rw [row_tabs] at hp
  cases hp
structure DefCAt (K : PySem.W.Frag) (x : Str) (st : Stmt) (f : Addr) (fd : FuncData) (c : Addr) : Prop where
  at_ : PySem.W.nsIn K mainGlobals x = some (some (.ref f))
  fn : FunC K x x st f fd c
theorem defCAt {K : PySem.W.Frag} {x : Str} {st : Stmt} {f c : Addr} {oc : Value} {od an : Option Addr} {osl : Array (Option Value)} {kV doc pm ct : Value} (a : PySem.W.nsIn K mainGlobals x = some (some (.ref f))) (l : K.lookup f = some ⟨oc, od, .func (PySem.W.fnOf x x (defArgs st) (defBody st) (defScope st) .none kV doc pm an (.ref c) ct), osl⟩)
    (h : PySem.W.codeIn K (.ref c) x = true) (k : PySem.W.keepIn K (.ref f) = true) : ∃ f fd, DefCAt K x st f fd c := ⟨f, _, a, ⟨_, _, _, _, _, _, _, _, rfl, l, h⟩, k⟩
theorem defD_mk {K : PySem.W.Frag} {x : Str} {st : Stmt} {dvs : List V} {f T : Addr} {oc : Value} {od an td : Option Addr} {kV doc pm cdv ct tc : Value} {osl tsl : Array (Option Value)} {its : Array Value} {n : Nat} (hd : dvs ≠ []) (e : PySem.W.nsIn K mainGlobals x = some (some (.ref f)))
    (l : K.lookup f = some ⟨oc, od, .func (PySem.W.fnOf x x (defArgs st) (defBody st) (defScope st) (.ref T) kV doc pm an cdv ct), osl⟩) (c : PySem.W.codeIn K cdv x = true) (k : PySem.W.keepIn K (.ref f) = true)
    (lT : K.lookup T = some ⟨tc, td, .seq its n, tsl⟩) (v : Vals dvs its.toList) :
    ∃ f fd, PySem.W.nsIn K mainGlobals x = some (some (.ref f)) ∧ FunD K x x (defArgs st) (defBody st) (defScope st) dvs [] f fd :=
  ⟨f, _, e, ⟨_, _, _, _, _, _, _, _, _, _, rfl, l, c, Or.inr ⟨hd, T, _, its.toList, n, rfl, lT, rfl, v⟩, Or.inl rfl⟩, k⟩
structure Facts (K : PySem.W.Frag) (w : World) : Prop where
  d_parts_of : ∃ f fd, DefAt K "parts_of" sPartsOf f fd
  d_passed : ∃ f fd, DefAt K "passed" sPassed f fd
  d_inner_terms : ∃ f fd, DefAt K "inner_terms" sInnerTerms f fd
  d_free_places : ∃ f fd, DefAt K "free_places" sFreePlaces f fd
  d_head_and_given : ∃ f fd, DefAt K "head_and_given" sHeadAndGiven f fd
  d_is_whole : ∃ f fd, DefAt K "is_whole" sWhole f fd
  d_is_name : ∃ f fd, DefAt K "is_name" sName f fd
  d_is_term : ∃ f fd, DefAt K "is_term" sTerm f fd
  d_is_leaf : ∃ f fd, DefAt K "_is_leaf" sLeaf f fd
  d_want_term : ∃ f fd, DefAt K "want_term" sWant f fd
  d_want_whole : ∃ f fd, DefAt K "want_whole" sWantW f fd
  d_text_of : ∃ f fd, DefAt K "text_of" sTextOf f fd
  d_fits : ∃ f fd, DefAt K "fits" sFits f fd
  d_shown : ∃ f fd, DefAt K "shown" sShown f fd
  d_pieces : ∃ f fd, DefAt K "_pieces" sPieces f fd
  d_within : ∃ f fd, DefAt K "_within" sWithin f fd
  d_word_of : ∃ f fd, DefAt K "_word_of" sWordOf f fd
  d_show : ∃ f fd, PySem.W.nsIn K mainGlobals "show" = some (some (.ref f)) ∧ FunD K "show" "show" (defArgs sShow) (defBody sShow) (defScope sShow) [.int 0] [] f fd
  d_law_cell : ∃ f fd, DefAt K "_law_cell" sLawCell f fd
  d_law_box : ∃ f fd, DefAt K "_law_box" sLawBox f fd
  d_law_take : ∃ f fd, DefAt K "_law_take" sLawTake f fd
  d_law_name : ∃ f fd, DefAt K "_law_name" sLawName f fd
  d_law_leaf : ∃ f fd, DefAt K "_law_leaf" sLawLeaf f fd
  d_law_up : ∃ f fd, DefAt K "_law_up" sLawUp f fd
  d_law_term : ∃ f fd, DefAt K "_law_term" sLawTerm f fd
  d_law_low : ∃ f fd, DefAt K "_law_low" sLawLow f fd
  d_law_word : ∃ f fd, DefAt K "_law_word" sLawWord f fd
  d_law_in : ∃ f fd, DefAt K "_law_in" sLawIn f fd
  d_law_text : ∃ f fd, DefAt K "_law_text" sLawText f fd
  d_law_caught : ∃ f fd, DefAt K "_law_caught" sLawCaught f fd
  d_law_refused_right : ∃ f fd, DefAt K "_law_refused_right" sLawRefusedRight f fd
  d_law : ∃ f fd, DefAt K "law" sLaw f fd
  count : ∃ f fd, PySem.W.nsIn K mainGlobals "is_count" = some (some (.ref f)) ∧ FunD K "is_count" "is_count" (defArgs sCount) (defBody sCount) (defScope sCount) [.int 0] [] f fd
  n_isi : PySem.W.nsIn K mainGlobals "isinstance" = some none
  n_int : PySem.W.nsIn K mainGlobals "int" = some none
  n_bool : PySem.W.nsIn K mainGlobals "bool" = some none
  n_str : PySem.W.nsIn K mainGlobals "str" = some none
  n_tuple : PySem.W.nsIn K mainGlobals "tuple" = some none
  n_list : PySem.W.nsIn K mainGlobals "list" = some none
  n_dict : PySem.W.nsIn K mainGlobals "dict" = some none
  n_len : PySem.W.nsIn K mainGlobals "len" = some none
  n_all : PySem.W.nsIn K mainGlobals "all" = some none
  n_max : PySem.W.nsIn K mainGlobals "max" = some none
  n_min : PySem.W.nsIn K mainGlobals "min" = some none
  n_range : PySem.W.nsIn K mainGlobals "range" = some none
  n_zip : PySem.W.nsIn K mainGlobals "zip" = some none
  n_repr : PySem.W.nsIn K mainGlobals "repr" = some none
  n_enumerate : PySem.W.nsIn K mainGlobals "enumerate" = some none
  n_reversed : PySem.W.nsIn K mainGlobals "reversed" = some none
  n_sorted : PySem.W.nsIn K mainGlobals "sorted" = some none
  i_most_names : ∃ u, PySem.W.nsIn K mainGlobals "MOST_NAMES" = some (some u) ∧ RelV (.int 100) u
  letters : ∃ u, PySem.W.nsIn K mainGlobals "LETTERS" = some (some u) ∧ RelV (.str KP.letters) u
  most : ∃ u, PySem.W.nsIn K mainGlobals "MOST_LETTERS" = some (some u) ∧ RelV (.int 8) u
  highest : ∃ u, PySem.W.nsIn K mainGlobals "HIGHEST" = some (some u) ∧ RelV (.int 5) u
  no : ∃ a o its n, PySem.W.nsIn K mainGlobals "NO_NAMES" = some (some (.ref a)) ∧ K.lookup a = some o ∧ o.cls = .type "tuple" ∧ o.data = .seq its n ∧ its.size ≤ sizeLine ∧ Vals (noNames.map V.str) its.toList
  parted : ∃ a es n, PySem.W.nsIn K mainGlobals "PARTED" = some (some (.ref a)) ∧ KDict K w a es n ∧ ∀ z, ∃ r, PySem.W.nsIn K a z = some r ∧ RelO ((parts z).map fun n => V.int (n : Int)) r
  u_binding : ∃ a o its n, PySem.W.nsIn K mainGlobals "BINDING" = some (some (.ref a)) ∧ K.lookup a = some o ∧ o.cls = .type "tuple" ∧ o.data = .seq its n ∧ its.size ≤ sizeLine ∧ Vals ((["all", "fun"] : List Str).map V.str) its.toList
  u_long_heads : ∃ a o its n, PySem.W.nsIn K mainGlobals "LONG_HEADS" = some (some (.ref a)) ∧ K.lookup a = some o ∧ o.cls = .type "tuple" ∧ o.data = .seq its n ∧ its.size ≤ sizeLine ∧ Vals ((noNames).map V.str) its.toList
  nots : ∃ U C1 fI1 fdI1 C2 fI2 fdI2 C3 fI3 fdI3, PySem.W.nsIn K mainGlobals "PaperError" = some (some (.ref U)) ∧ UpC K U ∧ NotC K "NoTerm" "NoTerm.__init__" sInitT C1 fI1 fdI1 ∧ NotC K "NoNumber" "NoNumber.__init__" sInitN C2 fI2 fdI2 ∧ NotC K "NoFit" "NoFit.__init__" sInitF C3 fI3 fdI3 ∧ PySem.W.exmOne K (.ref C2) (.ref C1) = some false ∧ PySem.W.exmOne K (.ref C3) (.ref C1) = some false ∧ PySem.W.exmOne K (.ref C3) (.ref C2) = some false
section
variable {P : Program} {w : World} {K : PySem.W.Frag} {h : Heap} {mg : Str → Option Value}
theorem Facts.txt (Z : Facts K w) (X : K.In h) (G : h.Ns mainGlobals mg) : Txt K w mg where
  isi := PySem.W.mg_none_of X G Z.n_isi
  int := PySem.W.mg_none_of X G Z.n_int
  bool := PySem.W.mg_none_of X G Z.n_bool
  str := PySem.W.mg_none_of X G Z.n_str
  tuple := PySem.W.mg_none_of X G Z.n_tuple
  list := PySem.W.mg_none_of X G Z.n_list
  dict := PySem.W.mg_none_of X G Z.n_dict
  len := PySem.W.mg_none_of X G Z.n_len
  all := PySem.W.mg_none_of X G Z.n_all
  max := PySem.W.mg_none_of X G Z.n_max
  min := PySem.W.mg_none_of X G Z.n_min
  range := PySem.W.mg_none_of X G Z.n_range
  zip := PySem.W.mg_none_of X G Z.n_zip
  repr := PySem.W.mg_none_of X G Z.n_repr
  letters := by
    obtain ⟨u, e, r⟩ := Z.letters
    exact ⟨u, PySem.W.mg_of X G e, r⟩
  most := by
    obtain ⟨u, e, r⟩ := Z.most
    exact ⟨u, PySem.W.mg_of X G e, r⟩
  highest := by
    obtain ⟨u, e, r⟩ := Z.highest
    exact ⟨u, PySem.W.mg_of X G e, r⟩
  no := by
    obtain ⟨a, o, its, n, e, r⟩ := Z.no
    exact ⟨a, o, its, n, PySem.W.mg_of X G e, r⟩
  parted := by
    obtain ⟨a, es, n, e, r⟩ := Z.parted
    exact ⟨a, es, n, PySem.W.mg_of X G e, r⟩
theorem DefAt.dfn {x : Str} {st : Stmt} {f : Addr} {fd : FuncData} {ps : List Str} (D : DefAt K x st f fd) (X : K.In h) (G : h.Ns mainGlobals mg)
    (b : ∀ (kV doc pm : Value) (an : Option Addr) (cdv ct : Value) (us : List Value), us.length = ps.length → bindArgs (PySem.W.fnOf x x (defArgs st) (defBody st) (defScope st) .none kV doc pm an cdv ct) ⟨us, []⟩ = pure (ps.zip us)) : Dfn K mg x st f fd ps :=
  ⟨D.fn, PySem.W.mg_of X G D.at_, D.fn.binds b⟩
theorem all_mk {fa : Addr} (X : K.In h) (G : h.Ns mainGlobals mg) (hfa : mg "law" = some (.ref fa)) (Z : Facts K w) :
    ∃ fd : FuncData, (∀ (s : Shared) (v : Value), BindsTo s fd ⟨[v], []⟩ [("_law_script", v)]) ∧ ∀ base : Heap, K.In base → base.Ns mainGlobals mg → (∀ p ∈ rowCs, LamX.TabB base mg p.1 p.2) → FnG P w K mg base CX0 40 fa fd ["_law_script"] (spLaw K) := by
  have T := Z.txt X G
  have Tenum := PySem.W.mg_none_of X G Z.n_enumerate
  have Trev := PySem.W.mg_none_of X G Z.n_reversed
  have Tsorted := PySem.W.mg_none_of X G Z.n_sorted
  have I_most_names : ∃ u, mg "MOST_NAMES" = some u ∧ RelV (.int 100) u := by
    obtain ⟨u, e, r⟩ := Z.i_most_names
    exact ⟨u, PySem.W.mg_of X G e, r⟩
  obtain ⟨f_parts_of, d_parts_of, D_parts_of⟩ := Z.d_parts_of
  obtain ⟨f_passed, d_passed, D_passed⟩ := Z.d_passed
  obtain ⟨f_inner_terms, d_inner_terms, D_inner_terms⟩ := Z.d_inner_terms
  obtain ⟨f_free_places, d_free_places, D_free_places⟩ := Z.d_free_places
  obtain ⟨f_head_and_given, d_head_and_given, D_head_and_given⟩ := Z.d_head_and_given
  obtain ⟨f_is_whole, d_is_whole, D_is_whole⟩ := Z.d_is_whole
  obtain ⟨f_is_name, d_is_name, D_is_name⟩ := Z.d_is_name
  obtain ⟨f_is_term, d_is_term, D_is_term⟩ := Z.d_is_term
  obtain ⟨f_is_leaf, d_is_leaf, D_is_leaf⟩ := Z.d_is_leaf
  obtain ⟨f_want_term, d_want_term, D_want_term⟩ := Z.d_want_term
  obtain ⟨f_want_whole, d_want_whole, D_want_whole⟩ := Z.d_want_whole
  obtain ⟨f_text_of, d_text_of, D_text_of⟩ := Z.d_text_of
  obtain ⟨f_fits, d_fits, D_fits⟩ := Z.d_fits
  obtain ⟨f_shown, d_shown, D_shown⟩ := Z.d_shown
  obtain ⟨f_pieces, d_pieces, D_pieces⟩ := Z.d_pieces
  obtain ⟨f_within, d_within, D_within⟩ := Z.d_within
  obtain ⟨f_word_of, d_word_of, D_word_of⟩ := Z.d_word_of
  obtain ⟨f_show, d_show, e_show, D_show⟩ := Z.d_show
  obtain ⟨f_law_cell, d_law_cell, D_law_cell⟩ := Z.d_law_cell
  obtain ⟨f_law_box, d_law_box, D_law_box⟩ := Z.d_law_box
  obtain ⟨f_law_take, d_law_take, D_law_take⟩ := Z.d_law_take
  obtain ⟨f_law_name, d_law_name, D_law_name⟩ := Z.d_law_name
  obtain ⟨f_law_leaf, d_law_leaf, D_law_leaf⟩ := Z.d_law_leaf
  obtain ⟨f_law_up, d_law_up, D_law_up⟩ := Z.d_law_up
  obtain ⟨f_law_term, d_law_term, D_law_term⟩ := Z.d_law_term
  obtain ⟨f_law_low, d_law_low, D_law_low⟩ := Z.d_law_low
  obtain ⟨f_law_word, d_law_word, D_law_word⟩ := Z.d_law_word
  obtain ⟨f_law_in, d_law_in, D_law_in⟩ := Z.d_law_in
  obtain ⟨f_law_text, d_law_text, D_law_text⟩ := Z.d_law_text
  obtain ⟨f_law_caught, d_law_caught, D_law_caught⟩ := Z.d_law_caught
  obtain ⟨f_law_refused_right, d_law_refused_right, D_law_refused_right⟩ := Z.d_law_refused_right
  obtain ⟨f_law, d_law, D_law⟩ := Z.d_law
  obtain ⟨f6, d6, e6, D6⟩ := Z.count
  have U_binding : ∃ a o its n, mg "BINDING" = some (.ref a) ∧ K.lookup a = some o ∧ o.cls = .type "tuple" ∧ o.data = .seq its n ∧ its.size ≤ sizeLine ∧ Vals ((["all", "fun"] : List Str).map V.str) its.toList := by
    obtain ⟨a, o, its, n, e, r⟩ := Z.u_binding
    exact ⟨a, o, its, n, PySem.W.mg_of X G e, r⟩
  have U_long_heads : ∃ a o its n, mg "LONG_HEADS" = some (.ref a) ∧ K.lookup a = some o ∧ o.cls = .type "tuple" ∧ o.data = .seq its n ∧ its.size ≤ sizeLine ∧ Vals ((noNames).map V.str) its.toList := by
    obtain ⟨a, o, its, n, e, r⟩ := Z.u_long_heads
    exact ⟨a, o, its, n, PySem.W.mg_of X G e, r⟩
  obtain ⟨U, C1, fI1, fdI1, C2, fI2, fdI2, C3, fI3, fdI3, eU, up, N1, N2, N3, n21, n31, n32⟩ := Z.nots
  have bI1 : Binds K fdI1 ["self", "found"] [] := N1.fn.binds fun _ _ _ _ _ _ us hl => match us, hl with | [_, _], _ => rfl
  have Z1 : NoX K mg "NoTerm" "NoTerm.__init__" sInitT C1 U fI1 fdI1 := ⟨N1.oex, up, PySem.W.mg_of X G eU, PySem.W.mg_of X G N1.at_, N1.iC, N1.tI, N1.noF, N1.fn, bI1, N1.xf, N1.te⟩
  have bI2 : Binds K fdI2 ["self", "found"] [] := N2.fn.binds fun _ _ _ _ _ _ us hl => match us, hl with | [_, _], _ => rfl
  have Z2 : NoX K mg "NoNumber" "NoNumber.__init__" sInitN C2 U fI2 fdI2 := ⟨N2.oex, up, PySem.W.mg_of X G eU, PySem.W.mg_of X G N2.at_, N2.iC, N2.tI, N2.noF, N2.fn, bI2, N2.xf, N2.te⟩
  have bI3 : Binds K fdI3 ["self", "found"] [] := N3.fn.binds fun _ _ _ _ _ _ us hl => match us, hl with | [_, _], _ => rfl
  have Z3 : NoX K mg "NoFit" "NoFit.__init__" sInitF C3 U fI3 fdI3 := ⟨N3.oex, up, PySem.W.mg_of X G eU, PySem.W.mg_of X G N3.at_, N3.iC, N3.tI, N3.noF, N3.fn, bI3, N3.xf, N3.te⟩
  have e := hfa.symm.trans (PySem.W.mg_of X G D_law.at_)
  cases e
  have m6 := PySem.W.mg_of X G e6
  obtain ⟨ds0, v0, b0⟩ := D6.binds1 (ps := ["thing", "low"]) 1 0 (by simp) rfl fun _ _ _ _ _ _ _ us its hu hi => match us, its, hu, hi with | [_], [_], _, _ => ⟨_, rfl, rfl⟩
  obtain ⟨ds1, v1, b1⟩ := D6.binds1 (ps := ["thing", "low"]) 2 1 (by simp) rfl fun _ _ _ _ _ _ _ us its hu hi => match us, its, hu, hi with | [_, _], [_], _, _ => ⟨_, rfl, rfl⟩
  have N_parts_of : Dfn K mg "parts_of" sPartsOf f_parts_of d_parts_of ["term"] := D_parts_of.dfn X G fun _ _ _ _ _ _ us hl => match us, hl with | [_], _ => rfl
  have N_passed : Dfn K mg "passed" sPassed f_passed d_passed ["word", "at"] := D_passed.dfn X G fun _ _ _ _ _ _ us hl => match us, hl with | [_, _], _ => rfl
  have N_inner_terms : Dfn K mg "inner_terms" sInnerTerms f_inner_terms d_inner_terms ["term"] := D_inner_terms.dfn X G fun _ _ _ _ _ _ us hl => match us, hl with | [_], _ => rfl
  have N_free_places : Dfn K mg "free_places" sFreePlaces f_free_places d_free_places ["term"] := D_free_places.dfn X G fun _ _ _ _ _ _ us hl => match us, hl with | [_], _ => rfl
  have N_head_and_given : Dfn K mg "head_and_given" sHeadAndGiven f_head_and_given d_head_and_given ["term"] := D_head_and_given.dfn X G fun _ _ _ _ _ _ us hl => match us, hl with | [_], _ => rfl
  have N_is_whole : Dfn K mg "is_whole" sWhole f_is_whole d_is_whole ["thing", "low", "high"] := D_is_whole.dfn X G fun _ _ _ _ _ _ us hl => match us, hl with | [_, _, _], _ => rfl
  have N_is_name : Dfn K mg "is_name" sName f_is_name d_is_name ["thing"] := D_is_name.dfn X G fun _ _ _ _ _ _ us hl => match us, hl with | [_], _ => rfl
  have N_is_term : Dfn K mg "is_term" sTerm f_is_term d_is_term ["thing"] := D_is_term.dfn X G fun _ _ _ _ _ _ us hl => match us, hl with | [_], _ => rfl
  have N_is_leaf : Dfn K mg "_is_leaf" sLeaf f_is_leaf d_is_leaf ["thing"] := D_is_leaf.dfn X G fun _ _ _ _ _ _ us hl => match us, hl with | [_], _ => rfl
  have N_want_term : Dfn K mg "want_term" sWant f_want_term d_want_term ["thing"] := D_want_term.dfn X G fun _ _ _ _ _ _ us hl => match us, hl with | [_], _ => rfl
  have N_want_whole : Dfn K mg "want_whole" sWantW f_want_whole d_want_whole ["thing", "low", "high"] := D_want_whole.dfn X G fun _ _ _ _ _ _ us hl => match us, hl with | [_, _, _], _ => rfl
  have N_text_of : Dfn K mg "text_of" sTextOf f_text_of d_text_of ["words"] := D_text_of.dfn X G fun _ _ _ _ _ _ us hl => match us, hl with | [_], _ => rfl
  have N_fits : Dfn K mg "fits" sFits f_fits d_fits ["term", "names"] := D_fits.dfn X G fun _ _ _ _ _ _ us hl => match us, hl with | [_, _], _ => rfl
  have N_shown : Dfn K mg "shown" sShown f_shown d_shown ["term", "names"] := D_shown.dfn X G fun _ _ _ _ _ _ us hl => match us, hl with | [_, _], _ => rfl
  have N_pieces : Dfn K mg "_pieces" sPieces f_pieces d_pieces ["term", "around", "many"] := D_pieces.dfn X G fun _ _ _ _ _ _ us hl => match us, hl with | [_, _, _], _ => rfl
  have N_within : Dfn K mg "_within" sWithin f_within d_within ["part", "around", "many", "bracketed"] := D_within.dfn X G fun _ _ _ _ _ _ us hl => match us, hl with | [_, _, _, _], _ => rfl
  have N_word_of : Dfn K mg "_word_of" sWordOf f_word_of d_word_of ["leaf", "around"] := D_word_of.dfn X G fun _ _ _ _ _ _ us hl => match us, hl with | [_, _], _ => rfl
  have m_show := PySem.W.mg_of X G e_show
  obtain ⟨ds_show0, v_show0, b_show0⟩ := D_show.binds1 (ps := ["term", "names"]) 1 0 (by simp) rfl fun _ _ _ _ _ _ _ us its hu hi => match us, its, hu, hi with | [_], [_], _, _ => ⟨_, rfl, rfl⟩
  obtain ⟨ds_show1, v_show1, b_show1⟩ := D_show.binds1 (ps := ["term", "names"]) 2 1 (by simp) rfl fun _ _ _ _ _ _ _ us its hu hi => match us, its, hu, hi with | [_, _], [_], _, _ => ⟨_, rfl, rfl⟩
  cases v_show1
  have N_law_cell : Dfn K mg "_law_cell" sLawCell f_law_cell d_law_cell ["_law_script", "_law_k"] := D_law_cell.dfn X G fun _ _ _ _ _ _ us hl => match us, hl with | [_, _], _ => rfl
  have N_law_box : Dfn K mg "_law_box" sLawBox f_law_box d_law_box ["_law_cell_here"] := D_law_box.dfn X G fun _ _ _ _ _ _ us hl => match us, hl with | [_], _ => rfl
  have N_law_take : Dfn K mg "_law_take" sLawTake f_law_take d_law_take ["_law_box_here", "_law_many"] := D_law_take.dfn X G fun _ _ _ _ _ _ us hl => match us, hl with | [_, _], _ => rfl
  have N_law_name : Dfn K mg "_law_name" sLawName f_law_name d_law_name ["_law_box_here"] := D_law_name.dfn X G fun _ _ _ _ _ _ us hl => match us, hl with | [_], _ => rfl
  have N_law_leaf : Dfn K mg "_law_leaf" sLawLeaf f_law_leaf d_law_leaf ["_law_box_here", "_law_wide"] := D_law_leaf.dfn X G fun _ _ _ _ _ _ us hl => match us, hl with | [_, _], _ => rfl
  have N_law_up : Dfn K mg "_law_up" sLawUp f_law_up d_law_up ["_law_whole", "_law_start"] := D_law_up.dfn X G fun _ _ _ _ _ _ us hl => match us, hl with | [_, _], _ => rfl
  have N_law_term : Dfn K mg "_law_term" sLawTerm f_law_term d_law_term ["_law_box_here", "_law_depth", "_law_wide"] := D_law_term.dfn X G fun _ _ _ _ _ _ us hl => match us, hl with | [_, _, _], _ => rfl
  have N_law_low : Dfn K mg "_law_low" sLawLow f_law_low d_law_low ["_law_whole", "_law_start"] := D_law_low.dfn X G fun _ _ _ _ _ _ us hl => match us, hl with | [_, _], _ => rfl
  have N_law_word : Dfn K mg "_law_word" sLawWord f_law_word d_law_word ["_law_whole", "_law_wide"] := D_law_word.dfn X G fun _ _ _ _ _ _ us hl => match us, hl with | [_, _], _ => rfl
  have N_law_in : Dfn K mg "_law_in" sLawIn f_law_in d_law_in ["_law_told", "_law_most"] := D_law_in.dfn X G fun _ _ _ _ _ _ us hl => match us, hl with | [_, _], _ => rfl
  have N_law_text : Dfn K mg "_law_text" sLawText f_law_text d_law_text ["_law_whole", "_law_wide"] := D_law_text.dfn X G fun _ _ _ _ _ _ us hl => match us, hl with | [_, _], _ => rfl
  have N_law_caught : Dfn K mg "_law_caught" sLawCaught f_law_caught d_law_caught ["_law_whole", "_law_wide", "_law_way"] := D_law_caught.dfn X G fun _ _ _ _ _ _ us hl => match us, hl with | [_, _, _], _ => rfl
  have N_law_refused_right : Dfn K mg "_law_refused_right" sLawRefusedRight f_law_refused_right d_law_refused_right ["_law_box_here", "_law_whole", "_law_wide"] := D_law_refused_right.dfn X G fun _ _ _ _ _ _ us hl => match us, hl with | [_, _, _], _ => rfl
  have N_law : Dfn K mg "law" sLaw fa d_law ["_law_script"] := D_law.dfn X G fun _ _ _ _ _ _ us hl => match us, hl with | [_], _ => rfl
  obtain ⟨oc, od, kV, doc, pm, an, cdv, ct, osl, e19, _⟩ := D_law.fn.ex
  refine ⟨d_law, fun s v => by rw [e19]; exact .of_eq rfl, fun base _ _ hT => ?_⟩
  have Cc := ok_count (P := P) (w := w) (base := base) D6 T
  have c_count0 : C8.Cal P w K mg base 1 "is_count" spCount [.int 0] := ⟨f6, d6, _, ds0, Cc, m6, D6.kp, b0, v0⟩
  have c_count : C8.Cal P w K mg base 1 "is_count" spCount [] := ⟨f6, d6, _, ds1, Cc, m6, D6.kp, b1, v1⟩
  have c_is_whole := N_is_whole.cal (P := P) (w := w) (base := base) (ok_whole N_is_whole.fn T c_count)
  have c_is_name := N_is_name.cal (P := P) (w := w) (base := base) (ok_name N_is_name.fn T)
  have c_is_leaf := N_is_leaf.cal (P := P) (w := w) (base := base) (ok_leaf N_is_leaf.fn T c_count0 c_is_whole c_is_name)
  have c_is_term := N_is_term.cal (P := P) (w := w) (base := base) (ok_term N_is_term.fn T c_is_leaf)
  have TP : TxtP K mg := ⟨U_binding, U_long_heads, I_most_names⟩
  have c_parts_of := N_parts_of.cal (P := P) (w := w) (base := base) (ok_partsof N_parts_of.fn T)
  have c_passed := N_passed.cal (P := P) (w := w) (base := base) (ok_passed N_passed.fn)
  have c_inner_terms := N_inner_terms.cal (P := P) (w := w) (base := base) (ok_inner N_inner_terms.fn T Trev c_parts_of c_passed)
  have c_free_places := N_free_places.cal (P := P) (w := w) (base := base) (ok_freeplaces N_free_places.fn Tsorted c_inner_terms)
  have c_head_and_given := N_head_and_given.cal (P := P) (w := w) (base := base) (ok_headgiven N_head_and_given.fn)
  have c_text_of := N_text_of.cal (P := P) (w := w) (base := base) (ok_textof N_text_of.fn)
  have c_within := N_within.cal (P := P) (w := w) (base := base) (ok_within N_within.fn)
  have c_fits := N_fits.cal (P := P) (w := w) (base := base) (ok_fits N_fits.fn c_free_places)
  have c_word_of := N_word_of.cal (P := P) (w := w) (base := base) (ok_wordof N_word_of.fn)
  have c_pieces := N_pieces.cal (P := P) (w := w) (base := base) (ok_pieces N_pieces.fn T TP c_word_of c_free_places c_within c_head_and_given)
  have c_shown := N_shown.cal (P := P) (w := w) (base := base) (ok_shown N_shown.fn T c_pieces c_text_of)
  have F_want_term : FnOk P w K mg base (L2.CX P w) 5 f_want_term d_want_term ["thing"] (spX 1 (tWant C1)) := ok_want N_want_term.fn Z1 c_is_term
  have x_want_term : CalX P w K mg base 5 "want_term" ["thing"] (spX 1 (tWant C1)) := ⟨_, _, F_want_term, N_want_term.mgf, N_want_term.fn.kp, N_want_term.b⟩
  have F_want_whole : FnOk P w K mg base (L2.CX P w) 5 f_want_whole d_want_whole ["thing", "low", "high"] (spX 3 (tWantW C2)) := ok_wantw N_want_whole.fn Z2 c_is_whole
  have x_want_whole : CalX P w K mg base 5 "want_whole" ["thing", "low", "high"] (spX 3 (tWantW C2)) := ⟨_, _, F_want_whole, N_want_whole.mgf, N_want_whole.fn.kp, N_want_whole.b⟩
  have F_show : FnOk P w K mg base (L2.CX P w) 6 f_show d_show ["term", "names"] (spX 2 (tShowX C1 C2 C3)) := ok_show D_show TP Z3 x_want_term x_want_whole c_fits c_shown
  have x_show : CalX P w K mg base 6 "show" ["term", "names"] (spX 2 (tShowX C1 C2 C3)) := ⟨_, _, F_show, m_show, D_show.kp, b_show1⟩
  have x_show0 : CalXD P w K mg base 6 "show" ["term", "names"] (spX 2 (tShowX C1 C2 C3)) [.int 0] := ⟨_, _, _, F_show, m_show, D_show.kp, b_show0, v_show0⟩
  obtain ⟨its_sn2, kb_sn2⟩ := kbn_d (n := 0) (ps := ["term", "names"]) (ks := ["names", "term"]) (idx := [2, 1]) D_show (by simp) fun _ _ _ _ _ _ _ us its ws l1 l2 l3 => match us, its, ws, l1, l2, l3 with | [], [_], [_, _], _, _, _ => ⟨_, rfl, rfl⟩
  have k_sn2 : CalXN P w K mg base 6 "show" 0 ["names", "term"] [2, 1] [.int 0] (spX 2 (tShowX C1 C2 C3)) := ⟨_, _, _, its_sn2, F_show, m_show, D_show.kp, kb_sn2⟩
  obtain ⟨its_sn1, kb_sn1⟩ := kbn_d (n := 0) (ps := ["term", "names"]) (ks := ["term"]) (idx := [1, 0]) D_show (by simp) fun _ _ _ _ _ _ _ us its ws l1 l2 l3 => match us, its, ws, l1, l2, l3 with | [], [_], [_], _, _, _ => ⟨_, rfl, rfl⟩
  have k_sn1 : CalXN P w K mg base 6 "show" 0 ["term"] [1, 0] [.int 0] (spX 2 (tShowX C1 C2 C3)) := ⟨_, _, _, its_sn1, F_show, m_show, D_show.kp, kb_sn1⟩
  have c_law_cell := N_law_cell.cal (P := P) (w := w) (base := base) (ok_cell N_law_cell.fn T)
  have c_law_box := N_law_box.cal (P := P) (w := w) (base := base) (ok_purse N_law_box.fn T)
  have c_law_take := N_law_take.cal (P := P) (w := w) (base := base) (ok_take N_law_take.fn T)
  have c_law_name := N_law_name.cal (P := P) (w := w) (base := base) (ok_namel N_law_name.fn T c_law_take)
  have c_law_leaf := N_law_leaf.cal (P := P) (w := w) (base := base) (ok_leafl N_law_leaf.fn T c_law_take c_law_name)
  have c_law_up : C8.Cal P w K mg base 11 "_law_up" (spD 2 (tUp 10)) [] := N_law_up.cal (P := P) (w := w) (base := base) (ok_up N_law_up T Tenum 10)
  have c_law_low : C8.Cal P w K mg base 11 "_law_low" (spD 2 (tLow 10)) [] := N_law_low.cal (P := P) (w := w) (base := base) (ok_low N_law_low T Tenum 10)
  have c_law_word := N_law_word.cal (P := P) (w := w) (base := base) (ok_lword N_law_word.fn T)
  have c_law_in := N_law_in.cal (P := P) (w := w) (base := base) (ok_inl N_law_in.fn)
  have c_law_text : C8.Cal P w K mg base 22 "_law_text" (spD 2 (tText 10)) [] := N_law_text.cal (P := P) (w := w) (base := base) (ok_text N_law_text T c_law_word c_law_in c_law_low 10)
  have c_law_term : C8.Cal P w K mg base 18 "_law_term" (spB 2 (tTermL 6)) [] := N_law_term.cal (P := P) (w := w) (base := base) (ok_termL N_law_term T c_law_take c_law_leaf c_law_up 6)
  have c_law_caught := N_law_caught.cal (P := P) (w := w) (base := base) (ok_caught N_law_caught.fn Z1 Z2 Z3 n21 n31 n32 ⟨x_show, k_sn2, k_sn1⟩)
  have g_right : CalG P w K mg base 10 "_law_refused_right" ["_law_box_here", "_law_whole", "_law_wide"] (spB 2 tRefused) := ⟨_, _, ok_refused N_law_refused_right.fn T c_law_take c_law_caught, N_law_refused_right.mgf, N_law_refused_right.fn.kp, N_law_refused_right.b⟩
  exact ok_law N_law.fn T ⟨c_law_cell, c_law_box, c_law_take, c_law_term, c_law_text, c_law_caught, g_right⟩
theorem exm_self {C : Addr} (b : PySem.W.subIn K (.ref C) (.type "BaseException") = some true) (i : (PySem.W.clsIn K C).isSome = true) (t : PySem.W.typeIn K (.ref C) = some (.type "type")) (s : PySem.W.subIn K (.ref C) (.ref C) = some true) : PySem.W.exmOne K (.ref C) (.ref C) = some true := by
  unfold PySem.W.exmOne PySem.W.kitCls
  rw [b]
  show (if ((PySem.W.clsIn K C).isSome && PySem.W.typeIn K (.ref C) == some (.type "type")) = true then PySem.W.subIn K (.ref C) (.ref C) else none) = some true
  rw [t, s, i]
  simp
theorem cls_there {C : Addr} {nm q N bs bm sn sub ab col dd k0 k1 k2 k3 k5 : _} {t : String} (l : K.lookup C = some (excClassObj nm q C N bs bm true sn sub ab col dd k0 k1 k2 k3 k5 t)) : (PySem.W.clsIn K C).isSome = true := by
  unfold PySem.W.clsIn
  rw [l] <;> rfl
theorem exm_other {C D : Addr} (b : PySem.W.subIn K (.ref C) (.type "BaseException") = some true) (i : (PySem.W.clsIn K C).isSome = true) (t : PySem.W.typeIn K (.ref C) = some (.type "type")) (s : PySem.W.subIn K (.ref D) (.ref C) = some false) : PySem.W.exmOne K (.ref D) (.ref C) = some false := by
  unfold PySem.W.exmOne PySem.W.kitCls
  rw [b]
  show (if ((PySem.W.clsIn K C).isSome && PySem.W.typeIn K (.ref C) == some (.type "type")) = true then PySem.W.subIn K (.ref D) (.ref C) else none) = some false
  rw [t, s, i]
  simp
theorem not_mk {nm0 qual : Str} {st : Stmt} {C fI : Addr} {nm q N bs bm sn sub ab col dd k0 k1 k2 k3 k5 : _} {oc : Value} {od an : Option Addr} {osl : Array (Option Value)} {kV doc pm cdv ct : Value}
    (eC : PySem.W.nsIn K mainGlobals nm0 = some (some (.ref C)))
    (lC : K.lookup C = some (excClassObj nm q C N bs bm true sn sub ab col dd k0 k1 k2 k3 k5 "ValueError.__new__")) (rv : PySem.HandSPX.refsVE bm = true) (sa : PySem.W.findIn K (.ref C) "__setattr__" = some (some (.builtin "object.__setattr__"))) (exC : PySem.W.subIn K (.ref C) (.type "BaseException") = some true)
    (tyC : PySem.W.typeIn K (.ref C) = some (.type "type")) (kC : PySem.W.keepIn K (.ref C) = true) (iC : PySem.W.findIn K (.ref C) "__init__" = some (some (.ref fI))) (tI : PySem.W.typeIn K (.ref fI) = some (.type "function")) (noF : PySem.W.findIn K (.ref C) "found" = some none)
    (lI : K.lookup fI = some ⟨oc, od, .func (PySem.W.fnOf "__init__" qual (defArgs st) (defBody st) (defScope st) .none kV doc pm an cdv ct), osl⟩) (cI : PySem.W.codeIn K cdv qual = true) (kI : PySem.W.keepIn K (.ref fI) = true)
    (ga : PySem.W.findIn K (.ref C) "__getattribute__" = some (some (.builtin "BaseException.__getattribute__"))) (gg : PySem.W.findIn K (.ref C) "__getattr__" = some none) (hdC : PySem.W.hasDictIn K C = true) (suC : PySem.W.subIn K (.ref C) (.ref C) = some true) :
    ∃ fdI, NotC K nm0 qual st C fI fdI ∧ (PySem.W.clsIn K C).isSome = true :=
  ⟨_, ⟨eC, ⟨⟨_, _, _, _, _, _, _, _, _, _, _, _, _, _, _, lC, rv⟩, sa, exC, tyC, kC⟩, iC, tI, noF, fun_mk lI cI kI, ⟨ga, gg, exC, hdC⟩, exm_self exC (cls_there lC) tyC suC⟩, cls_there lC⟩
theorem nots_mk {U C1 fI1 C2 fI2 C3 fI3 : Addr} (eU : PySem.W.nsIn K mainGlobals "PaperError" = some (some (.ref U))) (kU : PySem.W.keepIn K (.ref U) = true) (spU : PySem.W.specialIn K (.ref U) "__getattribute__" = some (some (.builtin "type.__getattribute__"))) (rdU : PySem.W.readsIn K U (.type "type") = true)
    (fcU : PySem.W.findCls K (.ref U) (.type "type") "__init__" = some (.val (.builtin "ValueError.__init__"))) (h1 : ∃ fdI, NotC K "NoTerm" "NoTerm.__init__" sInitT C1 fI1 fdI ∧ (PySem.W.clsIn K C1).isSome = true) (h2 : ∃ fdI, NotC K "NoNumber" "NoNumber.__init__" sInitN C2 fI2 fdI ∧ (PySem.W.clsIn K C2).isSome = true) (h3 : ∃ fdI, NotC K "NoFit" "NoFit.__init__" sInitF C3 fI3 fdI ∧ (PySem.W.clsIn K C3).isSome = true) (b1 : PySem.W.subIn K (.ref C1) (.type "BaseException") = some true) (t1 : PySem.W.typeIn K (.ref C1) = some (.type "type")) (b2 : PySem.W.subIn K (.ref C2) (.type "BaseException") = some true) (t2 : PySem.W.typeIn K (.ref C2) = some (.type "type")) (s21 : PySem.W.subIn K (.ref C2) (.ref C1) = some false) (s31 : PySem.W.subIn K (.ref C3) (.ref C1) = some false) (s32 : PySem.W.subIn K (.ref C3) (.ref C2) = some false) :
    ∃ U C1 fI1 fdI1 C2 fI2 fdI2 C3 fI3 fdI3, PySem.W.nsIn K mainGlobals "PaperError" = some (some (.ref U)) ∧ UpC K U ∧ NotC K "NoTerm" "NoTerm.__init__" sInitT C1 fI1 fdI1 ∧ NotC K "NoNumber" "NoNumber.__init__" sInitN C2 fI2 fdI2 ∧ NotC K "NoFit" "NoFit.__init__" sInitF C3 fI3 fdI3 ∧ PySem.W.exmOne K (.ref C2) (.ref C1) = some false ∧ PySem.W.exmOne K (.ref C3) (.ref C1) = some false ∧ PySem.W.exmOne K (.ref C3) (.ref C2) = some false := by
  obtain ⟨fd1, N1, i1⟩ := h1
  obtain ⟨fd2, N2, i2⟩ := h2
  obtain ⟨fd3, N3, i3⟩ := h3
  exact ⟨U, C1, fI1, fd1, C2, fI2, fd2, C3, fI3, fd3, eU, ⟨kU, spU, _, rdU, fcU⟩, N1, N2, N3, exm_other b1 i1 t1 s21, exm_other b1 i1 t1 s31, exm_other b2 i2 t2 s32⟩
end
section
variable {K : PySem.W.Frag} {w : World}
theorem glo_mk {x : Str} {u : Value} {v : V} (e : PySem.W.nsIn K mainGlobals x = some (some u)) (r : RelV v u) : ∃ u, PySem.W.nsIn K mainGlobals x = some (some u) ∧ RelV v u := ⟨u, e, r⟩
theorem no_mk {a : Addr} {dd : Option Addr} {its : Array Value} {n : Nat} {sl : Array (Option Value)} (e : PySem.W.nsIn K mainGlobals "NO_NAMES" = some (some (.ref a))) (l : K.lookup a = some ⟨.type "tuple", dd, .seq its n, sl⟩) (s : its.size ≤ sizeLine) (v : Vals (noNames.map V.str) its.toList) :
    ∃ a o its n, PySem.W.nsIn K mainGlobals "NO_NAMES" = some (some (.ref a)) ∧ K.lookup a = some o ∧ o.cls = .type "tuple" ∧ o.data = .seq its n ∧ its.size ≤ sizeLine ∧ Vals (noNames.map V.str) its.toList := ⟨a, _, its, n, e, l, rfl, rfl, s, v⟩
theorem count_mk {f T : Addr} {oc : Value} {od an td : Option Addr} {kV doc pm cdv ct tc : Value} {osl tsl : Array (Option Value)} {its : Array Value} {n : Nat} (e : PySem.W.nsIn K mainGlobals "is_count" = some (some (.ref f)))
    (l : K.lookup f = some ⟨oc, od, .func (PySem.W.fnOf "is_count" "is_count" (defArgs sCount) (defBody sCount) (defScope sCount) (.ref T) kV doc pm an cdv ct), osl⟩) (c : PySem.W.codeIn K cdv "is_count" = true) (k : PySem.W.keepIn K (.ref f) = true)
    (lT : K.lookup T = some ⟨tc, td, .seq its n, tsl⟩) (v : Vals [.int 0] its.toList) :
    ∃ f fd, PySem.W.nsIn K mainGlobals "is_count" = some (some (.ref f)) ∧ FunD K "is_count" "is_count" (defArgs sCount) (defBody sCount) (defScope sCount) [.int 0] [] f fd :=
  ⟨f, _, e, ⟨_, _, _, _, _, _, _, _, _, _, rfl, l, c, Or.inr ⟨by simp, T, _, its.toList, n, rfl, lT, rfl, v⟩, Or.inl rfl⟩, k⟩
theorem parted_z {a : Addr} {c : Value} {d : Option Addr} {n : Nat} {sl : Array (Option Value)} {h1 h2 h3 h4 h5 h6 : Int} {k1 k2 k3 k4 k5 k6 v1 v2 v3 v4 v5 v6 : Tok}
    (l : K.lookup a = some ⟨c, d, .dict #[⟨h1, .str "all" k1, .int 2 v1⟩, ⟨h2, .str "fun" k2, .int 2 v2⟩, ⟨h3, .str "app" k3, .int 2 v3⟩, ⟨h4, .str "same" k4, .int 3 v4⟩, ⟨h5, .str "self" k5, .int 2 v5⟩, ⟨h6, .str "put" k6, .int 3 v6⟩] n, sl⟩) :
    ∀ z, ∃ r, PySem.W.nsIn K a z = some r ∧ RelO ((parts z).map fun n => V.int (n : Int)) r := by
  intro z
  have y : ∀ {s : Str} {t : Tok}, s = z → (Value.str s t).isStr z = true := fun h => by
    subst h
    show (_ == _) = true
    simp
  have no : ∀ {s : Str} {t : Tok}, z ≠ s → (Value.str s t).isStr z = false := fun h => by
    show (_ == _) = false
    exact beq_eq_false_iff_ne.mpr fun e => h e.symm
  have pos : ∀ {h : Int} {s : Str} {t : Tok} {v : Value} {r : List DictEntry}, s = z → List.find? (fun x : DictEntry => x.key.isStr z) (⟨h, .str s t, v⟩ :: r) = some ⟨h, .str s t, v⟩ := fun e => List.find?_cons_of_pos (y e)
  have neg : ∀ {h : Int} {s : Str} {t : Tok} {v : Value} {r : List DictEntry}, z ≠ s → List.find? (fun x : DictEntry => x.key.isStr z) (⟨h, .str s t, v⟩ :: r) = List.find? (fun x : DictEntry => x.key.isStr z) r := fun e => List.find?_cons_of_neg (by
    show ¬ (Value.str _ _).isStr z = true
    rw [no e]
    exact Bool.false_ne_true)
  unfold PySem.W.nsIn
  rw [l]
  dsimp only
  by_cases c1 : z = "all"
  · rw [pos c1.symm]
    refine ⟨_, rfl, ?_⟩
    rw [c1]
    exact ⟨_, rfl⟩
  rw [neg c1]
  by_cases c2 : z = "fun"
  · rw [pos c2.symm]
    refine ⟨_, rfl, ?_⟩
    rw [c2]
    exact ⟨_, rfl⟩
  rw [neg c2]
  by_cases c3 : z = "app"
  · rw [pos c3.symm]
    refine ⟨_, rfl, ?_⟩
    rw [c3]
    exact ⟨_, rfl⟩
  rw [neg c3]
  by_cases c4 : z = "same"
  · rw [pos c4.symm]
    refine ⟨_, rfl, ?_⟩
    rw [c4]
    exact ⟨_, rfl⟩
  rw [neg c4]
  by_cases c5 : z = "self"
  · rw [pos c5.symm]
    refine ⟨_, rfl, ?_⟩
    rw [c5]
    exact ⟨_, rfl⟩
  rw [neg c5]
  by_cases c6 : z = "put"
  · rw [pos c6.symm]
    refine ⟨_, rfl, ?_⟩
    rw [c6]
    exact ⟨_, rfl⟩
  rw [neg c6]
  have e : parts z = none := by
    unfold parts
    rw [if_neg c1, if_neg c2, if_neg c3, if_neg c4, if_neg c5, if_neg c6]
  rw [e]
  exact ⟨none, rfl, trivial⟩
theorem parted_mk {a : Addr} {n : Nat} {h1 h2 h3 h4 h5 h6 : Int} {k1 k2 k3 k4 k5 k6 v1 v2 v3 v4 v5 v6 : Tok} (e : PySem.W.nsIn K mainGlobals "PARTED" = some (some (.ref a)))
    (l : K.lookup a = some ⟨.type "dict", none, .dict #[⟨h1, .str "all" k1, .int 2 v1⟩, ⟨h2, .str "fun" k2, .int 2 v2⟩, ⟨h3, .str "app" k3, .int 2 v3⟩, ⟨h4, .str "same" k4, .int 3 v4⟩, ⟨h5, .str "self" k5, .int 2 v5⟩, ⟨h6, .str "put" k6, .int 3 v6⟩] n, #[]⟩)
    (k : PySem.W.KeysLit w.params (#[(⟨h1, .str "all" k1, .int 2 v1⟩ : DictEntry), ⟨h2, .str "fun" k2, .int 2 v2⟩, ⟨h3, .str "app" k3, .int 2 v3⟩, ⟨h4, .str "same" k4, .int 3 v4⟩, ⟨h5, .str "self" k5, .int 2 v5⟩, ⟨h6, .str "put" k6, .int 3 v6⟩] : Array DictEntry).toList) (lo : (a == sysModules) = false) :
    ∃ a es n, PySem.W.nsIn K mainGlobals "PARTED" = some (some (.ref a)) ∧ KDict K w a es n ∧ ∀ z, ∃ r, PySem.W.nsIn K a z = some r ∧ RelO ((parts z).map fun n => V.int (n : Int)) r := ⟨a, _, n, e, ⟨l, k, lo⟩, parted_z l⟩
end
theorem tup_mk {K : PySem.W.Frag} {x : Str} {bs : List Str} {a : Addr} {dd : Option Addr} {its : Array Value} {n : Nat} {sl : Array (Option Value)} (e : PySem.W.nsIn K mainGlobals x = some (some (.ref a))) (l : K.lookup a = some ⟨.type "tuple", dd, .seq its n, sl⟩) (s : its.size ≤ sizeLine) (v : Vals (bs.map V.str) its.toList) :
    ∃ a o its n, PySem.W.nsIn K mainGlobals x = some (some (.ref a)) ∧ K.lookup a = some o ∧ o.cls = .type "tuple" ∧ o.data = .seq its n ∧ its.size ≤ sizeLine ∧ Vals (bs.map V.str) its.toList := ⟨a, _, its, n, e, l, rfl, rfl, s, v⟩
theorem all_mk0 {P : Program} {w : World} {K : PySem.W.Frag} {h : Heap} {mg : Str → Option Value} {fa : Addr} (X : K.In h) (G : h.Ns mainGlobals mg) (hfa : mg "law" = some (.ref fa)) (Z : Facts K w) :
    ∃ fd : FuncData, (∀ (s : Shared) (v : Value), BindsTo s fd ⟨[v], []⟩ [("_law_script", v)]) ∧ ∀ base : Heap, K.In base → base.Ns mainGlobals mg → FnG P w K mg base CX0 40 fa fd ["_law_script"] (spLaw K) := by
  obtain ⟨fd, b, f⟩ := all_mk (P := P) X G hfa Z
  exact ⟨fd, b, fun base k n => f base k n (fun p hp => by cases hp)⟩
end KP
set_option Elab.async false
set_option linter.unusedVariables false
set_option maxRecDepth 100000
set_option maxHeartbeats 1000000
/-! The end of a law on a row with defs within defs: their code tables, empty ahead of the law, are tracked beside the script. -/
namespace KA
open PySem PySem.Spec PyProof.Rows L2
structure Tabled (K : PySem.W.Frag) (cs : List (Addr × Addr)) (h : Heap) : Prop where
  void : ∀ p ∈ cs, h.get? p.2 = some { cls := .none, data := .fields #[] }
  off : ∀ p ∈ cs, K.lookup p.2 = none
  hd : ∀ p ∈ cs, PySem.W.CodeHd h p.1 p.2
section
variable {P : Program} {w : World} {K : PySem.W.Frag} {mg mb : Str → Option Value} {k : Nat} {fa a : Addr} {fd : FuncData} {x : Str} {sp : Sp} {s : Shared} {vs : List Value} {ns : List Int} {cs : List (Addr × Addr)}
theorem law_fromT {H : Hp} (kin : K.In s.heap) (ng : s.heap.Ns mainGlobals mg) (nb : s.heap.Ns builtinsNs mb) (hb : ∀ x : Str, x ≠ "__name__" → mb x = bootBuiltins x) (lim : s.heap.NoLimit) (gens : s.gens = #[])
    (bmain : ∃ (bm : Addr) (ob : Obj), mg "__builtins__" = some (.ref bm) ∧ bm ≠ builtinsNs ∧ s.heap.get? bm = some ob ∧ ob.cls = .type "module" ∧ ob.dict = some builtinsNs ∧ ob.data = .plain)
    (obj : s.heap.get? a = some { cls := .type "list", data := .seq vs.toArray }) (room : Room k callerA) (T : Tabled K cs s.heap)
    (F : ∀ base : Heap, K.In base → base.Ns mainGlobals mg → (∀ p ∈ cs, LamX.TabB base mg p.1 p.2) → FnG P w K mg base CX0 k fa fd [x] sp)
    (bt : ∀ (s : Shared) (u : Value), BindsTo s fd ⟨[u], []⟩ [(x, u)]) (hok : HOk P w H s.heap) (tH : ∀ p ∈ cs, H p.2 = some (.tbl #[]))
    (one : ∀ b, H b ≠ none → (b = a ∧ ∃ ob, H b = some (.frz ob (.lst (ns.map V.int)))) ∨ ∃ p ∈ cs, p.2 = b) (offK : H a ≠ none → K.lookup a = none)
    (h : sp [.ref a] H (fun v _ => v = .bl true) fun _ _ _ => False) :
    codeAny (model P w) callerA (.call (.ref fa) ⟨[.ref a], []⟩) (fun r s' => r = .ok (.ret (.bool true)) ∧ OldK s.heap s'.heap ∧ s'.os = s.os ∧ AllBare s'.gens) s := by
  have low : ∀ {b : Addr} {o : Obj}, s.heap.get? b = some o → H b = none → (hidT s.heap H).get? b = some o := fun e n => hidT_get e n
  have free : ∀ {b : Addr} {o : Obj}, s.heap.get? b = some o → (∀ n, o.data ≠ .seq vs.toArray n) → o.data ≠ .fields #[] → H b = none := by
    intro b o e d d2
    cases q : H b with
    | none => rfl
    | some u =>
      rcases one b (by rw [q]; simp) with ⟨rfl, _⟩ | ⟨p, hp, rfl⟩
      · rw [obj] at e
        cases e
        exact absurd rfl (d _)
      · rw [T.void p hp] at e
        cases e
        exact absurd rfl d2
  have nsL : ∀ {b : Addr} {m : Str → Option Value}, s.heap.Ns b m → (hidT s.heap H).Ns b m := by
    rintro b m ⟨o, es, ep, e, d, r⟩
    exact ⟨o, es, ep, low e (free e (fun n z => by rw [d] at z; cases z) fun z => by rw [d] at z; cases z), d, r⟩
  have kinL : K.In (hidT s.heap H) := by
    intro b o e
    refine low (kin b o e) ?_
    cases q : H b with
    | none => rfl
    | some u =>
      rcases one b (by rw [q]; simp) with ⟨rfl, _⟩ | ⟨p, hp, rfl⟩
      · rw [offK (by rw [q]; simp)] at e
        cases e
      · rw [T.off p hp] at e
        cases e
  have md : Mod K mg (hidT s.heap H) := ⟨kinL, nsL ng, ⟨mb, nsL nb, hb⟩, by obtain ⟨mc, h1, h2⟩ := lim; exact ⟨mc, nsL h1, h2⟩⟩
  have dict0 : ∀ {b : Addr}, s.heap.Ns b mg → ∃ o es ep, s.heap.get? b = some o ∧ o.data = .dict es ep := by
    rintro b ⟨o, es, ep, e, d, r⟩
    exact ⟨o, es, ep, e, d⟩
  have tabs : ∀ p ∈ cs, LamX.TabB (hidT s.heap H) mg p.1 p.2 := by
    intro p hp
    have v := T.void p hp
    obtain ⟨go, ges, gep, ge, gd⟩ := dict0 ng
    refine ⟨?_, ?_, fun z => ?_⟩
    · obtain ⟨o, us, a1, a2, a3, a4, a5, a6, a7, e1, r1, r2, r3, r4⟩ := T.hd p hp
      refine ⟨o, us, a1, a2, a3, a4, a5, a6, a7, low e1 (free e1 (fun n z => by rw [r2] at z; cases z) fun z => ?_), r1, r2, r3, r4⟩
      rw [r2] at z
      cases z
      simp at r3
    · obtain ⟨bm, ob, b1, b2, b3, b4, b5, b6⟩ := bmain
      refine ⟨bm, ob, b1, b2, fun q => ?_, fun q => ?_, low b3 (free b3 (fun n z => by rw [b6] at z; cases z) fun z => by rw [b6] at z; cases z), b4, b5, b6⟩
      · rw [q, ge] at b3
        cases b3
        rw [gd] at b6
        cases b6
      · rw [q, v] at b3
        cases b3
        cases b6
    · rw [z, v] at ge
      cases ge
      cases gd
  have e0 : Env0 P w K mg (hidT s.heap H) callerA [] s H :=
    ⟨rfl, md, fun b o e => of_hidT e, Nat.le_of_eq (hidT_size _ _), trivial, fun b z => absurd (show b ∈ ([] : List Addr) from z) (by simp), hok, .of_eq gens⟩
  have G := (F _ kinL (nsL ng) tabs).run callerA [] s H ⟨[.ref a], []⟩ [.ref a] [.ref a] _ _ rfl room e0 (bt s (.ref a)) (.cons rfl .nil) h
  refine codeAny_mono G fun r s' z => ?_
  cases r with
  | error e => exact absurd z id
  | ok fl =>
    cases fl with
    | next => exact absurd z id
    | brk => exact absurd z id
    | cont => exact absurd z id
    | ret u =>
      obtain ⟨v, H', os, bare, un, hok', rv, q⟩ := z
      obtain rfl : v = .bl true := q
      obtain rfl : u = Value.bool true := rv
      have more : ∀ p ∈ cs, ∃ m : Array Value, s'.heap.get? p.2 = some { cls := .none, data := .fields m } := fun p hp => by
        obtain ⟨m, y⟩ := un.tbls p.2 #[] (tH p hp)
        exact ⟨_, hok' p.2 _ y⟩
      have rest : ∀ b o, s.heap.get? b = some o → (¬ ∃ p ∈ cs, p.2 = b) → s'.heap.get? b = some o := fun b o e nb => by
        cases q : H b with
        | none => exact un.keep b o e q (fun z => absurd (show b ∈ ([] : List Addr) from z) (by simp)) (by simp)
        | some u =>
          rcases one b (by rw [q]; simp) with ⟨_, ob, z⟩ | z
          · obtain ⟨e1, _⟩ := hok b _ z
            obtain ⟨e2, _⟩ := hok' b _ (un.frzs b ob _ z)
            rw [e] at e1
            cases e1
            exact e2
          · exact absurd z nb
      refine ⟨rfl, ⟨fun b o e => ?_, fun b o e => ?_⟩, os, bare⟩
      · by_cases c : ∃ p ∈ cs, p.2 = b
        · obtain ⟨p, hp, rfl⟩ := c
          obtain ⟨m, hm⟩ := more p hp
          rw [T.void p hp] at e
          cases e
          exact Or.inr (Or.inl ⟨((T.hd p hp).tab (T.void p hp)).isCodeTable, rfl, #[], m, rfl, by rw [Array.empty_append]; exact hm⟩)
        · exact Or.inl (rest b o e c)
      · by_cases c : ∃ p ∈ cs, p.2 = b
        · obtain ⟨p, hp, rfl⟩ := c
          obtain ⟨m, hm⟩ := more p hp
          exact ⟨_, hm⟩
        · exact ⟨o, rest b o e c⟩
open Classical in
theorem law_runT (kin : K.In s.heap) (ng : s.heap.Ns mainGlobals mg) (nb : s.heap.Ns builtinsNs mb) (hb : ∀ x : Str, x ≠ "__name__" → mb x = bootBuiltins x) (lim : s.heap.NoLimit) (gens : s.gens = #[])
    (bmain : ∃ (bm : Addr) (ob : Obj), mg "__builtins__" = some (.ref bm) ∧ bm ≠ builtinsNs ∧ s.heap.get? bm = some ob ∧ ob.cls = .type "module" ∧ ob.dict = some builtinsNs ∧ ob.data = .plain)
    (obj : s.heap.get? a = some { cls := .type "list", data := .seq vs.toArray }) (its : IntsAre vs ns) (many : ns.length ≤ sizeLine) (room : Room k callerA) (T : Tabled K cs s.heap)
    (F : ∀ base : Heap, K.In base → base.Ns mainGlobals mg → (∀ p ∈ cs, LamX.TabB base mg p.1 p.2) → FnG P w K mg base CX0 k fa fd [x] sp) (bt : ∀ (s : Shared) (u : Value), BindsTo s fd ⟨[u], []⟩ [(x, u)])
    (h : ∀ H : Hp, (∀ p ∈ cs, H p.2 = some (.tbl #[])) → (∀ b, H b ≠ none → b = a ∨ ∃ p ∈ cs, p.2 = b) → SqL K H a (ns.map V.int) → sp [.ref a] H (fun v _ => v = .bl true) fun _ _ _ => False) :
    codeAny (model P w) callerA (.call (.ref fa) ⟨[.ref a], []⟩) (fun r s' => r = .ok (.ret (.bool true)) ∧ OldK s.heap s'.heap ∧ s'.os = s.os ∧ AllBare s'.gens) s := by
  have rv := vals_ints its
  have len := its.length
  have na : ¬ ∃ p ∈ cs, p.2 = a := by
    rintro ⟨p, hp, e⟩
    have v := T.void p hp
    rw [e, obj] at v
    have v2 : Data.seq vs.toArray _ = Data.fields #[] := congrArg Obj.data (Option.some.inj v)
    cases v2
  by_cases hk : K.lookup a = none
  · refine law_fromT (H := fun b => if b = a then some (.frz { cls := .type "list", data := .seq vs.toArray } (.lst (ns.map V.int))) else if ∃ p ∈ cs, p.2 = b then some (.tbl #[]) else none) (ns := ns) kin ng nb hb lim gens bmain obj room T F bt ?_ ?_ ?_ (fun _ => hk) ?_
    · intro b u z
      by_cases q : b = a
      · subst q
        simp only [if_true] at z
        cases z
        exact ⟨obj, by rw [List.length_map]; exact many, vs, _, rv, obj⟩
      · simp only [if_neg q] at z
        by_cases c : ∃ p ∈ cs, p.2 = b
        · rw [if_pos c] at z
          cases z
          obtain ⟨p, hp, rfl⟩ := c
          exact T.void p hp
        · rw [if_neg c] at z
          cases z
    · intro p hp
      exact (if_neg fun e => na ⟨p, hp, e⟩).trans (if_pos ⟨p, hp, rfl⟩)
    · intro b z
      by_cases q : b = a
      · exact Or.inl ⟨q, _, if_pos q⟩
      · refine Or.inr (Classical.byContradiction fun c => z ?_)
        exact (if_neg q).trans (if_neg c)
    · refine h _ (fun p hp => (if_neg fun e => na ⟨p, hp, e⟩).trans (if_pos ⟨p, hp, rfl⟩)) (fun b z => ?_) (Or.inl (Or.inr ⟨_, if_pos rfl⟩))
      by_cases q : b = a
      · exact Or.inl q
      · refine Or.inr (Classical.byContradiction fun c => z ?_)
        exact (if_neg q).trans (if_neg c)
  · obtain ⟨o, hk⟩ := Option.ne_none_iff_exists'.mp hk
    have e := kin a o hk
    rw [obj] at e
    cases e
    refine law_fromT (H := fun b => if ∃ p ∈ cs, p.2 = b then some (.tbl #[]) else none) (ns := ns) kin ng nb hb lim gens bmain obj room T F bt ?_ (fun p hp => if_pos ⟨p, hp, rfl⟩) ?_ (fun z => absurd (if_neg na) z) ?_
    · intro b u z
      by_cases c : ∃ p ∈ cs, p.2 = b
      · simp only [if_pos c] at z
        cases z
        obtain ⟨p, hp, rfl⟩ := c
        exact T.void p hp
      · simp only [if_neg c] at z
        cases z
    · intro b z
      exact Or.inr (Classical.byContradiction fun c => z (if_neg c))
    · refine h _ (fun p hp => if_pos ⟨p, hp, rfl⟩) (fun b z => Or.inr (Classical.byContradiction fun c => z (if_neg c))) ?_
      exact Or.inr ⟨_, vs.toArray, _, hk, rfl, rfl, rfl, by rw [List.size_toArray, len]; exact many, by simpa using rv⟩
end
theorem walkT {l : PySem.W.OpenLaw} {n k : Nat} {q : Program} {loose : List Str} {XP : (Str → Option Value) → Heap → Prop} {YP : World → Heap → Prop} {d : DefRec} {K : Params → PySem.W.Frag} {sp : PySem.W.Frag → Sp} {x : Str} {cs : List (Addr × Addr)}
    (hn : l.most = some n) (small : n ≤ sizeLine) (hdf : d.params.defaults = []) (room : Room k callerA) (hY : ∀ (w : World) (h : Heap), YP w h → (K w.params).In h) (hT : ∀ (w : World) (h : Heap), YP w h → Tabled (K w.params) cs h)
    (F : ∀ (w : World) (mg : Str → Option Value) (fa : Addr) (h : Heap), (K w.params).In h → h.Ns mainGlobals mg → mg d.name = some (.ref fa) →
      ∃ fd : FuncData, (∀ (s : Shared) (u : Value), BindsTo s fd ⟨[u], []⟩ [(x, u)]) ∧ ∀ base : Heap, (K w.params).In base → base.Ns mainGlobals mg → (∀ p ∈ cs, LamX.TabB base mg p.1 p.2) → FnG l.prog w (K w.params) mg base CX0 k fa fd [x] (sp (K w.params)))
    (h : ∀ (K : PySem.W.Frag) (H : Hp) (a : Addr) (ns : List Int), ns.length ≤ n → (∀ p ∈ cs, H p.2 = some (.tbl #[])) → (∀ b, H b ≠ none → b = a ∨ ∃ p ∈ cs, p.2 = b) → SqL K H a (ns.map V.int) → sp K [.ref a] H (fun v _ => v = .bl true) fun _ _ _ => False) :
    PySem.W.WalkO q loose XP YP l.row.toRowW d [] (fun f vs => PySem.call f vs) := by
  refine Att.attach_call hn hdf fun w s₀ s₁ mg mb fa o pm cd doc a vs ns G Y ho hd hcd hmg obj its len gens => ?_
  have kin := hY w _ Y
  obtain ⟨fd, bt, F1⟩ := F w mg fa _ kin G.T.g hmg
  exact law_runT kin G.T.g G.T.b G.T.builtins G.T.nolimit gens G.T.bmain obj its (Nat.le_trans len small) room (hT w _ Y) F1 bt fun H tH one sq => h (K w.params) H a ns len tH one sq
end KA
set_option Elab.async false
set_option maxRecDepth 100000
open PySem PySem.W PyProof.Rows in
set_option maxRecDepth 100000 in
set_option maxHeartbeats 0 in
theorem PySem.Challenge.cw_kernelpapers_k38_terms_shown_holds : PySem.Challenge.rw_kernelpapers_k38_terms_shown.Holds := by
  w_on; o_law; k_head; (case hw => w_witness2)
  k_fill
  refine KA.walkG (l := PySem.Challenge.rw_kernelpapers_k38_terms_shown) (n := 63) (k := 40) (x := "_law_script") (sp := KP.spLaw) rfl (by decide) rfl ⟨rfl, by decide, by decide⟩ (fun w h Y => PySem.W.kIn_of Y) ?F ?G
  case G => exact fun K H a ns hl _ hS => ⟨a, ns, rfl, KP.tab_void (fun p hp => by cases hp), hS, hl, fun _ => rfl⟩
  case F =>
    intro w mg fa h KX G hmg
    refine KP.all_mk0 KX G hmg ?Z
    clear hmg
    constructor
    case letters =>
      refine KP.glo_mk (by k_is) ?_
      exact ⟨_, rfl⟩
    case most =>
      refine KP.glo_mk (by k_is) ?_
      exact ⟨_, rfl⟩
    case highest =>
      refine KP.glo_mk (by k_is) ?_
      exact ⟨_, rfl⟩
    case no =>
      refine KP.no_mk (by k_is) (by k_is) ?s ?v
      (case s => decide)
      (case v => exact .cons ⟨_, rfl⟩ (.cons ⟨_, rfl⟩ (.cons ⟨_, rfl⟩ (.cons ⟨_, rfl⟩ (.cons ⟨_, rfl⟩ .nil)))))
    case parted =>
      refine KP.parted_mk (by k_is) (by k_is) ?k ?lo
      (case k => k_keys)
      (case lo => rfl)
    case count =>
      refine KP.count_mk (by k_is) (by k_is) (by k_is) (by k_is) (by k_is) ?v
      exact .cons ⟨_, rfl⟩ .nil
    case i_most_names =>
      refine KP.glo_mk (by k_is) ?_
      exact ⟨_, rfl⟩
    case d_show =>
      refine KP.defD_mk ?hd_show (by k_is) (by k_is) (by k_is) (by k_is) (by k_is) ?v_show
      (case hd_show => simp)
      (case v_show => exact (.cons ⟨_, rfl⟩ .nil))
    case u_binding =>
      refine KP.tup_mk (by k_is) (by k_is) ?su_binding ?vu_binding
      (case su_binding => decide)
      (case vu_binding => exact (.cons ⟨_, rfl⟩ (.cons ⟨_, rfl⟩ .nil)))
    case u_long_heads =>
      refine KP.tup_mk (by k_is) (by k_is) ?su_long_heads ?vu_long_heads
      (case su_long_heads => decide)
      (case vu_long_heads => exact (.cons ⟨_, rfl⟩ (.cons ⟨_, rfl⟩ (.cons ⟨_, rfl⟩ (.cons ⟨_, rfl⟩ (.cons ⟨_, rfl⟩ .nil))))))
    case nots =>
      refine KP.nots_mk (by k_is) (by k_is) (by k_is) (by k_is) (by k_is) (KP.not_mk (by k_is) (by k_is) ?rv1 (by k_is) (by k_is) (by k_is) (by k_is) (by k_is) (by k_is) (by k_is) (by k_is) (by k_is) (by k_is) (by k_is) (by k_is) (by k_is) (by k_is)) (KP.not_mk (by k_is) (by k_is) ?rv2 (by k_is) (by k_is) (by k_is) (by k_is) (by k_is) (by k_is) (by k_is) (by k_is) (by k_is) (by k_is) (by k_is) (by k_is) (by k_is) (by k_is)) (KP.not_mk (by k_is) (by k_is) ?rv3 (by k_is) (by k_is) (by k_is) (by k_is) (by k_is) (by k_is) (by k_is) (by k_is) (by k_is) (by k_is) (by k_is) (by k_is) (by k_is) (by k_is)) (by k_is) (by k_is) (by k_is) (by k_is) (by k_is) (by k_is) (by k_is)
      (case rv1 => decide +kernel)
      (case rv2 => decide +kernel)
      (case rv3 => decide +kernel)
    all_goals first | k_is | exact KP.defAt (by k_is) (by k_is) (by k_is) (by k_is) | exact KP.defCAt (by k_is) (by k_is) (by k_is) (by k_is)
