import PyProof.Rows.All
import Wide.All
import OpenK.AllK
import Wide.FinOn
import HandS.ForMost
import HandS.Defaults
import HandS.IsInst
import HandS.TupAny
import HandS.ListItems
import HandS.Flow
import HandS.Zip
import PyProof.AutoSeq1
import HandS.Zip0
import PyProof.Draws
import HandS.Codes
import HandS.More
import HandS.Style
import HandS.Conv
import PyProof.StrLawsRepr
import HandS.ExcInit
import PyProof.Rows.EqDataRows
import HandS.NestedK
import HandS.RevRange
import HandS.Rev
import HandS.Star
import HandS.TupMul
import HandS.Text
import HandS.Iter
import KE.GoesMore
import KE.GoesZip
import HandS.List
import HandS.Exc
import HandS.ExcField
import HandS.WordsExc
import HandS.ExcOwn
import PyProof.CodeObj
import HandS.MakeKw
import HandS.Small
import HandS.CallSlots
import HandS.EndTab
import PySem.Challenge.RW_kernelpapers_k07_whole_giving
set_option Elab.async false
set_option maxRecDepth 100000
set_option maxHeartbeats 1000000
/-! Own ground: calls where nothing is being shown (guards), what data a value stands for, repr of it. -/
namespace KA
open PySem PySem.Spec PyProof.Rows L2

/-! ### a def's promise where no repr is under way -/
structure FnG (P : Program) (w : World) (K : PySem.W.Frag) (mg : Str → Option Value) (base : Heap) (CX : CXT) (k : Nat) (f : Addr) (fd : FuncData) (ps : List Str) (sp : Sp) : Prop where
  len : ∀ vs H Q E, sp vs H Q E → vs.length = ps.length
  run : ∀ (A : Around) (outer : List Env) (s : Shared) (H : Hp) (args : Args) (us : List Value) (vs : List V) (Q : VK) (E : XK), A.guards = some [] → Room k A → Env0 P w K mg base A outer s H →
    BindsTo s fd args (ps.zip us) → Vals vs us → sp vs H Q E → codeAny (model P w) A (.call (.ref f) args) (CR CX outer P w H s Q E) s

section
variable {P : Program} {w : World} {K : PySem.W.Frag} {mg : Str → Option Value} {base : Heap} {CX : CXT} {k : Nat}
/-- the body of a def, entered from one place -/
theorem enter {x qual : Str} {st : Stmt} {f : Addr} {fd : FuncData} {N ps : List Str} (F : Fun K x qual st f fd) (S : FnScope N ps (defScope st))
    {A : Around} {outer : List Env} {s : Shared} {H : Hp} {args : Args} {us : List Value} {vs : List V} {Q : VK} {E : XK} (room : Room (k + 1) A) (e0 : Env0 P w K mg base A outer s H) (bt : BindsTo s fd args (ps.zip us))
    (rv : Vals vs us) (many : vs.length = ps.length)
    (body : ∀ cdv : Value, ∃ t, PSs (cxOf CX P w K mg base N qual (defScope st) f cdv A outer s H E) (defBody st) t ∧ t { nx := fun _ H' => Q .non H', rt := Q } (start N vs) H) :
    codeAny (model P w) A (.call (.ref f) args) (CR CX outer P w H s Q E) s := by
  obtain ⟨oc, od, kV, doc, pm, an, cdv, ct, osl, rfl, lk, code⟩ := F.ex
  have here : ∀ b o, base.get? b = some o → s.heap.get? b = some o := fun b o e => (e0.bs b o e).1
  have kin : K.In s.heap := e0.mod.kin.keeps here
  have lim : s.heap.NoLimit := e0.mod.nolimit.keeps here
  have kinds : ∀ y ∈ ps.zip us, (defScope st).names.lookup y.1 = some .local ∨ ((defScope st).names.lookup y.1 = some .cell ∧ ((cellsFrom (s.heap.objs.size + 1) (defScope st).names []).lookup y.1).isSome = true) := by
    rintro ⟨n, v⟩ hy
    rcases S.par n (List.of_mem_zip hy).1 with q | q
    · exact Or.inl q
    · exact Or.inr ⟨q, PySem.W.cellsFrom_some _ _ _ (Or.inl q)⟩
  refine codeAny_call_function room.depth (kin _ _ lk) rfl S.co S.gen rfl (PySem.W.codeRec_of kin code) (bt _ _ _ _ ?_)
  refine wpAny_newFunctionEnv_cells S.kind kinds fun env he s1 x => ?_
  subst he
  refine ⟨lim.keeps x.toInCall.keep, codeAny_func ?_⟩
  obtain ⟨t, ht, hq⟩ := body cdv
  have I0 := inv_start (CX := CX) (E := E) S room.hd e0 many rv x
  refine wpAny_mono (ht.run [] s1 (start N vs) H _ I0 hq) (fun fl s' hs => ?_) fun e s' hs => hs
  have fin : ∀ {σ' : L2.St} {H' : Hp} {v : V} {u : Value}, Inv (cxOf CX P w K mg base N qual (defScope st) f cdv A outer s H E) [] σ' H' s' → RelV v u → Q v H' → CE outer P w H s Q u s' :=
    fun {_ H' v _} J r q => ⟨v, H', J.os, J.bare, J.base, J.hok, r, q⟩
  cases fl with
  | ret u => obtain ⟨v, σ', H', J, r, q⟩ := hs; exact fin J r q
  | next => obtain ⟨σ', H', J, q⟩ := hs; exact fin (v := V.non) (u := Value.none) J rfl q
  | brk => obtain ⟨_, _, _, q⟩ := hs; exact q.elim
  | cont => obtain ⟨_, _, _, q⟩ := hs; exact q.elim

theorem fnG {x qual : Str} {st : Stmt} {f : Addr} {fd : FuncData} {N ps : List Str} {sp : Sp} (F : Fun K x qual st f fd) (S : FnScope N ps (defScope st)) (len : ∀ vs H Q E, sp vs H Q E → vs.length = ps.length)
    (body : ∀ (cdv : Value) (A : Around) (outer : List Env) (s : Shared) (H : Hp) (vs : List V) (Q : VK) (E : XK), A.guards = some [] → Room k (A.deeper (envOfC qual (defScope st) s.heap.objs.size f cdv)) → sp vs H Q E →
      ∃ t, PSs (cxOf CX P w K mg base N qual (defScope st) f cdv A outer s H E) (defBody st) t ∧ t { nx := fun _ H' => Q .non H', rt := Q } (start N vs) H) : FnG P w K mg base CX (k + 1) f fd ps sp :=
  ⟨len, fun A outer s H args us vs Q E g room e0 bt rv h => enter F S room e0 bt rv (len _ _ _ _ h) fun cdv => body cdv A outer s H vs Q E g (room.deeper _) h⟩
end
end KA

namespace KA
open PySem PySem.Spec PyProof.Rows L2
/-! ### the law's own call, made where nothing is being shown -/
section
variable {P : Program} {w : World} {K : PySem.W.Frag} {mg mb : Str → Option Value} {k : Nat} {fa a : Addr} {fd : FuncData} {x : Str} {sp : Sp} {s : Shared} {vs : List Value} {ns : List Int}
/-- from a heap H that tracks at most the script -/
theorem law_from {H : Hp} (kin : K.In s.heap) (ng : s.heap.Ns mainGlobals mg) (nb : s.heap.Ns builtinsNs mb) (hb : ∀ x : Str, x ≠ "__name__" → mb x = bootBuiltins x) (lim : s.heap.NoLimit) (gens : s.gens = #[])
    (obj : s.heap.get? a = some { cls := .type "list", data := .seq vs.toArray }) (room : Room k callerA) (F : ∀ base : Heap, K.In base → base.Ns mainGlobals mg → FnG P w K mg base CX0 k fa fd [x] sp)
    (bt : ∀ (s : Shared) (u : Value), BindsTo s fd ⟨[u], []⟩ [(x, u)]) (only : Only H) (hok : HOk P w H s.heap) (atA : ∀ b, H b ≠ none → b = a) (offK : H a ≠ none → K.lookup a = none)
    (h : sp [.ref a] H (fun v _ => v = .bl true) fun _ _ _ => False) :
    codeAny (model P w) callerA (.call (.ref fa) ⟨[.ref a], []⟩) (fun r s' => r = .ok (.ret (.bool true)) ∧ OldK s.heap s'.heap ∧ s'.os = s.os ∧ AllBare s'.gens) s := by
  have low : ∀ {b : Addr} {o : Obj}, s.heap.get? b = some o → H b = none → (hidT s.heap H).get? b = some o := fun e n => hidT_get e n
  have free : ∀ {b : Addr} {o : Obj}, s.heap.get? b = some o → (∀ n, o.data ≠ .seq vs.toArray n) → H b = none := by
    intro b o e d
    cases q : H b with
    | none => rfl
    | some u =>
      obtain rfl : b = a := atA b (by rw [q]; simp)
      rw [obj] at e
      cases e
      exact absurd rfl (d _)
  have nsL : ∀ {b : Addr} {m : Str → Option Value}, s.heap.Ns b m → (hidT s.heap H).Ns b m := by
    rintro b m ⟨o, es, ep, e, d, r⟩
    exact ⟨o, es, ep, low e (free e fun n z => by rw [d] at z; cases z), d, r⟩
  have kinL : K.In (hidT s.heap H) := by
    intro b o e
    refine low (kin b o e) ?_
    cases q : H b with
    | none => rfl
    | some u =>
      obtain rfl : b = a := atA b (by rw [q]; simp)
      rw [offK (by rw [q]; simp)] at e
      cases e
  have md : Mod K mg (hidT s.heap H) := ⟨kinL, nsL ng, ⟨mb, nsL nb, hb⟩, by obtain ⟨mc, h1, h2⟩ := lim; exact ⟨mc, nsL h1, h2⟩⟩
  have e0 : Env0 P w K mg (hidT s.heap H) callerA [] s H :=
    ⟨rfl, md, fun b o e => of_hidT e, Nat.le_of_eq (hidT_size _ _), trivial, fun b z => absurd (show b ∈ ([] : List Addr) from z) (by simp), hok, .of_eq gens⟩
  have G := (F _ kinL (nsL ng)).run callerA [] s H ⟨[.ref a], []⟩ [.ref a] [.ref a] _ _ rfl room e0 (bt s (.ref a)) (.cons rfl .nil) h
  refine codeAny_mono G fun r s' z => ?_
  cases r with
  | error e => exact absurd z id
  | ok fl =>
    cases fl with
    | next => exact absurd z id
    | brk => exact absurd z id
    | cont => exact absurd z id
    | ret u =>
      obtain ⟨v, H', os, bare, un, hok', rv, q⟩ := z
      obtain rfl : v = .bl true := q
      obtain rfl : u = Value.bool true := rv
      refine ⟨rfl, OldK.of_keep fun b o e => ?_, os, bare⟩
      cases q : H b with
      | none => exact un.keep b o e q (fun z => absurd (show b ∈ ([] : List Addr) from z) (by simp)) (by simp)
      | some u =>
        obtain z | ⟨ob, xs, z⟩ := only b
        · rw [q] at z; cases z
        · obtain ⟨e1, _⟩ := hok b _ z
          obtain ⟨e2, _⟩ := hok' b _ (un.frzs b ob _ z)
          rw [e] at e1
          cases e1
          exact e2
theorem law_run (kin : K.In s.heap) (ng : s.heap.Ns mainGlobals mg) (nb : s.heap.Ns builtinsNs mb) (hb : ∀ x : Str, x ≠ "__name__" → mb x = bootBuiltins x) (lim : s.heap.NoLimit) (gens : s.gens = #[])
    (obj : s.heap.get? a = some { cls := .type "list", data := .seq vs.toArray }) (its : IntsAre vs ns) (many : ns.length ≤ sizeLine) (room : Room k callerA)
    (F : ∀ base : Heap, K.In base → base.Ns mainGlobals mg → FnG P w K mg base CX0 k fa fd [x] sp) (bt : ∀ (s : Shared) (u : Value), BindsTo s fd ⟨[u], []⟩ [(x, u)])
    (h : ∀ H : Hp, Only H → SqL K H a (ns.map V.int) → sp [.ref a] H (fun v _ => v = .bl true) fun _ _ _ => False) :
    codeAny (model P w) callerA (.call (.ref fa) ⟨[.ref a], []⟩) (fun r s' => r = .ok (.ret (.bool true)) ∧ OldK s.heap s'.heap ∧ s'.os = s.os ∧ AllBare s'.gens) s := by
  have rv := vals_ints its
  have len := its.length
  by_cases hk : K.lookup a = none
  · refine law_from (H := fun b => if b = a then some (.frz { cls := .type "list", data := .seq vs.toArray } (.lst (ns.map V.int))) else none) kin ng nb hb lim gens obj room F bt ?_ ?_ ?_ (fun _ => hk) ?_
    · intro b
      by_cases z : b = a
      · exact Or.inr ⟨_, _, if_pos z⟩
      · exact Or.inl (if_neg z)
    · intro b u z
      by_cases q : b = a
      · subst q
        simp only [if_true] at z
        cases z
        exact ⟨obj, by rw [List.length_map]; exact many, vs, _, rv, obj⟩
      · simp only [if_neg q] at z
        cases z
    · intro b z
      by_cases q : b = a
      · exact q
      · exact absurd (if_neg q) z
    · refine h _ (fun b => ?_) (Or.inl (Or.inr ⟨_, if_pos rfl⟩))
      by_cases z : b = a
      · exact Or.inr ⟨_, _, if_pos z⟩
      · exact Or.inl (if_neg z)
  · obtain ⟨o, hk⟩ := Option.ne_none_iff_exists'.mp hk
    have e := kin a o hk
    rw [obj] at e
    cases e
    have no : ∀ b : Addr, (fun _ : Addr => (none : Option HO)) b = none := fun _ => rfl
    refine law_from (H := fun _ => none) kin ng nb hb lim gens obj room F bt (fun b => Or.inl rfl) (fun b u z => by cases z) (fun b z => absurd rfl z) (fun z => absurd rfl z) ?_
    exact h _ (fun b => Or.inl rfl) (Or.inr ⟨_, vs.toArray, _, hk, rfl, rfl, rfl, by rw [List.size_toArray, len]; exact many, by simpa using rv⟩)
end
/-- the end of a law whose def is promised where nothing is being shown -/
theorem walkG {l : PySem.W.OpenLaw} {n k : Nat} {q : Program} {loose : List Str} {XP : (Str → Option Value) → Heap → Prop} {YP : World → Heap → Prop} {d : DefRec} {K : Params → PySem.W.Frag} {sp : PySem.W.Frag → Sp} {x : Str}
    (hn : l.most = some n) (small : n ≤ sizeLine) (hdf : d.params.defaults = []) (room : Room k callerA) (hY : ∀ (w : World) (h : Heap), YP w h → (K w.params).In h)
    (F : ∀ (w : World) (mg : Str → Option Value) (fa : Addr) (h : Heap), (K w.params).In h → h.Ns mainGlobals mg → mg d.name = some (.ref fa) →
      ∃ fd : FuncData, (∀ (s : Shared) (u : Value), BindsTo s fd ⟨[u], []⟩ [(x, u)]) ∧ ∀ base : Heap, (K w.params).In base → base.Ns mainGlobals mg → FnG l.prog w (K w.params) mg base CX0 k fa fd [x] (sp (K w.params)))
    (h : ∀ (K : PySem.W.Frag) (H : Hp) (a : Addr) (ns : List Int), ns.length ≤ n → Only H → SqL K H a (ns.map V.int) → sp K [.ref a] H (fun v _ => v = .bl true) fun _ _ _ => False) :
    PySem.W.WalkO q loose XP YP l.row.toRowW d [] (fun f vs => PySem.call f vs) := by
  refine Att.attach_call hn hdf fun w s₀ s₁ mg mb fa o pm cd doc a vs ns G Y ho hd hcd hmg obj its len gens => ?_
  have kin := hY w _ Y
  obtain ⟨fd, bt, F1⟩ := F w mg fa _ kin G.T.g hmg
  exact law_run kin G.T.g G.T.b G.T.builtins G.T.nolimit gens obj its (Nat.le_trans len small) room F1 bt fun H only sq => h (K w.params) H a ns len only sq
end KA
set_option Elab.async false
set_option linter.unusedVariables false
set_option linter.unusedSectionVars false
set_option maxRecDepth 100000
set_option maxHeartbeats 1000000
/-! What data a value stands for, where all of it is tracked; repr of such. -/
namespace KA
open PySem PySem.Spec PyProof.Rows L2

mutual
inductive Dn (H : Hp) : V → PyData → Prop
  | non : Dn H .non .none
  | bl (b : Bool) : Dn H (.bl b) (.bool b)
  | int (i : Int) : Dn H (.int i) (.int i)
  | str (x : Str) : Dn H (.str x) (.str x)
  | lst {a : Addr} {xs : List V} {ds : List PyData} : H a = some (.lst xs) → DnAll H xs ds → Dn H (.ref a) (.list ds)
  | tup {a : Addr} {xs : List V} {ds : List PyData} : H a = some (.tup xs) → DnAll H xs ds → Dn H (.ref a) (.tuple ds)
  | dic {a : Addr} {kvs : List (Key × V)} {ds : List (PyData × PyData)} : H a = some (.dK kvs) → DnAll H (kvs.map fun p => kV p.1) (ds.map (·.1)) → DnAll H (kvs.map (·.2)) (ds.map (·.2)) → Dn H (.ref a) (.dict ds)
inductive DnAll (H : Hp) : List V → List PyData → Prop
  | nil : DnAll H [] []
  | cons {v : V} {vs : List V} {d : PyData} {ds : List PyData} : Dn H v d → DnAll H vs ds → DnAll H (v :: vs) (d :: ds)
end

section
variable {H H' : Hp}
mutual
theorem Dn.mono (e : Same H H') : ∀ {v : V} {d : PyData}, Dn H v d → Dn H' v d
  | _, _, .non => .non
  | _, _, .bl b => .bl b
  | _, _, .int i => .int i
  | _, _, .str x => .str x
  | _, _, .lst h r => .lst (e _ _ h) (DnAll.mono e r)
  | _, _, .tup h r => .tup (e _ _ h) (DnAll.mono e r)
  | _, _, .dic h r r' => .dic (e _ _ h) (DnAll.mono e r) (DnAll.mono e r')
theorem DnAll.mono (e : Same H H') : ∀ {vs : List V} {ds : List PyData}, DnAll H vs ds → DnAll H' vs ds
  | _, _, .nil => .nil
  | _, _, .cons h r => .cons (Dn.mono e h) (DnAll.mono e r)
end
theorem DnAll.length : ∀ {vs : List V} {ds : List PyData}, DnAll H vs ds → vs.length = ds.length
  | _, _, .nil => rfl
  | _, _, .cons _ r => congrArg (· + 1) (DnAll.length r)
theorem DnAll.get : ∀ {vs : List V} {ds : List PyData} {i : Nat} {d : PyData}, DnAll H vs ds → ds[i]? = some d → ∃ v, vs[i]? = some v ∧ Dn H v d
  | _, _, _, _, .nil, e => by cases e
  | _, _, 0, _, .cons h _, e => by
    cases e
    exact ⟨_, rfl, h⟩
  | _, _, i + 1, d, .cons _ r, e => DnAll.get (i := i) (d := d) r e
theorem DnAll.append : ∀ {vs ws : List V} {ds es : List PyData}, DnAll H vs ds → DnAll H ws es → DnAll H (vs ++ ws) (ds ++ es)
  | _, _, _, _, .nil, s => s
  | _, _, _, _, .cons h r, s => .cons h (DnAll.append r s)
theorem DnAll.take : ∀ {vs : List V} {ds : List PyData} (n : Nat), DnAll H vs ds → DnAll H (vs.take n) (ds.take n)
  | _, _, 0, _ => .nil
  | _, _, _ + 1, .nil => .nil
  | _, _, n + 1, .cons h r => .cons h (DnAll.take n r)
theorem DnAll.drop : ∀ {vs : List V} {ds : List PyData} (n : Nat), DnAll H vs ds → DnAll H (vs.drop n) (ds.drop n)
  | _, _, 0, r => r
  | _, _, _ + 1, .nil => .nil
  | _, _, n + 1, .cons _ r => DnAll.drop n r
theorem DnAll.dropLast : ∀ {vs : List V} {ds : List PyData}, DnAll H vs ds → DnAll H vs.dropLast ds.dropLast := by
  intro vs ds r
  rw [List.dropLast_eq_take, List.dropLast_eq_take, r.length]
  exact r.take _
theorem DnAll.snoc {vs : List V} {ds : List PyData} {v : V} {d : PyData} (r : DnAll H vs ds) (h : Dn H v d) : DnAll H (vs ++ [v]) (ds ++ [d]) := r.append (.cons h .nil)
theorem DnAll.one {v : V} {d : PyData} (h : Dn H v d) : DnAll H [v] [d] := .cons h .nil
/-- a list whose items are data each -/
theorem DnAll.bools : ∀ bs : List Bool, DnAll H (bs.map V.bl) (bs.map PyData.bool)
  | [] => .nil
  | b :: bs => .cons (.bl b) (DnAll.bools bs)
end

section
variable {P : Program} {w : World} {H : Hp} {h : Heap}
theorem keys_read : ∀ {kvs : List (Key × V)} {vs : List (Key × Value)} {es : List DictEntry} {ds : List PyData}, KV kvs vs → PySem.Pairs (mixKind P w) es vs → DnAll H (kvs.map fun p => kV p.1) ds → Vals (kvs.map fun p => kV p.1) (es.map (·.key))
  | _, _, _, _, .nil, .nil, _ => .nil
  | _, _, _, _, .cons r t, .cons k _ t', .cons _ t'' => by
    refine .cons ?_ (keys_read t t' t'')
    have k' := k
    rw [mixKind_is, ← r.1] at k'
    obtain ⟨i, u, e1, e2⟩ | ⟨x, u, e1, e2⟩ := keyIs_shape k'
    · dsimp only
      rw [e1, e2]
      exact ⟨u, rfl⟩
    · dsimp only
      rw [e1, e2]
      exact ⟨u, rfl⟩
theorem vals_read : ∀ {kvs : List (Key × V)} {vs : List (Key × Value)} {es : List DictEntry}, KV kvs vs → PySem.Pairs (mixKind P w) es vs → Vals (kvs.map (·.2)) (es.map (·.val))
  | _, _, _, .nil, .nil => .nil
  | _, _, _, .cons r t, .cons _ e t' => by
    refine .cons ?_ (vals_read t t')
    dsimp only
    rw [e]
    exact r.2

mutual
/-- the heap reads so -/
theorem Dn.reads (ok : HOk P w H h) : ∀ {v : V} {d : PyData} {u : Value}, Dn H v d → RelV v u → ∃ as, Reads h u d as
  | _, _, _, .non, r => by
    cases r
    exact ⟨_, .none⟩
  | _, _, _, .bl b, r => by
    cases r
    exact ⟨_, .bool b⟩
  | _, _, _, .int i, r => by
    obtain ⟨t, rfl⟩ := r
    exact ⟨_, .int i t⟩
  | _, _, _, .str x, r => by
    obtain ⟨t, rfl⟩ := r
    exact ⟨_, .str x t⟩
  | _, _, _, .lst e q, r => by
    cases r
    obtain ⟨_, its, n, rv, ho⟩ := ok _ _ e
    obtain ⟨as, hr⟩ := DnAll.reads ok q rv
    exact ⟨_, .list ho rfl rfl hr⟩
  | _, _, _, .tup e q, r => by
    cases r
    obtain ⟨_, its, rv, o, ho, hc, n, hd⟩ := ok _ _ e
    obtain ⟨as, hr⟩ := DnAll.reads ok q rv
    exact ⟨_, .tuple ho hc hd hr⟩
  | _, _, _, .dic e q q', r => by
    cases r
    obtain ⟨_, _, vs, kv, o, es, ep, ho, hx, hd, _, hp, _⟩ := ok _ _ e
    obtain ⟨as, hr⟩ := DnAll.reads ok q (keys_read kv hp q)
    obtain ⟨bs, hr'⟩ := DnAll.reads ok q' (vals_read kv hp)
    exact ⟨_, .dict ho hx.1 hd hr hr'⟩
theorem DnAll.reads (ok : HOk P w H h) : ∀ {vs : List V} {ds : List PyData} {us : List Value}, DnAll H vs ds → Vals vs us → ∃ as, ReadsAll h us ds as
  | _, _, _, .nil, r => by
    cases r
    exact ⟨_, .nil⟩
  | _, _, _, .cons q t, .cons r r' => by
    obtain ⟨as, h1⟩ := Dn.reads ok q r
    obtain ⟨bs, h2⟩ := DnAll.reads ok t r'
    exact ⟨_, .cons h1 h2⟩
end

mutual
/-- how it is shown, piece by piece -/
theorem Dn.repr (ok : HOk P w H h) : ∀ {v : V} {d : PyData} {u : Value}, Dn H v d → RelV v u → d.showable = true → d.shown.length ≤ sizeLine → ∃ bs, ReadAtMost h d.depth bs ∧ ReprK P w bs h d.depth u d.shown
  | _, _, _, .non, r, _, _ => by
    cases r
    exact ReprK.of_reads (prog := P) (w := w) (Reads.none (h := h)) rfl (fun z => by cases z) (by decide +kernel)
  | _, _, _, .bl b, r, _, z => by
    cases r
    exact ReprK.of_reads (Reads.bool b) rfl (fun z => by cases z) z
  | _, _, _, .int i, r, s, z => by
    obtain ⟨t, rfl⟩ := r
    exact ReprK.of_reads (Reads.int i t) s (fun z => by cases z) z
  | _, _, _, .str x, r, s, z => by
    obtain ⟨t, rfl⟩ := r
    exact ReprK.of_reads (Reads.str x t) s (fun z => by cases z) z
  | _, _, _, .lst (a := a) (ds := ds) e q, r, s, z => by
    obtain ⟨as, hr⟩ := Dn.reads ok (.lst e q) r
    cases r
    obtain ⟨_, its, n, rv, ho⟩ := ok _ _ e
    have z' : (listText (PyData.shownAll ds)).length ≤ sizeLine := by simpa only [PyData.shown] using z
    obtain ⟨bs, hb, hk⟩ := DnAll.repr ok q rv (by simpa [PyData.showable] using s) (fun t m => Nat.le_trans (listText_mem_le m) z')
    have off : a ∉ bs := not_mem_of_deeper hr (by simp only [PyData.depth]; omega) hb
    refine ⟨a :: bs, ReadAtMost.cons hr (by simp only [PyData.depth]; omega) hb, ?_⟩
    simp only [PyData.depth, PyData.shown]
    cases its with
    | nil =>
      cases rv
      cases q
      simp only [PyData.shownAll, listText_nil]
      exact ReprK.listEmpty ho rfl rfl
    | cons x l => exact ReprK.list ho rfl rfl off (by simpa using hk.length_eq) (fun i y e => hk.item i y (by simpa using e))
  | _, _, _, .tup (a := a) (ds := ds) e q, r, s, z => by
    obtain ⟨as, hr⟩ := Dn.reads ok (.tup e q) r
    cases r
    obtain ⟨_, its, rv, o, ho, hc, n, hd⟩ := ok _ _ e
    have z' : (tupleText (PyData.shownAll ds)).length ≤ sizeLine := by simpa only [PyData.shown] using z
    obtain ⟨bs, hb, hk⟩ := DnAll.repr ok q rv (by simpa [PyData.showable] using s) (fun t m => Nat.le_trans (tupleText_mem_le m) z')
    have off : a ∉ bs := not_mem_of_deeper hr (by simp only [PyData.depth]; omega) hb
    refine ⟨a :: bs, ReadAtMost.cons hr (by simp only [PyData.depth]; omega) hb, ?_⟩
    simp only [PyData.depth, PyData.shown]
    exact ReprK.tuple ho hc hd off hk
  | _, _, _, .dic (a := a) (ds := ds) e q q', r, s, z => by
    obtain ⟨as, hr⟩ := Dn.reads ok (.dic e q q') r
    cases r
    obtain ⟨_, sys, vs, kv, o, es, ep, ho, hx, hd, _, hp, _⟩ := ok _ _ e
    have z' : (dictText (PyData.shownKv ds)).length ≤ sizeLine := by simpa only [PyData.shown] using z
    obtain ⟨s1, s2⟩ := PyData.showableKv_split ds (by simpa [PyData.showable] using s)
    obtain ⟨b1, hb1, k1⟩ := DnAll.repr ok q (keys_read kv hp q) s1 (fun t m => let ⟨p, hp, hl⟩ := PyData.shownKv_key_le ds t m; Nat.le_trans hl (Nat.le_trans (dictText_mem_le hp) z'))
    obtain ⟨b2, hb2, k2⟩ := DnAll.repr ok q' (vals_read kv hp) s2 (fun t m => let ⟨p, hp, hl⟩ := PyData.shownKv_val_le ds t m; Nat.le_trans hl (Nat.le_trans (dictText_mem_le hp) z'))
    have hb : ReadAtMost h (PyData.depthKv ds) (b1 ++ b2) := (hb1.mono (PyData.depthAll_keys_le ds)).append (hb2.mono (PyData.depthAll_vals_le ds))
    have off : a ∉ b1 ++ b2 := not_mem_of_deeper hr (by simp only [PyData.depth]; omega) hb
    refine ⟨a :: (b1 ++ b2), ReadAtMost.cons hr (by simp only [PyData.depth]; omega) hb, ?_⟩
    simp only [PyData.depth, PyData.shown, PyData.shownKv_eq]
    exact ReprK.dict ho hx.1 hd sys off (ReprEntriesK.of_two es.toList _ _ (k1.more_le (fun b m => List.mem_append_left _ m) (PyData.depthAll_keys_le ds)) (k2.more_le (fun b m => List.mem_append_right _ m) (PyData.depthAll_vals_le ds)))
theorem DnAll.repr (ok : HOk P w H h) : ∀ {vs : List V} {ds : List PyData} {us : List Value}, DnAll H vs ds → Vals vs us → PyData.showableAll ds = true → (∀ t ∈ PyData.shownAll ds, t.length ≤ sizeLine) →
    ∃ bs, ReadAtMost h (PyData.depthAll ds) bs ∧ ReprAllK P w bs h (PyData.depthAll ds) us (PyData.shownAll ds)
  | _, _, _, .nil, r, _, _ => by
    cases r
    exact ReprAllK.of_readsAll (prog := P) (w := w) (ReadsAll.nil (h := h)) rfl (fun z => by cases z) (fun t m => by simp [PyData.shownAll] at m)
  | _, _, _, .cons (d := d) (ds := ds) q t, .cons r r', s, z => by
    have s' : d.showable = true ∧ PyData.showableAll ds = true := by simpa [PyData.showableAll] using s
    obtain ⟨b1, hb1, k1⟩ := Dn.repr ok q r s'.1 (z _ (by simp only [PyData.shownAll]; exact List.mem_cons_self ..))
    obtain ⟨b2, hb2, k2⟩ := DnAll.repr ok t r' s'.2 (fun t m => z t (by simp only [PyData.shownAll]; exact List.mem_cons_of_mem _ m))
    refine ⟨b1 ++ b2, ?_, ?_⟩
    · simp only [PyData.depthAll]
      exact (hb1.mono (Nat.le_max_left _ _)).append (hb2.mono (Nat.le_max_right _ _))
    · simp only [PyData.depthAll, PyData.shownAll]
      exact .cons ((k1.more fun b m => List.mem_append_left _ m).level_le (Nat.le_max_left _ _)) (k2.more_le (fun b m => List.mem_append_right _ m) (Nat.le_max_right _ _))
end
end
end KA
set_option Elab.async false
set_option linter.unusedVariables false
set_option linter.unusedSectionVars false
set_option maxRecDepth 100000
set_option maxHeartbeats 1000000
/-! Rules of one's own: repr of data, a list grown by a tuple, == with what is empty. -/
namespace KA
open PySem PySem.Spec PyProof.Rows L2

section
variable {X : Cx}
/-- repr of data, where nothing is being shown -/
def rRepr : List V → Hp → VK → Prop := fun xs H Q => ∃ v d, xs = [v] ∧ Dn H v d ∧ d.showable = true ∧ d.shown.length ≤ sizeLine ∧ d.depth ≤ 100 ∧ Q (.str d.shown) H
theorem call_repr (hg : X.A.guards = some []) (hu : X.A.units + 200 < cLine) : CallR X (.builtin "repr") rRepr := by
  intro pins s σ H xs us Q I r h
  obtain ⟨v, d, rfl, hd, sh, sz, dp, q⟩ := h
  obtain ⟨u, rfl, ru⟩ := vals1 r
  have fin : ∀ h' tk, (∀ b o, s.heap.get? b = some o → h'.get? b = some o) → ∀ t, EP X pins σ Q (.str d.shown t) { s with heap := h', toks := tk } :=
    fun h' tk k t => ⟨.str d.shown, H, I.kept k, ⟨t, rfl⟩, q⟩
  cases hd with
  | non =>
    cases ru
    exact P.repr_of_none (fin s.heap _ (fun _ _ e => e) _)
  | bl b =>
    cases ru
    refine P.repr_of_bool ?_
    have z := fin s.heap (s.toks + 1) (fun _ _ e => e) s.toks
    rw [PyData.shown_bool] at z
    cases b <;> exact z
  | int i =>
    obtain ⟨t, rfl⟩ := ru
    exact P.repr_of_int (by simpa [PyData.showable] using sh) (fin s.heap _ (fun _ _ e => e) _)
  | str x =>
    obtain ⟨t, rfl⟩ := ru
    exact P.repr_of_str (fin s.heap _ (fun _ _ e => e) _) (by simpa only [PyData.shown] using sz)
  | @lst a xs ds e c =>
    obtain ⟨as, hr⟩ := Dn.reads I.hok (.lst e c) ru
    cases ru
    obtain ⟨_, its, n, rv, ho⟩ := I.hok _ _ e
    have z' : (listText (PyData.shownAll ds)).length ≤ sizeLine := by simpa only [PyData.shown] using sz
    obtain ⟨bs, hb, hk⟩ := DnAll.repr I.hok c rv (by simpa [PyData.showable] using sh) (fun t m => Nat.le_trans (listText_mem_le m) z')
    have off : a ∉ bs := not_mem_of_deeper hr (by simp only [PyData.depth]; omega) hb
    have dep : PyData.depthAll ds + 1 ≤ 100 := by simpa only [PyData.depth] using dp
    refine call_repr_slot (idr := "list.__repr__") (by omega) ⟨_, ho, rfl⟩ F.slot_list_repr.toG ?_
    simp only [PyData.shown] at fin
    cases its with
    | nil =>
      cases rv
      cases c
      simp only [PyData.shownAll, listText_nil] at fin
      exact call_list_repr_empty ⟨_, ho, rfl⟩ ho rfl ⟨_, _, rfl, fin s.heap _ (fun _ _ e => e) _⟩
    | cons y l =>
      exact call_list_reprK ho rfl rfl off (by simpa using hk.length_eq) (fun i y e => hk.item i y (by simpa using e)) (by exact hg) (fun b _ => Clear.nil b) (by show X.A.units + 1 + _ < cLine; omega) (fun _ _ e => e)
        (fun h' u tk k => ⟨_, _, rfl, fin h' tk k u⟩) z'
  | @tup a xs ds e c =>
    obtain ⟨as, hr⟩ := Dn.reads I.hok (.tup e c) ru
    cases ru
    obtain ⟨_, its, rv, o, ho, hc, n, hd⟩ := I.hok _ _ e
    have z' : (tupleText (PyData.shownAll ds)).length ≤ sizeLine := by simpa only [PyData.shown] using sz
    obtain ⟨bs, hb, hk⟩ := DnAll.repr I.hok c rv (by simpa [PyData.showable] using sh) (fun t m => Nat.le_trans (tupleText_mem_le m) z')
    have off : a ∉ bs := not_mem_of_deeper hr (by simp only [PyData.depth]; omega) hb
    have dep : PyData.depthAll ds + 1 ≤ 100 := by simpa only [PyData.depth] using dp
    refine call_repr_slot (idr := "tuple.__repr__") (by omega) ⟨o, ho, hc⟩ F.slot_tuple_repr ?_
    simp only [PyData.shown] at fin
    exact call_tuple_reprK ho hc hd off hk (by exact hg) (fun b _ => Clear.nil b) (by show X.A.units + 1 + _ < cLine; omega) (fun _ _ e => e) (fun h' u tk k => ⟨_, _, rfl, fin h' tk k u⟩) z'
  | @dic a kvs ds e c c' =>
    obtain ⟨as, hr⟩ := Dn.reads I.hok (.dic e c c') ru
    cases ru
    obtain ⟨_, sys, vs, kv, o, es, ep, ho, hx, hd, _, hp, _⟩ := I.hok _ _ e
    have z' : (dictText (PyData.shownKv ds)).length ≤ sizeLine := by simpa only [PyData.shown] using sz
    obtain ⟨s1, s2⟩ := PyData.showableKv_split ds (by simpa [PyData.showable] using sh)
    obtain ⟨b1, hb1, k1⟩ := DnAll.repr I.hok c (keys_read kv hp c) s1 (fun t m => let ⟨p, hp, hl⟩ := PyData.shownKv_key_le ds t m; Nat.le_trans hl (Nat.le_trans (dictText_mem_le hp) z'))
    obtain ⟨b2, hb2, k2⟩ := DnAll.repr I.hok c' (vals_read kv hp) s2 (fun t m => let ⟨p, hp, hl⟩ := PyData.shownKv_val_le ds t m; Nat.le_trans hl (Nat.le_trans (dictText_mem_le hp) z'))
    have hb : ReadAtMost s.heap (PyData.depthKv ds) (b1 ++ b2) := (hb1.mono (PyData.depthAll_keys_le ds)).append (hb2.mono (PyData.depthAll_vals_le ds))
    have off : a ∉ b1 ++ b2 := not_mem_of_deeper hr (by simp only [PyData.depth]; omega) hb
    have dep : PyData.depthKv ds + 1 ≤ 100 := by simpa only [PyData.depth] using dp
    refine call_repr_slot (idr := "dict.__repr__") (by omega) ⟨o, ho, hx.1⟩ F.slot_dict_repr ?_
    simp only [PyData.shown, PyData.shownKv_eq] at fin
    exact call_dict_reprK ho hx.1 hd sys off (ReprEntriesK.of_two es.toList _ _ (k1.more_le (fun b m => List.mem_append_left _ m) (PyData.depthAll_keys_le ds)) (k2.more_le (fun b m => List.mem_append_right _ m) (PyData.depthAll_vals_le ds)))
      (by exact hg) (fun b _ => Clear.nil b) (by show X.A.units + 1 + _ < cLine; omega) (fun _ _ e => e) (fun h' u tk k => ⟨_, _, rfl, fin h' tk k u⟩) (by rw [← PyData.shownKv_eq]; exact z')
theorem grow_meets (l : Addr) (us : Array Value) (n : Nat) (b : Addr) (ws : Array Value) (n2 : Nat) (dd : Option Addr) (sl : Array (Option Value)) (short : ¬(!us.isEmpty && Builtin.List.listTooLong (us.size + ws.size)) = true)
    (z1 : us.size ≤ sizeLine) (z2 : us.size + ws.size ≤ sizeLine + 1) : Meets (Builtin.«list.extend» ⟨[.ref l, .ref b], []⟩) (fun _ R s =>
      s.heap.get? l = some { cls := .type "list", dict := none, data := .seq us n, slots := #[] } ∧ s.heap.get? b = some { cls := .type "tuple", dict := dd, data := .seq ws n2, slots := sl } ∧
        R (.ok (.ret Value.none)) { s with heap := s.heap.update l (Obj.mapSeq fun x => x ++ ws), toks := s.toks }) :=
  .of_wp fun prog w A R s h => by
    obtain ⟨hp, g, d, tk, os⟩ := s
    obtain ⟨hl, hb, h⟩ := h
    have f1 := PySem.AutoSeq1.idx_int
    have f2 := PySem.AutoSeq1.sub_tuple_tuple
    have f3 := PySem.AutoSeq1.sub_list_list
    have f4 := PySem.AutoSeq1.sub_tuple_list
    have f5 := PySem.AutoSeq1.sub_list_tuple
    have z3 : (us ++ ws).size ≤ sizeLine + 1 := by rw [Array.size_append]; exact z2
    wp_walk using (wpAny_updateSeq hl rfl (hz := z1) (_hz' := z3)), PySem.AutoSeq1.wpAny_loadPart' hl, PySem.AutoSeq1.wpAny_loadPart' hb
    exact ⟨_, rfl, h⟩
/-- xs.extend(t), t a tuple that H tracks -/
def rGrow : V → List V → Hp → VK → Prop := fun x vs H Q => ∃ l b xs zs, x = .ref l ∧ vs = [.ref b] ∧ H l = some (.lst xs) ∧ H b = some (.tup zs) ∧ xs.length + zs.length ≤ sizeLine ∧ Q .non (upd H l (.lst (xs ++ zs)))
theorem mt_grow : MtM X "list.extend" rGrow := by
  intro pins s σ H x vs v us Q I rx rv h
  obtain ⟨l, b, xs, zs, rfl, rfl, hl, hb, sz, q⟩ := h
  cases rx
  obtain ⟨u, rfl, ru⟩ := rv.one
  cases ru
  obtain ⟨z, its, n, r, ll, e⟩ := I.lstM hl
  obtain ⟨_, its2, r2, ⟨cls, dd, data, sl⟩, e2, hc, n2, hd⟩ := I.hok _ _ hb
  simp only at hc hd
  subst hc hd
  have l1 := r.length
  have l2 := r2.length
  have many : its.toArray.size + its2.toArray.size ≤ sizeLine := by rw [List.size_toArray, List.size_toArray]; omega
  have long : ¬ (!its.toArray.isEmpty && Builtin.List.listTooLong (its.toArray.size + its2.toArray.size)) = true := by
    rw [notLongL many, Bool.and_false]
    exact Bool.false_ne_true
  refine call_meets F.slot_list_extend ⟨_, e, rfl⟩ F.entry_list_extend (F.args_list_extend_2 _ _) (grow_meets l its.toArray n b its2.toArray n2 dd sl long (by rw [List.size_toArray]; omega) (by omega)) ⟨e, e2, ?_⟩
  exact ⟨.non, _, I.lset (its' := its ++ its2) hl e (by simp) (r.append r2) (by rw [List.length_append]; omega), rfl, q⟩
end
end KA
namespace KA
open PySem PySem.Spec PyProof.Rows L2
section
variable {X : Cx}
/-- t == (), xs == []: only whether it is empty counts -/
def rEqE : R2 := fun x y H Q => ∃ a b xs, x = .ref a ∧ y = .ref b ∧ ((H a = some (.tup xs) ∧ H b = some (.tup [])) ∨ (H a = some (.lst xs) ∧ H b = some (.lst []))) ∧ Q (.bl xs.isEmpty) H
theorem op_eqE (hu : X.A.units + 1 < cLine) : OpR X (compareOp .Eq) rEqE := by
  intro pins s σ H x y v u Q I rx ry h
  obtain ⟨a, b, xs, rfl, rfl, h, q⟩ := h
  cases rx
  cases ry
  have fin : EP X pins σ Q (.bool xs.isEmpty) s := ⟨.bl xs.isEmpty, H, I, rfl, q⟩
  rcases h with ⟨ha, hb⟩ | ⟨ha, hb⟩
  · obtain ⟨_, its, r, o, ho, hc, hd⟩ := I.hok _ _ ha
    obtain ⟨_, its2, r2, o2, ho2, hc2, hd2⟩ := I.hok _ _ hb
    cases r2
    refine SeqAt.eq_tupleAt (e := fun _ => true) ⟨o, ho, hc, hd⟩ ⟨o2, ho2, hc2, hd2⟩ (by omega) (fun j h1 h2 => absurd h2 (by simp)) ?_
    cases r <;> simpa using fin
  · obtain ⟨_, its, n, r, ho⟩ := I.hok _ _ ha
    obtain ⟨_, its2, n2, r2, ho2⟩ := I.hok _ _ hb
    cases r2
    cases r with
    | nil => exact SeqAt.eq_listAt (e := fun _ => true) ⟨_, ho, rfl, _, rfl⟩ ⟨_, ho2, rfl, _, rfl⟩ rfl (by omega) (fun j h1 h2 => absurd h2 (by simp)) (by simpa using fin)
    | cons r t => exact SeqAt.eq_list_lengthsAt ⟨_, ho, rfl, _, rfl⟩ ⟨_, ho2, rfl, _, rfl⟩ (by simp) (by omega) (by simpa using fin)
def rNeE : R2 := fun x y H Q => ∃ a b xs, x = .ref a ∧ y = .ref b ∧ H a = some (.tup xs) ∧ H b = some (.tup []) ∧ Q (.bl (!xs.isEmpty)) H
theorem op_neE (hu : X.A.units + 1 < cLine) : OpR X (compareOp .NotEq) rNeE := by
  intro pins s σ H x y v u Q I rx ry h
  obtain ⟨a, b, xs, rfl, rfl, ha, hb, q⟩ := h
  cases rx
  cases ry
  have fin : EP X pins σ Q (.bool (!xs.isEmpty)) s := ⟨.bl (!xs.isEmpty), H, I, rfl, q⟩
  obtain ⟨_, its, r, o, ho, hc, hd⟩ := I.hok _ _ ha
  obtain ⟨_, its2, r2, o2, ho2, hc2, hd2⟩ := I.hok _ _ hb
  cases r2
  refine SeqAt.RcNeAt.tuples (e := fun _ => true) ⟨o, ho, hc, hd⟩ ⟨o2, ho2, hc2, hd2⟩ (by omega) (fun j h1 h2 => absurd h2 (by simp)) _ _ _ _ ?_
  cases r <;> simpa using fin
end
end KA
set_option Elab.async false
set_option linter.unusedVariables false
set_option linter.unusedSectionVars false
set_option maxRecDepth 100000
set_option maxHeartbeats 1000000
/-! A walk over zip of a text (of plain signs) and a tuple as long. -/
namespace KZ
open PySem
section
variable {prog : Program} {w : World} {A : Around} {E : Value → Shared → Prop} {s : Shared}
abbrev Sg : String := "str_ascii_iterator"
theorem next_item {z ti to i1 i2 l2 : Addr} {k1 k2 c : Nat} {x : Str} {t : Tok} {ys : Array Value} {y a b : Value} {Q : Value → Shared → Prop} (nz : ti ≠ z ∧ to ≠ z ∧ i1 ≠ z ∧ i2 ≠ z) (nt : to ≠ i1 ∧ to ≠ i2 ∧ i1 ≠ i2) (nl : l2 ≠ z ∧ l2 ≠ to ∧ l2 ≠ i1)
    (gz : IsZip s.heap z ti to .none) (gi : IsPair s.heap ti (.ref i1) (.ref i2)) (go : IsPair s.heap to a b) (g1 : s.heap.IsStrIter i1 Sg x t k1) (g2 : s.heap.IsTupleIter i2 l2 k2) (gl : s.heap.IsTuple l2 ys)
    (hc : x.cps[k1]? = some c) (hy : ys[k2]? = some y)
    (hQ : ∀ h' tk u, IsZip h' z ti to (rawInt s.heap.objs.size) → IsPair h' to (.str ⟨#[c]⟩ u) y → h'.IsStrIter i1 Sg x t (k1 + 1) → h'.IsTupleIter i2 l2 (k2 + 1) → IsPair h' s.heap.objs.size (.str ⟨#[c]⟩ u) y → h'.objs.size = s.heap.objs.size + 1 →
      (∀ c o, c ≠ z → c ≠ to → c ≠ i1 → c ≠ i2 → s.heap.get? c = some o → h'.get? c = some o) → Q (.ref s.heap.objs.size) { s with heap := h', toks := tk }) :
    wpAny (model prog w) A (Builtin.«zip.__next__» ⟨[.ref z], []⟩) (fun fin s' => ∃ v, fin = .done (.ret v) ∧ Q v s') E s := by
  obtain ⟨n1, n2, n3, n4⟩ := nz
  obtain ⟨n5, n6, n7⟩ := nt
  obtain ⟨n8, n9, n10⟩ := nl
  show wpAny _ _ (field (.ref z) 2 >>= _) _ _ _
  refine wpAny_bind (wpAny_field gz rfl (x := .bool false) rfl ?_)
  show wpAny _ _ (field (.ref z) 3 >>= _) _ _ _
  refine wpAny_bind (wpAny_field gz rfl (x := .ref ti) rfl ?_)
  refine wpAny_bind (wpAny_seqItems gi rfl ?_)
  show wpAny _ _ (Builtin.SmallTypes.ownedTupleIsFree (.ref z) >>= _) _ _ _
  refine wpAny_bind ?_
  unfold Builtin.SmallTypes.ownedTupleIsFree
  refine wpAny_bind (wpAny_field gz rfl (x := .none) rfl (wpAny_pure ?_))
  simp only [if_true]
  refine wpAny_bind (wpAny_rule ?_)
  refine wpAny_bind (wpAny_field gz rfl (x := .ref to) rfl ?_)
  refine wpAny_bind (wpAny_setField_rec gz (by simp) fun ha za sa => ?_)
  replace za : IsZip ha z ti to .ellipsis := za
  refine wpAny_bind ?_
  simp only [List.zipIdx_cons, List.zipIdx_nil, List.forIn_cons, List.forIn_nil]
  refine wpAny_bind (wpAny_bind (wpAny_onRaise ?_))
  show wpAny _ _ (Builtin.SmallTypes.nextOf (.ref i1) >>= _) _ _ _
  refine wpAny_bind (wpAny_nextOf_ascii_item (g1.extBut sa.extBut n3) hc fun hb b1 sb => wpAny_pure ?_)
  have ob : IsPair hb to a b := sb.extBut _ _ n5 (sa.extBut _ _ n2 go)
  refine wpAny_bind (wpAny_seqItems ob rfl ?_)
  refine wpAny_bind (wpAny_updateSeq_pair ob fun hd od sd => ?_)
  replace od : IsPair hd to (.str ⟨#[c]⟩ s.toks) b := od
  refine wpAny_bind (wpAny_letGo (wpAny_pure ?_))
  refine wpAny_bind (wpAny_bind (wpAny_onRaise ?_))
  show wpAny _ _ (Builtin.SmallTypes.nextOf (.ref i2) >>= _) _ _ _
  refine wpAny_bind (RZ.nextOf_tuple_item (((g2.extBut sa.extBut n4).extBut sb.extBut n7.symm).extBut sd.extBut n6.symm) (((gl.extBut sa.extBut n8).extBut sb.extBut n10).extBut sd.extBut n9) hy fun he b2 se => wpAny_pure ?_)
  have oe : IsPair he to (.str ⟨#[c]⟩ s.toks) b := se.extBut _ _ n6 od
  refine wpAny_bind (wpAny_seqItems oe rfl ?_)
  refine wpAny_bind (wpAny_updateSeq_pair oe fun hf of sf => ?_)
  replace of : IsPair hf to (.str ⟨#[c]⟩ s.toks) y := of
  refine wpAny_bind (wpAny_letGo (wpAny_pure (wpAny_pure ?_)))
  refine wpAny_bind (wpAny_seqItems of rfl ?_)
  refine wpAny_bind (wpAny_newTuple ?_)
  have sz : hf.objs.size = s.heap.objs.size := by rw [sf.1, se.1, sd.1, sb.1, sa.1]
  have zf : IsZip hf z ti to .ellipsis := sf.extBut _ _ n2.symm (se.extBut _ _ n4.symm (sd.extBut _ _ n2.symm (sb.extBut _ _ n3.symm za)))
  have kf : ∀ c o, c ≠ z → c ≠ to → c ≠ i1 → c ≠ i2 → s.heap.get? c = some o → hf.get? c = some o := fun c o c1 c2 c3 c4 e =>
    sf.extBut _ _ c2 (se.extBut _ _ c4 (sd.extBut _ _ c2 (sb.extBut _ _ c3 (sa.extBut _ _ c1 e))))
  have f1 : hf.IsStrIter i1 Sg x t (k1 + 1) := ((b1.extBut sd.extBut n5.symm).extBut se.extBut n7).extBut sf.extBut n5.symm
  have f2 : hf.IsTupleIter i2 l2 (k2 + 1) := b2.extBut sf.extBut n6.symm
  have zlt : z < hf.objs.size := Heap.lt_size zf
  show wpAny _ _ (Builtin.SmallTypes.ownedTupleHandOut (.ref z) (.ref hf.objs.size) >>= _) _ _ _
  refine wpAny_bind ?_
  unfold Builtin.SmallTypes.ownedTupleHandOut
  have zg : IsZip (hf.push { cls := .type "tuple", data := .seq #[.str ⟨#[c]⟩ s.toks, y] }) z ti to .ellipsis := Heap.get?_push_of_some _ zf
  refine wpAny_bind (wpAny_setField_rec zg (by simp) fun hg zh sh => ?_)
  replace zh : IsZip hg z ti to (rawInt hf.objs.size) := zh
  refine wpAny_setField_rec zh (by simp) fun hi zi si => ?_
  replace zi : IsZip hi z ti to (rawInt hf.objs.size) := zi
  have up : ∀ c o, c ≠ z → hf.get? c = some o → hi.get? c = some o := fun c o c1 e => si.extBut _ _ c1 (sh.extBut _ _ c1 (Heap.get?_push_of_some _ e))
  have pi : IsPair hi hf.objs.size (.str ⟨#[c]⟩ s.toks) y := si.extBut _ _ (Nat.ne_of_gt zlt) (sh.extBut _ _ (Nat.ne_of_gt zlt) (Heap.get?_push_size _ rfl))
  have ei : hi.objs.size = hf.objs.size + 1 := by rw [si.1, sh.1, Heap.size_push]
  rw [sz] at zi pi ei
  refine wpAny_pure ⟨_, rfl, ?_⟩
  show Q (.ref hf.objs.size) _
  rw [sz]
  obtain ⟨o1, p1, q1⟩ := f1
  exact hQ hi _ _ zi (up _ _ n2 of) ⟨o1, up _ _ n3 p1, q1⟩ (f2.at fun o e => up _ o n4 e) pi ei fun c o c1 c2 c3 c4 e => up c o c1 (kf c o c1 c2 c3 c4 e)
theorem next_end {z ti to i1 i2 : Addr} {k1 : Nat} {x : Str} {t : Tok} {a b : Value} {Q : Fin → Shared → Prop} (hh : A.handled = none) (n3 : i1 ≠ z)
    (gz : IsZip s.heap z ti to .none) (gi : IsPair s.heap ti (.ref i1) (.ref i2)) (go : IsPair s.heap to a b) (g1 : s.heap.IsStrIter i1 Sg x t k1) (hc : x.cps[k1]? = none)
    (hE : ∀ h' e, (∀ c o, c ≠ z → c ≠ to → c ≠ i1 → c ≠ i2 → s.heap.get? c = some o → h'.get? c = some o) → (∃ o, h'.get? e = some o ∧ o.cls = .type "StopIteration") → E (.ref e) { s with heap := h' }) :
    wpAny (model prog w) A (Builtin.«zip.__next__» ⟨[.ref z], []⟩) Q E s := by
  show wpAny _ _ (field (.ref z) 2 >>= _) _ _ _
  refine wpAny_bind (wpAny_field gz rfl (x := .bool false) rfl ?_)
  show wpAny _ _ (field (.ref z) 3 >>= _) _ _ _
  refine wpAny_bind (wpAny_field gz rfl (x := .ref ti) rfl ?_)
  refine wpAny_bind (wpAny_seqItems gi rfl ?_)
  show wpAny _ _ (Builtin.SmallTypes.ownedTupleIsFree (.ref z) >>= _) _ _ _
  refine wpAny_bind ?_
  unfold Builtin.SmallTypes.ownedTupleIsFree
  refine wpAny_bind (wpAny_field gz rfl (x := .none) rfl (wpAny_pure ?_))
  simp only [if_true]
  refine wpAny_bind (wpAny_rule ?_)
  refine wpAny_bind (wpAny_field gz rfl (x := .ref to) rfl ?_)
  refine wpAny_bind (wpAny_setField_rec gz (by simp) fun ha za sa => ?_)
  replace za : IsZip ha z ti to .ellipsis := za
  refine wpAny_bind ?_
  simp only [List.zipIdx_cons, List.zipIdx_nil, List.forIn_cons, List.forIn_nil]
  refine wpAny_bind (wpAny_bind (wpAny_onRaise ?_))
  show wpAny _ _ (Builtin.SmallTypes.nextOf (.ref i1) >>= _) _ _ _
  refine wpAny_bind (wpAny_nextOf_ascii_end hh (g1.extBut sa.extBut n3) hc fun hb e sb he => ?_)
  obtain ⟨oe, hoe, hce⟩ := he
  have zb : IsZip hb z ti to .ellipsis := sb _ _ n3.symm za
  have off : e ≠ z := by
    rintro rfl
    rw [zb] at hoe
    cases hoe
    simp at hce
  exact wpAny_setField_rec zb (by simp) fun hd _ sd => hE hd e (fun c o c1 _ c3 _ q => sd.extBut _ _ c1 (sb _ _ c3 (sa.extBut _ _ c1 q))) ⟨oe, sd.extBut _ _ off hoe, hce⟩
end
end KZ
namespace KZ
open PySem
section
variable {prog : Program} {w : World} {A : Around} {E : Value → Shared → Prop} {s : Shared}
theorem py_item {z ti to i1 i2 l2 : Addr} {k1 k2 c : Nat} {x : Str} {t : Tok} {ys : Array Value} {y a b : Value} {Q : Option Value → Shared → Prop} (nz : ti ≠ z ∧ to ≠ z ∧ i1 ≠ z ∧ i2 ≠ z) (nt : to ≠ i1 ∧ to ≠ i2 ∧ i1 ≠ i2) (nl : l2 ≠ z ∧ l2 ≠ to ∧ l2 ≠ i1)
    (gz : IsZip s.heap z ti to .none) (gi : IsPair s.heap ti (.ref i1) (.ref i2)) (go : IsPair s.heap to a b) (g1 : s.heap.IsStrIter i1 Sg x t k1) (g2 : s.heap.IsTupleIter i2 l2 k2) (gl : s.heap.IsTuple l2 ys)
    (hc : x.cps[k1]? = some c) (hy : ys[k2]? = some y)
    (hQ : ∀ h' tk u, IsZip h' z ti to (rawInt s.heap.objs.size) → IsPair h' to (.str ⟨#[c]⟩ u) y → h'.IsStrIter i1 Sg x t (k1 + 1) → h'.IsTupleIter i2 l2 (k2 + 1) → IsPair h' s.heap.objs.size (.str ⟨#[c]⟩ u) y → h'.objs.size = s.heap.objs.size + 1 →
      (∀ c o, c ≠ z → c ≠ to → c ≠ i1 → c ≠ i2 → s.heap.get? c = some o → h'.get? c = some o) → Q (some (.ref s.heap.objs.size)) { s with heap := h', toks := tk }) :
    wpAny (model prog w) A (pyNext (.ref z)) Q E s := by
  have ty : s.TypeIs (.ref z) "zip" := ⟨_, gz, rfl⟩
  unfold pyNext
  exact wpAny_bind (wpAny_attempt (wpAny_callSpecial?_slot (name := Str.ofString "__next__") ty F.slot_zip_next (wpAny_call_entry F.slot_zip_next ty F.entry_zip_next
    (next_item nz nt nl gz gi go g1 g2 gl hc hy fun h' tk u a1 a2 a3 a4 a5 a6 a7 => wpAny_pure (hQ h' tk u a1 a2 a3 a4 a5 a6 a7)) (F.args_zip_next_1 _))))
theorem py_end {z ti to i1 i2 : Addr} {k1 : Nat} {x : Str} {t : Tok} {a b : Value} {Q : Option Value → Shared → Prop} (hh : A.handled = none) (n3 : i1 ≠ z)
    (gz : IsZip s.heap z ti to .none) (gi : IsPair s.heap ti (.ref i1) (.ref i2)) (go : IsPair s.heap to a b) (g1 : s.heap.IsStrIter i1 Sg x t k1) (hc : x.cps[k1]? = none)
    (hQ : ∀ h', (∀ c o, c ≠ z → c ≠ to → c ≠ i1 → c ≠ i2 → s.heap.get? c = some o → h'.get? c = some o) → Q none { s with heap := h' }) : wpAny (model prog w) A (pyNext (.ref z)) Q E s := by
  have ty : s.TypeIs (.ref z) "zip" := ⟨_, gz, rfl⟩
  unfold pyNext
  refine wpAny_bind (wpAny_attempt (wpAny_callSpecial?_slot (name := Str.ofString "__next__") ty F.slot_zip_next (wpAny_call_entry F.slot_zip_next ty F.entry_zip_next
    (next_end hh n3 gz gi go g1 hc fun h' e k he => ?_) (F.args_zip_next_1 _))))
  obtain ⟨o, ho, hc⟩ := he
  exact wpAny_bind (wpAny_isInstance (T := "StopIteration") (b := true) ⟨o, ho, hc⟩ isSubtype_stop (wpAny_pure (hQ _ k)))
end
/-- the heap behind zip(x, l2), step by step -/
abbrev h1 (h : Heap) (x : Str) (t : Tok) : Heap := h.push { cls := .type Sg, data := .fields #[.str x t, .int 0 0] }
abbrev h2 (h : Heap) (x : Str) (t : Tok) (l2 : Addr) : Heap := (h1 h x t).push { cls := .type "tuple_iterator", data := .fields #[.ref l2, .int 0 0] }
abbrev h3 (h : Heap) (x : Str) (t : Tok) (l2 : Addr) : Heap := (h2 h x t l2).push { cls := .type "tuple", data := .seq #[.ref h.objs.size, .ref (h1 h x t).objs.size] }
abbrev h4 (h : Heap) (x : Str) (t : Tok) (l2 : Addr) : Heap := (h3 h x t l2).push { cls := .type "tuple", data := .seq #[.none, .none] }
abbrev h5 (h : Heap) (x : Str) (t : Tok) (l2 : Addr) : Heap := (h4 h x t l2).push { cls := .type "zip", data := .fields #[.none, .bool false, .bool false, .ref (h2 h x t l2).objs.size, .ref (h3 h x t l2).objs.size] }
theorem meets_new (x : Str) (t : Tok) (l2 : Addr) (ys : Array Value) (plain : x.cps.all (· < 128) = true) :
    Meets (Builtin.«zip.__new__» ⟨[.type "zip", .str x t, .ref l2], []⟩) (fun _ R s => s.heap.IsTuple l2 ys ∧ R (.ok (.ret (.ref (h4 s.heap x t l2).objs.size))) { s with heap := h5 s.heap x t l2 }) :=
  .of_wp fun prog w A R s h => by
    obtain ⟨hp, g, d, tk, os⟩ := s
    obtain ⟨hl, h⟩ := h
    have sub := sub_zip
    have L2 : Heap.IsTuple (Shared.heap ⟨hp.push { cls := .type Sg, data := .fields #[.str x t, .int 0 0] }, g, d, tk, os⟩) l2 ys := Heap.IsTuple.push hl _
    wp_walk using wpAny_pyIter_ascii plain, wpAny_pyIter_tuple L2
    exact ⟨_, rfl, h⟩
end KZ
set_option Elab.async false
set_option linter.unusedVariables false
set_option linter.unusedSectionVars false
set_option maxRecDepth 100000
set_option maxHeartbeats 1000000
namespace KZ
open PySem PySem.Spec PyProof.Rows L2
def ItzS (K : PySem.W.Frag) (x : Str) (b : Addr) : It :=
  ⟨fun i H => i < x.cps.size ∧ ∃ (ys : List V) (y : V), SqT K H b ys ∧ ys[i]? = some y,
    fun i H v H' => ∃ T c y, v = .ref T ∧ H T = none ∧ H' = upd H T (.tup [.str ⟨#[c]⟩, y]) ∧ x.cps[i]? = some c ∧ ∀ ys, SqT K H b ys → ys[i]? = some y,
    fun i _ => x.cps.size ≤ i⟩
def Std (x : Str) (t : Tok) (b z ti to i1 i2 : Addr) (i : Nat) (h : Heap) : Prop := IsZip h z ti to .none ∧ IsPair h ti (.ref i1) (.ref i2) ∧ (∃ u v, IsPair h to u v) ∧ h.IsStrIter i1 Sg x t i ∧ h.IsTupleIter i2 b i
theorem five {z ti to i1 i2 c : Addr} (h : c ∈ [z, ti, to, i1, i2]) : c = z ∨ c = ti ∨ c = to ∨ c = i1 ∨ c = i2 := by simpa using h
theorem turn {P : Program} {w : World} {K : PySem.W.Frag} {elts : List Expr} {kk : Nat} {tpos : Pos} {x : Str} {t : Tok} {b z ti to i1 i2 : Addr}
    (nz : ti ≠ z ∧ to ≠ z ∧ i1 ≠ z ∧ i2 ≠ z) (nt : to ≠ i1 ∧ to ≠ i2 ∧ i1 ≠ i2) (nl : b ≠ z ∧ b ≠ to ∧ b ≠ i1) (ni : ti ≠ to ∧ ti ≠ i1 ∧ ti ≠ i2) :
    Turn P w K (.Tuple elts kk tpos) (ItzS K x b) [z, ti, to, i1, i2] z (Std x t b z ti to i1 i2) where
  mem := by simp
  obj := by
    rintro i h ⟨g1, g2, ⟨u, v, g3⟩, ⟨o1, e1, _, d1⟩, ⟨o2, e2, _, d2⟩⟩ c hc
    rcases five hc with q | q | q | q | q <;> rw [q]
    · exact ⟨_, g1, fun v q => nomatch q⟩
    · exact ⟨_, g2, fun v q => nomatch q⟩
    · exact ⟨_, g3, fun v q => nomatch q⟩
    · exact ⟨o1, e1, fun v q => by rw [d1] at q; cases q⟩
    · exact ⟨o2, e2, fun v q => by rw [d2] at q; cases q⟩
  keep := by
    rintro i h h' ⟨g1, g2, ⟨u, v, g3⟩, ⟨o1, e1, r1⟩, g5⟩ k
    exact ⟨k z (by simp) _ g1, k ti (by simp) _ g2, ⟨u, v, k to (by simp) _ g3⟩, ⟨o1, k i1 (by simp) _ e1, r1⟩, g5.at fun o q => k i2 (by simp) o q⟩
  item := by
    intro X hP hw hK hc i pins s σ H E I hf st hg
    subst hP hw hK
    obtain ⟨g1, g2, ⟨u, v, g3⟩, g4, g5⟩ := st
    obtain ⟨hi, ys, y, hq, hy⟩ := hg
    obtain ⟨its, rv, p, _⟩ := I.tuple hq
    obtain ⟨uy, hu, ru⟩ := rv.get hy
    have hx : x.cps[i]? = some x.cps[i] := Array.getElem?_eq_getElem hi
    have zl : z < s.heap.objs.size := Heap.lt_size g1
    refine py_item nz nt nl g1 g2 g3 g4 g5 p hx (y := uy) (by simpa using hu) fun h' tk ux z' to' a1 a2 hT sz k => ?_
    refine ⟨_, rfl, wpAny_letOwnedTupleGo_zip (s := { s with heap := h', toks := tk }) z' fun h'' z'' sb => ?_⟩
    have hT2 : h''.get? s.heap.objs.size = some { cls := .type "tuple", data := .seq #[.str ⟨#[x.cps[i]]⟩ ux, uy] } := (sb.2 _ (Nat.ne_of_gt zl)).trans hT
    have new : ObjOk X.prog X.w (upd H s.heap.objs.size (.tup [.str ⟨#[x.cps[i]]⟩, y])) h'' s.heap.objs.size (.tup [.str ⟨#[x.cps[i]]⟩, y]) :=
      ⟨by show 2 ≤ sizeLine; decide, [_, uy], .cons ⟨_, rfl⟩ (.cons ru .nil), ⟨_, hT2, rfl, _, rfl⟩⟩
    have I1 : Inv X pins σ (upd H s.heap.objs.size (.tup [.str ⟨#[x.cps[i]]⟩, y])) { s with heap := h'', toks := tk } :=
      I.turnedNew (t' := tk) (ch := [z, ti, to, i1, i2]) (fun c o hb q => (sb.2 c (fun q' => hb (by simp [q']))).trans (k c o (fun q' => hb (by simp [q'])) (fun q' => hb (by simp [q'])) (fun q' => hb (by simp [q'])) (fun q' => hb (by simp [q'])) q)) hf (Nat.le_refl _) new
    obtain ⟨o1, p1, q1⟩ := a1
    refine ⟨.ref s.heap.objs.size, _, I1, rfl, ⟨_, _, y, rfl, I.hok.fresh (Nat.le_refl _), rfl, hx, fun l hl => by rw [I.tuple_inj hl hq]; exact hy⟩,
      ⟨z'', (sb.2 _ nz.1).trans (k _ _ nz.1 ni.1 ni.2.1 ni.2.2 g2), ⟨_, uy, (sb.2 _ nz.2.1).trans to'⟩, ⟨o1, (sb.2 _ nz.2.2.1).trans p1, q1⟩, a2.at fun o q => (sb.2 _ nz.2.2.2).trans q⟩, fun c hcm => ?_⟩
    have lt : c < s.heap.objs.size := by
      rcases five hcm with q | q | q | q | q <;> rw [q]
      · exact zl
      · exact Heap.lt_size g2
      · exact Heap.lt_size g3
      · obtain ⟨_, e1, _⟩ := g4; exact Heap.lt_size e1
      · obtain ⟨_, e2, _⟩ := g5; exact Heap.lt_size e2
    rw [upd_ne (Nat.ne_of_lt lt)]
    exact (hf c hcm).1
  done := by
    intro X hP hw hK hc i pins s σ H E I hf st hg
    subst hP hw hK
    obtain ⟨g1, g2, ⟨u, v, g3⟩, g4, g5⟩ := st
    exact py_end (I.ok.hd hc) nz.2.2.1 g1 g2 g3 g4 (Array.getElem?_eq_none hg) fun h' k => ⟨rfl, I.turnedL (t' := s.toks) (ch := [z, ti, to, i1, i2]) (fun c o hb q =>
      k c o (fun q' => hb (by simp [q'])) (fun q' => hb (by simp [q'])) (fun q' => hb (by simp [q'])) (fun q' => hb (by simp [q'])) q) hf⟩
  self := fun A i s Q E st h => wpAny_pyIter_zip st.1 h
def iZipS (K : PySem.W.Frag) (ta : TA) : TI := fun σ H R => ta σ H fun vs H1 => ∃ (x : Str) (b : Addr) (ys : List V), vs = [.str x, .ref b] ∧ x.cps.all (· < 128) = true ∧ H1 b = some (.tup ys) ∧ R (ItzS K x b) H1
theorem pi_zipS {X : Cx} {e e2 : Expr} {ta : TA} {p pos tpos : Pos} {elts : List Expr} {kk : Nat} (hg : Gl X "zip") (hm : X.mg "zip" = none) (ha : PA X [e, e2] ta)
    (hs : starEach [e, e2] X.env = (false, eval e X.env) :: starEach [e2] X.env := by rfl) (hpl : (backTo pos (starEach [e2] X.env)).any (·.1) = false := by rfl) :
    PI X (.Tuple elts kk tpos) (.Call (.Name "zip" p) [e, e2] [] pos) (iZipS X.K ta) := by
  refine ⟨fun pins s σ H R I h => ?_⟩
  refine Call_ (ld_blt I hg hm PyProof.Rows.boot_zip (PyProof.Rows.callWith_type1 (thn (ha.run pos pins s σ H _ I h) fun us s1 ⟨vs, H1, I1, r1, q1⟩ => ?_) hs hpl))
  obtain ⟨x, b, ys, rfl, plain, hb, q⟩ := q1
  obtain ⟨u1, u2, rfl, ru1, ru2⟩ := vals2 r1
  obtain ⟨t, rfl⟩ := ru1
  cases ru2
  obtain ⟨_, its, rv, ot, ho, hc, n, hd⟩ := I1.hok _ _ hb
  have hT : s1.heap.IsTuple b its.toArray := ⟨ot, ho, hc, n, hd⟩
  have bl : b < s1.heap.objs.size := Heap.lt_size ho
  refine callType_new F.called_zip (by decide) (F.typeCall_zip_2 _ _) (F.newCall_zip_2 _ _) (fun obj => F.args_object_init_3 obj _ _) F.entry_zip_new (meets_new x t b its.toArray plain) ⟨hT, ?_⟩
  have z1 : (h1 s1.heap x t).objs.size = s1.heap.objs.size + 1 := Heap.size_push ..
  have z2 : (h2 s1.heap x t b).objs.size = s1.heap.objs.size + 2 := by rw [Heap.size_push, z1]
  have z3 : (h3 s1.heap x t b).objs.size = s1.heap.objs.size + 3 := by rw [Heap.size_push, z2]
  have z4 : (h4 s1.heap x t b).objs.size = s1.heap.objs.size + 4 := by rw [Heap.size_push, z3]
  have g5 : (h5 s1.heap x t b).get? (h4 s1.heap x t b).objs.size = some _ := Heap.get?_push_size _ rfl
  have g4 : (h5 s1.heap x t b).get? (h3 s1.heap x t b).objs.size = some _ := Heap.get?_push_of_some _ (Heap.get?_push_size _ rfl)
  have g3 : (h5 s1.heap x t b).get? (h2 s1.heap x t b).objs.size = some _ := Heap.get?_push_of_some _ (Heap.get?_push_of_some _ (Heap.get?_push_size _ rfl))
  have g2 : (h5 s1.heap x t b).get? (h1 s1.heap x t).objs.size = some _ := Heap.get?_push_of_some _ (Heap.get?_push_of_some _ (Heap.get?_push_of_some _ (Heap.get?_push_size _ rfl)))
  have g1 : (h5 s1.heap x t b).get? s1.heap.objs.size = some _ := Heap.get?_push_of_some _ (Heap.get?_push_of_some _ (Heap.get?_push_of_some _ (Heap.get?_push_of_some _ (Heap.get?_push_size _ rfl))))
  have keep : ∀ c o, s1.heap.get? c = some o → (h5 s1.heap x t b).get? c = some o := fun c o e =>
    Heap.get?_push_of_some _ (Heap.get?_push_of_some _ (Heap.get?_push_of_some _ (Heap.get?_push_of_some _ (Heap.get?_push_of_some _ e))))
  show _ ∧ _
  rw [z2, z3, z4] at g5
  rw [z1, z2] at g3
  rw [z3] at g4
  rw [z1] at g2
  rw [z4]
  refine ⟨⟨_, g5, rfl⟩, wpAny_pyIter_zip g5 ?_⟩
  have D := PySem.W.ktu_apart s1.heap.objs.size b b bl bl
  have I2 : Inv X pins σ H1 { s1 with heap := h5 s1.heap x t b } := I1.kept (t' := s1.toks) keep
  refine ⟨s1.heap.objs.size + 4, [s1.heap.objs.size + 4, s1.heap.objs.size + 2, s1.heap.objs.size + 3, s1.heap.objs.size, s1.heap.objs.size + 1], _, _, H1, rfl, I2,
    turn (t := t) ⟨D.TIz, D.TOz, D.i1z, D.i2z⟩ ⟨D.TOi1, D.TOi2, D.i12⟩ ⟨D.l2z, D.l2TO, D.l2i1⟩ ⟨D.TITO, D.TIi1, D.TIi2⟩, ⟨g5, g3, ⟨_, _, g4⟩, ⟨_, g1, rfl, rfl⟩, ⟨_, g2, rfl, rfl⟩⟩, fun c hcm => ?_, q⟩
  have le : s1.heap.objs.size ≤ c := by
    rcases five hcm with z | z | z | z | z <;> rw [z] <;> first | exact Nat.le_add_right _ _ | exact Nat.le_refl _
  exact I1.fpOk le (I1.hok.fresh le)
/-- a loop over zip of a text and a tuple as long -/
theorem for_zipS {K : PySem.W.Frag} {x : Str} {b : Addr} {ys : List V} {g : TG} {tb : TS} {D : Ends} {σ : L2.St} {H : Hp} (hl : x.cps.size = ys.length) (Pv : Nat → L2.St → Hp → Prop) (h0 : Pv 0 σ H) (hq : ∀ i σ H, Pv i σ H → SqT K H b ys)
    (hs : ∀ (i c : Nat) (y : V) (T : Addr) (σ : L2.St) (H : Hp), x.cps[i]? = some c → ys[i]? = some y → Pv i σ H → H T = none → g (.ref T) σ (upd H T (.tup [.str ⟨#[c]⟩, y])) fun σ2 H2 => tb { D with nx := Pv (i + 1), ct := Pv (i + 1), bk := D.nx } σ2 H2)
    (hd : ∀ σ H, Pv x.cps.size σ H → D.nx σ H) :
    ∃ W : Nat → Nat → L2.St → Hp → Prop, (∃ m, W 0 m σ H) ∧ ∀ i m σ H, W i m σ H →
      ((ItzS K x b).stop i H ∧ D.nx σ H) ∨ ((ItzS K x b).go i H ∧ ∃ N : L2.St → Hp → Prop, (∀ σ' H', N σ' H' → ∃ m', m' < m ∧ W (i + 1) m' σ' H') ∧ ∀ v H', (ItzS K x b).yld i H v H' → g v σ H' fun σ2 H2 => tb { D with nx := N, ct := N, bk := D.nx } σ2 H2) := by
  refine ⟨fun i m σ H => m = x.cps.size - i ∧ i ≤ x.cps.size ∧ Pv i σ H, ⟨_, rfl, Nat.zero_le _, h0⟩, ?_⟩
  rintro i m σ H ⟨rfl, hi, p⟩
  by_cases lt : i < x.cps.size
  · have hy : ys[i]? = some ys[i] := List.getElem?_eq_getElem (by omega)
    refine Or.inr ⟨⟨lt, ys, _, hq i σ H p, hy⟩, Pv (i + 1), fun σ' H' p' => ⟨x.cps.size - (i + 1), by omega, rfl, lt, p'⟩, ?_⟩
    rintro v H' ⟨T, c, y', rfl, hT, rfl, hc, f⟩
    exact hs i c y' T σ H hc (f ys (hq i σ H p)) p hT
  · obtain rfl : i = x.cps.size := by omega
    exact Or.inl ⟨Nat.le_refl _, hd σ H p⟩
end KZ
set_option Elab.async false
set_option linter.unusedVariables false
set_option linter.unusedSectionVars false
set_option maxRecDepth 100000
set_option maxHeartbeats 1000000
/-! Data looked at: kinds, terms, names; heaps without one object; isinstance of data. -/
namespace KA
open PySem PySem.Spec PyProof.Rows L2

/-! ### a heap without one object -/
def hid (p : Addr) (H : Hp) : Hp := fun b => if b = p then none else H b
theorem hid_ne {p b : Addr} {H : Hp} (h : b ≠ p) : hid p H b = H b := if_neg h
theorem hid_at {p : Addr} {H : Hp} : hid p H p = none := if_pos rfl
theorem hid_some {p b : Addr} {H : Hp} {o : HO} (h : hid p H b = some o) : b ≠ p ∧ H b = some o := by
  by_cases e : b = p
  · subst e
    rw [hid_at] at h
    cases h
  · rw [hid_ne e] at h
    exact ⟨e, h⟩
theorem hid_sub {p : Addr} {H : Hp} : Same (hid p H) H := fun b o h => (hid_some h).2
theorem hid_upd {p : Addr} {H : Hp} {o : HO} : hid p (upd H p o) = hid p H := by
  funext b
  by_cases e : b = p
  · subst e
    rw [hid_at, hid_at]
  · rw [hid_ne e, hid_ne e, upd_ne e]
theorem Same.less {p : Addr} {H H' : Hp} (h : Same H H') : Same (hid p H) (hid p H') := fun b o e => by
  obtain ⟨n, e'⟩ := hid_some e
  rw [hid_ne n]
  exact h b o e'
theorem Same.new {H : Hp} {q : Addr} {o : HO} (h : H q = none) : Same H (upd H q o) := fun b u e => by
  rw [upd_ne (ne_of_none e h)]
  exact e
/-- what is new stands in the rest, too -/
theorem Same.hidNew {p q : Addr} {H H' : Hp} {o : HO} (h : Same H (hid p H')) (n : H' q = none) : Same H (hid p (upd H' q o)) := fun b u e => by
  have e' := h b u e
  obtain ⟨n1, e2⟩ := hid_some e'
  rw [hid_ne n1, upd_ne (ne_of_none e2 n)]
  exact e2
theorem Same.at {H H' : Hp} (h : Same H H') {b : Addr} {o : HO} (e : H b = some o) : H' b = some o := h b o e
/-- a heap to which only new things came, and p, which H does not know, changed -/
theorem Same.to_hid {p : Addr} {H H' : Hp} (h : Same H H') (n : H p = none) : Same H (hid p H') := fun b o e => by
  rw [hid_ne (ne_of_none e n)]
  exact h b o e
theorem Same.mut {p : Addr} {H H' : Hp} {o : HO} (h : Same H H') (n : H p = none) : Same H (upd H' p o) := fun b u e => by
  rw [upd_ne (ne_of_none e n)]
  exact h b u e

/-! ### kinds of data -/
def isTupD : PyData → Bool | .tuple _ => true | _ => false
def isLstD : PyData → Bool | .list _ => true | _ => false
def isStrD : PyData → Bool | .str _ => true | _ => false
def isIntD : PyData → Bool | .int _ => true | .bool _ => true | _ => false
def isBoolD : PyData → Bool | .bool _ => true | _ => false
def tyD : PyData → String
  | .none => "NoneType" | .bool _ => "bool" | .int _ => "int" | .str _ => "str" | .list _ => "list" | .tuple _ => "tuple" | .dict _ => "dict"
theorem Dn.ty {K : PySem.W.Frag} {H : Hp} {v : V} {d : PyData} (h : Dn H v d) : TyX K H v (.type (tyD d)) := by
  cases h with
  | non => exact .base .non
  | bl b => exact .base (.bl b)
  | int i => exact .base (.int i)
  | str x => exact .base (.str x)
  | lst e _ => exact .base (.lst e)
  | tup e _ => exact .base (.tup e)
  | dic e _ _ => exact .base (.dK e)
theorem is_tup (d : PyData) : kitB (tyD d) "tuple" = some (isTupD d) := by
  have t : kitB "NoneType" "tuple" = some false ∧ kitB "bool" "tuple" = some false ∧ kitB "int" "tuple" = some false ∧ kitB "str" "tuple" = some false ∧ kitB "list" "tuple" = some false ∧ kitB "tuple" "tuple" = some true ∧ kitB "dict" "tuple" = some false := by decide +kernel
  obtain ⟨a, b, c, e, g, h, i⟩ := t
  cases d <;> first | exact a | exact b | exact c | exact e | exact g | exact h | exact i
theorem is_lst (d : PyData) : kitB (tyD d) "list" = some (isLstD d) := by
  have t : kitB "NoneType" "list" = some false ∧ kitB "bool" "list" = some false ∧ kitB "int" "list" = some false ∧ kitB "str" "list" = some false ∧ kitB "list" "list" = some true ∧ kitB "tuple" "list" = some false ∧ kitB "dict" "list" = some false := by decide +kernel
  obtain ⟨a, b, c, e, g, h, i⟩ := t
  cases d <;> first | exact a | exact b | exact c | exact e | exact g | exact h | exact i
theorem is_str (d : PyData) : kitB (tyD d) "str" = some (isStrD d) := by
  have t : kitB "NoneType" "str" = some false ∧ kitB "bool" "str" = some false ∧ kitB "int" "str" = some false ∧ kitB "str" "str" = some true ∧ kitB "list" "str" = some false ∧ kitB "tuple" "str" = some false ∧ kitB "dict" "str" = some false := by decide +kernel
  obtain ⟨a, b, c, e, g, h, i⟩ := t
  cases d <;> first | exact a | exact b | exact c | exact e | exact g | exact h | exact i
theorem is_int (d : PyData) : kitB (tyD d) "int" = some (isIntD d) := by
  have t : kitB "NoneType" "int" = some false ∧ kitB "bool" "int" = some true ∧ kitB "int" "int" = some true ∧ kitB "str" "int" = some false ∧ kitB "list" "int" = some false ∧ kitB "tuple" "int" = some false ∧ kitB "dict" "int" = some false := by decide +kernel
  obtain ⟨a, b, c, e, g, h, i⟩ := t
  cases d <;> first | exact a | exact b | exact c | exact e | exact g | exact h | exact i
theorem is_bool (d : PyData) : kitB (tyD d) "bool" = some (isBoolD d) := by
  have t : kitB "NoneType" "bool" = some false ∧ kitB "bool" "bool" = some true ∧ kitB "int" "bool" = some false ∧ kitB "str" "bool" = some false ∧ kitB "list" "bool" = some false ∧ kitB "tuple" "bool" = some false ∧ kitB "dict" "bool" = some false := by decide +kernel
  obtain ⟨a, b, c, e, g, h, i⟩ := t
  cases d <;> first | exact a | exact b | exact c | exact e | exact g | exact h | exact i
/-- isinstance(e, T) of data -/
def rIsD (T : String) (f : PyData → Bool) : List V → Hp → VK → Prop := fun xs H Q => ∃ x d, xs = [x, .ty T] ∧ Dn H x d ∧ Q (.bl (f d)) H
section
variable {X : Cx} {e : Expr} {te : TE} {p q pos : Pos}
theorem call_isD {T : String} {f : PyData → Bool} (hf : ∀ d, kitB (tyD d) T = some (f d)) : CallR X (.builtin "isinstance") (rIsD T f) := by
  intro pins s σ H xs us Q I r h
  obtain ⟨x, d, rfl, hd, k⟩ := h
  exact call_isi pins s σ H _ us Q I r ⟨x, .ty T, _, _, _, rfl, .ty T, hd.ty, kit_ty (hf d), k⟩
theorem pe_isD {n : Str} {T : String} {f : PyData → Bool} (hf : ∀ d, kitB (tyD d) T = some (f d)) (he : PE X e te) (hm : X.mg "isinstance" = none) (hn : X.mg n = none) (hv : bootBuiltins n = some (.type T)) (hg : Gl X "isinstance" := by rfl) (hg2 : Gl X n := by rfl)
    (hne : n ≠ "__name__" := by decide) (hnd : (n == ("__debug__" : Str)) = false := by decide)
    (a1 : starEach [e, .Name n q] X.env = (false, eval e X.env) :: starEach [.Name n q] X.env := by rfl) (a2 : (backTo pos (starEach [.Name n q] X.env)).any (·.1) = false := by rfl) (a3 : starEach [.Name n q] X.env = (false, eval (.Name n q) X.env) :: starEach [] X.env := by rfl) :
    PE X (.Call (.Name "isinstance" p) [e, .Name n q] [] pos) (tCB (rIsD T f) (tCons te (tCons (tC (.ty T)) tNil))) :=
  pe_callB (X := X) (p := p) (pos := pos) (call_isD hf) hg hm (by decide +kernel) (pa_cons he (pa_cons (pe_bltn (v := .ty T) hg2 hn hv rfl hne hnd) pa_nil a3) a1) (by decide) (by decide) a1 a2
end
/-! ### a comprehension over a text -/
theorem lc_str {x : Str} {g : TG} {tt : TT} {te : TE} {vs : List Nat} {σ : L2.St} {H1 : Hp} {D : Addr} {Qd : Hp → Prop} (Pv : Nat → Hp → Prop) (h0 : Pv 0 (upd H1 D (.lst [])))
    (hs : ∀ (i c : Nat) (H : Hp), x.cps[i]? = some c → Pv i H → g (.str ⟨#[c]⟩) (wipe σ vs) H fun σ2 H2 => wipe σ2 vs = wipe σ vs ∧ tt σ2 H2 fun b H3 =>
      if b = true then te σ2 H3 fun y H4 => ∃ acc, H4 D = some (.lst acc) ∧ acc.length < sizeLine ∧ Pv (i + 1) (upd H4 D (.lst (acc ++ [y]))) else Pv (i + 1) H3) (hd : ∀ H, Pv x.cps.size H → Qd H) :
    ∃ W : Nat → Nat → Hp → Prop, (∃ m, W 0 m (upd H1 D (.lst []))) ∧ ∀ i m H, W i m H →
      ((Its x).stop i H ∧ Qd H) ∨ ((Its x).go i H ∧ ∃ Nx : Hp → Prop, (∀ H', Nx H' → ∃ m', m' < m ∧ W (i + 1) m' H') ∧ ∀ v H', (Its x).yld i H v H' → g v (wipe σ vs) H' fun σ2 H2 => wipe σ2 vs = wipe σ vs ∧ tt σ2 H2 fun b H3 =>
        if b = true then te σ2 H3 fun y H4 => ∃ acc, H4 D = some (.lst acc) ∧ acc.length < sizeLine ∧ Nx (upd H4 D (.lst (acc ++ [y]))) else Nx H3) := by
  refine ⟨fun i m H => m = x.cps.size - i ∧ i ≤ x.cps.size ∧ Pv i H, ⟨_, rfl, Nat.zero_le _, h0⟩, ?_⟩
  rintro i m H ⟨rfl, hi, p⟩
  by_cases lt : i < x.cps.size
  · refine Or.inr ⟨lt, Pv (i + 1), fun H' p' => ⟨x.cps.size - (i + 1), by omega, rfl, lt, p'⟩, ?_⟩
    rintro v H' ⟨rfl, c, hc, rfl⟩
    exact hs i c _ hc p
  · obtain rfl : i = x.cps.size := by omega
    exact Or.inl ⟨Nat.le_refl _, hd H p⟩
theorem yes {σ : L2.St} {H : Hp} {Q : Bool → Hp → Prop} (h : Q true H) : tYes σ H Q := h
theorem take_snoc {α : Type} {xs : List α} {i : Nat} {x : α} (h : xs[i]? = some x) : xs.take (i + 1) = xs.take i ++ [x] := by
  rw [List.take_add_one, h]
  rfl
end KA
set_option Elab.async false
set_option linter.unusedVariables false
set_option linter.unusedSectionVars false
set_option maxRecDepth 100000
set_option maxHeartbeats 1000000
/-! The program's defs. -/
namespace KP
open PySem PySem.Spec PyProof.Rows L2 KA

/-! ### what it reckons, on data -/
def cntB (lo : Int) : PyData → Bool | .int i => decide (lo ≤ i) | _ => false
def wholeB (lo hi : Int) : PyData → Bool | .int i => decide (lo ≤ i) && decide (i ≤ hi) | _ => false
def letterB (c : Nat) : Bool := decide (97 ≤ c) && decide (c ≤ 122)
def letters : Str := "abcdefghijklmnopqrstuvwxyz"
def noNames : List Str := ["all", "fun", "same", "self", "put"]
def nameX (x : Str) : Bool := !(noNames.any fun y => y == x) && (decide (1 ≤ x.length) && decide (x.length ≤ 8) && x.cps.toList.all letterB)
def nameB : PyData → Bool | .str x => nameX x | _ => false
def parts (z : Str) : Option Nat :=
  if z = "all" then some 2 else if z = "fun" then some 2 else if z = "app" then some 2 else if z = "same" then some 3 else if z = "self" then some 2 else if z = "put" then some 3 else none
def leafB (w : Str) : List PyData → Bool
  | [x] => if w = "at" then cntB 0 x else if w = "kind" then wholeB 0 5 x else (decide (w = "name") || decide (w = "thing")) && nameB x
  | [x, y] => nameB x && (if w = "maker" then cntB 0 y else decide (w = "eater") && wholeB 0 5 y)
  | _ => false
mutual
def tm : PyData → Bool
  | .tuple (.str w :: ds) => (match parts w with
    | some n => decide (ds.length = n) && tmAll ds
    | none => leafB w ds)
  | _ => false
def tmAll : List PyData → Bool
  | [] => true
  | d :: ds => tm d && tmAll ds
end
mutual
/-- how many data there are in it -/
def nodes : PyData → Nat
  | .tuple ds => nodesAll ds + 1
  | _ => 1
def nodesAll : List PyData → Nat
  | [] => 0
  | d :: ds => nodes d + nodesAll ds
end

mutual
/-- its leaves are small -/
def fine : PyData → Bool
  | .int i => decide (-(10 ^ 31) ≤ i) && decide (i ≤ 10 ^ 31)
  | .str x => decide (x.length ≤ 20) && x.cps.toList.all fun c => decide (c < 128)
  | .list ds => fineAll ds
  | .tuple ds => fineAll ds
  | .dict kvs => fineKv kvs
  | _ => true
def fineAll : List PyData → Bool
  | [] => true
  | d :: ds => fine d && fineAll ds
def fineKv : List (PyData × PyData) → Bool
  | [] => true
  | (k, v) :: r => fine k && fine v && fineKv r
end
theorem letters_list : letters.cps.toList = [97, 98, 99, 100, 101, 102, 103, 104, 105, 106, 107, 108, 109, 110, 111, 112, 113, 114, 115, 116, 117, 118, 119, 120, 121, 122] := by decide +kernel
theorem in_letters (c : Nat) : decide (c ∈ letters.cps.toList) = letterB c := by
  rw [letters_list]
  unfold letterB
  rw [← Bool.decide_and]
  apply decide_eq_decide.mpr
  simp only [List.mem_cons, List.not_mem_nil, or_false]
  omega

/-! ### the text by places -/
def top (i : Nat) : Stmt := PySem.Challenge.pw_kernelpapers_k07_whole_giving.main.body.getD i (.Pass ⟨0, 0, 0, 0⟩)
abbrev sWhole : Stmt := top 27
abbrev sCount : Stmt := top 28
abbrev sName : Stmt := top 29
abbrev sTerm : Stmt := top 30
abbrev sLeaf : Stmt := top 31
abbrev sSpot : Stmt := top 32

/-- what the top has left, but for the defs -/
structure Txt (K : PySem.W.Frag) (w : World) (mg : Str → Option Value) : Prop where
  isi : mg "isinstance" = none
  int : mg "int" = none
  bool : mg "bool" = none
  str : mg "str" = none
  tuple : mg "tuple" = none
  list : mg "list" = none
  dict : mg "dict" = none
  len : mg "len" = none
  all : mg "all" = none
  max : mg "max" = none
  min : mg "min" = none
  range : mg "range" = none
  zip : mg "zip" = none
  repr : mg "repr" = none
  letters : ∃ u, mg "LETTERS" = some u ∧ RelV (.str KP.letters) u
  most : ∃ u, mg "MOST_LETTERS" = some u ∧ RelV (.int 8) u
  highest : ∃ u, mg "HIGHEST" = some u ∧ RelV (.int 5) u
  no : ∃ a o its n, mg "NO_NAMES" = some (.ref a) ∧ K.lookup a = some o ∧ o.cls = .type "tuple" ∧ o.data = .seq its n ∧ its.size ≤ sizeLine ∧ Vals (noNames.map V.str) its.toList
  parted : ∃ a es n, mg "PARTED" = some (.ref a) ∧ KDict K w a es n ∧ ∀ z, ∃ r, PySem.W.nsIn K a z = some r ∧ RelO ((parts z).map fun n => V.int (n : Int)) r

/-! ### promises -/
def spCount : Sp := fun vs H Q _ => ∃ v d lo, vs = [v, .int lo] ∧ Dn H v d ∧ ∀ H', Same H H' → Q (.bl (cntB lo d)) H'
def spWhole : Sp := fun vs H Q _ => ∃ v d lo hi, vs = [v, .int lo, .int hi] ∧ Dn H v d ∧ ∀ H', Same H H' → Q (.bl (wholeB lo hi d)) H'
def sp1 (ok : PyData → Prop) (f : PyData → Bool) : Sp := fun vs H Q _ => ∃ v d, vs = [v] ∧ Dn H v d ∧ ok d ∧ ∀ H', Same H H' → Q (.bl (f d)) H'

section
variable {P : Program} {w : World} {K : PySem.W.Frag} {mg : Str → Option Value} {base : Heap}
theorem scCount : FnScope ["thing", "low"] ["thing", "low"] (defScope sCount) := ⟨rfl, rfl, rfl, by decide +kernel, rfl, by decide +kernel, by decide +kernel⟩
theorem ok_count {f : Addr} {fd : FuncData} {dvs : List V} {kws : List (Str × V)} (F : FunD K "is_count" "is_count" (defArgs sCount) (defBody sCount) (defScope sCount) dvs kws f fd) (T : Txt K w mg) : FnOk P w K mg base CX0 1 f fd ["thing", "low"] spCount := by
  refine F.ok scCount (fun vs H Q E h => ?_) (fun cdv A outer s H vs Q E hr h => ?_)
  · obtain ⟨v, d, lo, rfl, _⟩ := h
    rfl
  · obtain ⟨v, d, lo, rfl, hd, k⟩ := h
    refine ⟨_, pss_one (ps_ret (pe_and (pe_isD is_int (pv 0) T.isi T.int (by decide +kernel)) (pe_and (pe_not (pe_isD is_bool (pv 0) T.isi T.bool (by decide +kernel))) (pe_one (pe_cmpR op_ge (pv 0) (pv 1) (nomark _)))))), ?_⟩
    have k0 := k H (Same.refl H)
    refine ⟨v, rfl, v, d, rfl, hd, _, rfl, ?_⟩
    cases hd with
    | int i => exact iteT ⟨_, rfl, .int i, _, rfl, .int i, _, rfl, _, rfl, iteT ⟨_, rfl, _, rfl, i, lo, rfl, rfl, k0⟩⟩
    | bl b => exact iteT ⟨_, rfl, .bl b, _, rfl, .bl b, _, rfl, _, rfl, iteF k0⟩
    | non => exact iteF k0
    | str x => exact iteF k0
    | lst _ _ => exact iteF k0
    | tup _ _ => exact iteF k0
    | dic _ _ _ => exact iteF k0
theorem scWhole : FnScope ["thing", "low", "high"] ["thing", "low", "high"] (defScope sWhole) := ⟨rfl, rfl, rfl, by decide +kernel, rfl, by decide +kernel, by decide +kernel⟩
theorem ok_whole {f : Addr} {fd : FuncData} (F : Fun K "is_whole" "is_whole" sWhole f fd) (T : Txt K w mg) (C : C8.Cal P w K mg base 1 "is_count" spCount []) : FnOk P w K mg base CX0 2 f fd ["thing", "low", "high"] spWhole := by
  refine F.ok scWhole (fun vs H Q E h => ?_) (fun cdv A outer s H vs Q E hr h => ?_)
  · obtain ⟨v, d, lo, hi, rfl, _⟩ := h
    rfl
  · obtain ⟨v, d, lo, hi, rfl, hd, k⟩ := h
    refine ⟨_, pss_one (ps_ret (pe_and (C8.pe_c C hr (by decide) rfl (pa_cons (pv 0) (pa_cons (pv 1) pa_nil))) (pe_one (pe_cmpR op_le (pv 0) (pv 2) (nomark _))))), ?_⟩
    refine ⟨v, rfl, _, rfl, v, d, lo, rfl, hd, fun H' S => ⟨_, rfl, ?_⟩⟩
    have k0 := k H' S
    cases hd with
    | int i =>
      refine ite2 (fun h => ?_) (fun h => ?_)
      · refine ⟨_, rfl, _, rfl, i, hi, rfl, rfl, ?_⟩
        have e : wholeB lo hi (.int i) = decide (i ≤ hi) := by
          show (decide (lo ≤ i) && decide (i ≤ hi)) = _
          rw [show decide (lo ≤ i) = true from h, Bool.true_and]
        rw [e] at k0
        exact k0
      · have e : wholeB lo hi (.int i) = false := by
          show (decide (lo ≤ i) && decide (i ≤ hi)) = _
          rw [show decide (lo ≤ i) = false by simpa [cntB] using h, Bool.false_and]
        rw [e] at k0
        exact k0
    | bl b => exact iteF k0
    | non => exact iteF k0
    | str x => exact iteF k0
    | lst _ _ => exact iteF k0
    | tup _ _ => exact iteF k0
    | dic _ _ _ => exact iteF k0
theorem scName : FnScope ["thing", "letter"] ["thing"] (defScope sName) := ⟨rfl, rfl, rfl, by decide +kernel, rfl, by decide +kernel, by decide +kernel⟩
theorem ok_name {f : Addr} {fd : FuncData} (F : Fun K "is_name" "is_name" sName f fd) (T : Txt K w mg) : FnOk P w K mg base CX0 1 f fd ["thing"] (sp1 (fun d => fine d = true) nameB) := by
  refine F.ok scName (fun vs H Q E h => ?_) (fun cdv A outer s H vs Q E hr h => ?_)
  · obtain ⟨v, d, rfl, _⟩ := h
    rfl
  · obtain ⟨v, d, rfl, hd, hf, k⟩ := h
    obtain ⟨na, no, nits, nn, nm, nl, nc, ndt, nsz, nv⟩ := T.no
    refine ⟨_, pss_cons (ps_if (PW.pt (pw_or (pt_not (pt_val (pe_isD is_str (pv 0) T.isi T.str (by decide +kernel)))) (pw_or1 (pt_cmpR op_in_seq (pv 0) (pe_glob (v := .ref na) rfl nm rfl) rfl))))
        (pss_one (ps_ret pe_bl)) pss_nil)
      (pss_one (ps_ret (pe_and (pe_chain op_le op_le pe_int (pe_callB call_len_str (by rfl) T.len PySem.boot_len (pa_cons (pv 0) pa_nil)) (C8.pe_gc rfl T.most))
        (pe_one (pe_callB (cr_all rfl) (by rfl) T.all (by decide +kernel) (pa_cons (pe_lc (own := [("letter", 1)]) (g := gName 1) (tt := tYes) rfl scName.nd (pi_str (pv 0)) (blkOk_by (N := ["thing", "letter"]) (sc := defScope sName) (by decide +kernel))
          (fun _ _ _ _ _ => pg_name (i := 1) scName.nd rfl (Or.inl rfl)) (fun _ _ _ _ _ => pts_nil) (fun _ _ _ _ _ => pe_cmpR op_in_sign (pv 1) (C8.pe_gc rfl T.letters) rfl)) pa_nil)))))), ?_⟩
    refine ⟨v, rfl, v, d, rfl, hd, _, rfl, ?_⟩
    have k0 := k H (Same.refl H)
    cases hd with
    | str x =>
      have fx : x.length ≤ 20 ∧ (x.cps.toList.all fun c => decide (c < 128)) = true := by simpa [fine] using hf
      have nT : SqT K H na (noNames.map V.str) := Or.inr ⟨no, nits, nn, nl, nc, ndt, nsz, nv⟩
      refine iteF ⟨.str x, rfl, na, _, rfl, Or.inr nT, rfl, rfl, _, rfl, ?_⟩
      have eN : inV (.str x) (noNames.map V.str) = noNames.any fun y => y == x := by
        unfold inV
        rw [List.any_map]
        rfl
      refine ite2 (fun h => ?_) (fun h => ?_)
      · have e : nameB (.str x) = false := by
          show (!(noNames.any fun y => y == x) && _) = false
          rw [← eN, show inV (.str x) (noNames.map V.str) = true from h]
          rfl
        rw [e] at k0
        exact k0
      · have hin : inV (.str x) (noNames.map V.str) = false := by simpa using h
        have e : nameB (.str x) = (decide (1 ≤ x.length) && decide (x.length ≤ 8) && x.cps.toList.all letterB) := by
          show (!(noNames.any fun y => y == x) && _) = _
          rw [← eN, hin]
          rfl
        rw [e] at k
        refine ⟨.str x, rfl, x, rfl, (by show x.length ≤ sizeLine; exact Nat.le_trans fx.1 (by decide)), 1, _, rfl, rfl, _, rfl, ?_⟩
        refine ite2 (fun h1 => ?_) (fun h1 => ?_)
        · have h1 : decide ((1 : Int) ≤ (x.length : Int)) = true := h1
          refine ⟨_, _, rfl, rfl, _, rfl, ?_⟩
          refine ite2 (fun h2 => ?_) (fun h2 => ?_)
          · have h2 : decide ((x.length : Int) ≤ 8) = true := h2
            refine ⟨.str x, rfl, x, rfl, fun D hD => lc_str (fun i H' => H' D = some (.lst ((x.cps.toList.take i).map fun c => V.bl (letterB c))) ∧ Same H H') ⟨upd_same, Same.new hD⟩ ?_ ?_⟩
            · rintro i c H' hc ⟨hl, S⟩
              refine ⟨rfl, yes (iteT ?_)⟩
              refine ⟨.str ⟨#[c]⟩, rfl, c, letters, rfl, rfl, ?_⟩
              refine ⟨_, hl, ?_, ?_, Same.mut S hD⟩
              · rw [List.length_map, List.length_take]
                have : x.cps.toList.length ≤ 20 := fx.1
                exact Nat.lt_of_le_of_lt (Nat.le_trans (Nat.min_le_right _ _) this) (by decide)
              · rw [upd_same, in_letters, take_snoc (x := c) (by simpa using hc), List.map_append]
                rfl
            · rintro H' ⟨hl, S⟩
              refine ⟨D, x.cps.toList.map letterB, rfl, Or.inl (Or.inl ?_), ?_⟩
              · rw [hl, List.take_of_length_le (by simp), List.map_map]
                rfl
              · have e2 : (x.cps.toList.map letterB).all id = (decide (1 ≤ x.length) && decide (x.length ≤ 8) && x.cps.toList.all letterB) := by
                  have a1 : decide (1 ≤ x.length) = true := by
                    have := of_decide_eq_true h1
                    exact decide_eq_true (by omega)
                  have a2 : decide (x.length ≤ 8) = true := by
                    have := of_decide_eq_true h2
                    exact decide_eq_true (by omega)
                  rw [a1, a2, List.all_map]
                  rfl
                rw [e2]
                exact k H' S
          · have h2 : ¬ decide ((x.length : Int) ≤ 8) = true := h2
            have a2 : decide (x.length ≤ 8) = false := by
              simp only [decide_eq_true_eq] at h2
              exact decide_eq_false (by omega)
            have := k H (Same.refl H)
            rw [a2, Bool.and_false, Bool.false_and] at this
            exact this
        · have h1 : ¬ decide ((1 : Int) ≤ (x.length : Int)) = true := h1
          have a1 : decide (1 ≤ x.length) = false := by
            simp only [decide_eq_true_eq] at h1
            exact decide_eq_false (by omega)
          have := k H (Same.refl H)
          rw [a1, Bool.false_and, Bool.false_and] at this
          exact ⟨_, rfl, iteF this⟩
    | int i => exact iteT k0
    | bl b => exact iteT k0
    | non => exact iteT k0
    | lst _ _ => exact iteT k0
    | tup _ _ => exact iteT k0
    | dic _ _ _ => exact iteT k0
theorem beq_dec (x y : Str) : (x == y) = decide (y = x) := by
  by_cases h : y = x
  · subst h
    rw [decide_eq_true rfl]
    exact beq_self_eq_true _
  · rw [decide_eq_false h]
    exact beq_eq_false_iff_ne.mpr fun e => h e.symm
def spLeaf : Sp := fun vs H Q _ => ∃ v wd ds, vs = [v] ∧ Dn H v (.tuple (.str wd :: ds)) ∧ fineAll ds = true ∧ (∀ H', Same H H' → Q (.bl (leafB wd ds)) H')
theorem scLeaf : FnScope ["thing", "word"] ["thing"] (defScope sLeaf) := ⟨rfl, rfl, rfl, by decide +kernel, rfl, by decide +kernel, by decide +kernel⟩
theorem tup_inv {H : Hp} {v : V} {ds : List PyData} (h : Dn H v (.tuple ds)) : ∃ a xs, v = .ref a ∧ H a = some (.tup xs) ∧ DnAll H xs ds := by
  cases h with
  | tup e r => exact ⟨_, _, rfl, e, r⟩
theorem str_inv {H : Hp} {v : V} {x : Str} (h : Dn H v (.str x)) : v = .str x := by
  cases h
  rfl
theorem cons_inv {H : Hp} {xs : List V} {d : PyData} {ds : List PyData} (h : DnAll H xs (d :: ds)) : ∃ y ys, xs = y :: ys ∧ Dn H y d ∧ DnAll H ys ds := by
  cases h with
  | cons a b => exact ⟨_, _, rfl, a, b⟩
theorem nil_inv {H : Hp} {xs : List V} (h : DnAll H xs []) : xs = [] := by
  cases h
  rfl
theorem ok_leaf {f : Addr} {fd : FuncData} (F : Fun K "_is_leaf" "_is_leaf" sLeaf f fd) (T : Txt K w mg) (C0 : C8.Cal P w K mg base 1 "is_count" spCount [.int 0]) (CW : C8.Cal P w K mg base 2 "is_whole" spWhole [])
    (CN : C8.Cal P w K mg base 1 "is_name" (sp1 (fun d => fine d = true) nameB) []) : FnOk P w K mg base CX0 3 f fd ["thing"] spLeaf := by
  refine F.ok scLeaf (fun vs H Q E h => ?_) (fun cdv A outer s H vs Q E hr h => ?_)
  · obtain ⟨v, wd, ds, rfl, _⟩ := h
    rfl
  · obtain ⟨v, wd, ds, rfl, hd, hf, k⟩ := h
    refine ⟨_, pss_cons (ps_set (i := 1) scLeaf.nd rfl (Or.inl rfl) (pe_ix ix_tup (pv 0) pe_int (fun _ _ => rfl)))
      (pss_cons (ps_if (pt_cmpR op_eq (pe_callB call_len_seq (by rfl) T.len PySem.boot_len (pa_cons (pv 0) pa_nil)) pe_int (nomark _))
        (pss_cons (ps_if (pt_cmpR op_eq (pv 1) pe_str (nomark _)) (pss_one (ps_ret (C8.pe_c C0 hr (by decide) rfl (pa_cons (pe_ix ix_tup (pv 0) pe_int (fun _ _ => rfl)) pa_nil)))) pss_nil)
          (pss_cons (ps_if (pt_cmpR op_eq (pv 1) pe_str (nomark _)) (pss_one (ps_ret (C8.pe_c CW hr (by decide) rfl (pa_cons (pe_ix ix_tup (pv 0) pe_int (fun _ _ => rfl)) (pa_cons pe_int (pa_cons (C8.pe_gc rfl T.highest) pa_nil)))))) pss_nil)
            (pss_one (ps_ret (pe_and (pe_cmpR op_in_seq (pv 1) (pe_tup (pa_cons pe_str (pa_cons pe_str pa_nil))) rfl) (pe_one (C8.pe_c CN hr (by decide) rfl (pa_cons (pe_ix ix_tup (pv 0) pe_int (fun _ _ => rfl)) pa_nil))))))))
        pss_nil)
      (pss_cons (ps_if (PW.pt (pw_or (pt_cmpR op_ne (pe_callB call_len_seq (by rfl) T.len PySem.boot_len (pa_cons (pv 0) pa_nil)) pe_int (nomark _))
          (pw_or1 (pt_not (pt_val (C8.pe_c CN hr (by decide) rfl (pa_cons (pe_ix ix_tup (pv 0) pe_int (fun _ _ => rfl)) pa_nil))))))) (pss_one (ps_ret pe_bl)) pss_nil)
      (pss_cons (ps_if (pt_cmpR op_eq (pv 1) pe_str (nomark _)) (pss_one (ps_ret (C8.pe_c C0 hr (by decide) rfl (pa_cons (pe_ix ix_tup (pv 0) pe_int (fun _ _ => rfl)) pa_nil)))) pss_nil)
      (pss_one (ps_ret (pe_and (pe_cmpR op_eq (pv 1) pe_str (nomark _)) (pe_one (C8.pe_c CW hr (by decide) rfl (pa_cons (pe_ix ix_tup (pv 0) pe_int (fun _ _ => rfl)) (pa_cons pe_int (pa_cons (C8.pe_gc rfl T.highest) pa_nil)))))))))))
      , ?_⟩
    obtain ⟨a, xs0, rfl, ha, hx0⟩ := tup_inv hd
    obtain ⟨x0, xs, rfl, h0, hx⟩ := cons_inv hx0
    obtain rfl := str_inv h0
    clear hx0 hd h0
    have sT : SqT K H a (.str wd :: xs) := SqT.of ha
    refine ⟨_, rfl, a, _, 0, _, rfl, rfl, sT, at_of (j := 0) rfl rfl, ?_⟩
    refine ⟨_, rfl, a, _, rfl, Or.inr sT, rfl, _, rfl, ?_⟩
    match ds, hx, hf, k with
    | [], hx, hf, k =>
      obtain rfl := nil_inv hx
      refine iteF ⟨_, rfl, a, _, rfl, Or.inr sT, rfl, _, rfl, iteT ?_⟩
      exact k H (Same.refl H)
    | [d1], hx, hf, k =>
      obtain ⟨x1, xs1, rfl, h1, hx1⟩ := cons_inv hx
      obtain rfl := nil_inv hx1
      have f1 : fine d1 = true := by simpa [fineAll] using hf
      refine iteT ⟨_, rfl, rfl, _, rfl, ?_⟩
      refine ite2 (fun c1 => ?_) (fun c1 => ?_)
      · have c1 : wd = "at" := V.str.inj (of_decide_eq_true c1)
        refine ⟨_, rfl, a, _, 1, _, rfl, rfl, sT, at_of (j := 1) rfl rfl, x1, d1, 0, rfl, h1, fun H' S => ?_⟩
        have k' := k H' S
        rw [show leafB wd [d1] = cntB 0 d1 from if_pos c1] at k'
        exact k'
      · have c1 : ¬ wd = "at" := fun e => c1 (decide_eq_true (congrArg V.str e))
        refine ⟨_, rfl, rfl, _, rfl, ?_⟩
        refine ite2 (fun c2 => ?_) (fun c2 => ?_)
        · have c2 : wd = "kind" := V.str.inj (of_decide_eq_true c2)
          refine ⟨_, rfl, a, _, 1, _, rfl, rfl, sT, at_of (j := 1) rfl rfl, x1, d1, 0, 5, rfl, h1, fun H' S => ?_⟩
          have k' := k H' S
          rw [show leafB wd [d1] = wholeB 0 5 d1 from (if_neg c1).trans (if_pos c2)] at k'
          exact k'
        · have c2 : ¬ wd = "kind" := fun e => c2 (decide_eq_true (congrArg V.str e))
          have e0 : leafB wd [d1] = ((decide (wd = "name") || decide (wd = "thing")) && nameB d1) := (if_neg c1).trans (if_neg c2)
          rw [e0] at k
          refine ⟨_, rfl, (by show 2 ≤ sizeLine; decide), fun p hp => ⟨p, _, rfl, Or.inr (SqT.of upd_same), rfl, rfl, _, rfl, ?_⟩⟩
          have ei : inV (.str wd) [.str "name", .str "thing"] = (decide (wd = "name") || decide (wd = "thing")) := by
            unfold inV
            simp only [List.any_cons, List.any_nil, Bool.or_false, eqV]
            rw [beq_dec, beq_dec]
          have sN : Same H (upd H p (.tup [.str "name", .str "thing"])) := Same.new hp
          refine ite2 (fun c3 => ?_) (fun c3 => ?_)
          · have c3 : inV (.str wd) [.str "name", .str "thing"] = true := c3
            refine ⟨_, rfl, a, _, 1, _, rfl, rfl, SqT.of (sN _ _ ha), at_of (j := 1) rfl rfl, x1, d1, rfl, Dn.mono sN h1, f1, fun H' S => ?_⟩
            have k' := k H' (sN.trans S)
            rw [← ei, c3, Bool.true_and] at k'
            exact k'
          · have c3 : inV (.str wd) [.str "name", .str "thing"] = false := by simpa using c3
            have k' := k _ sN
            rw [← ei, c3, Bool.false_and] at k'
            exact k'
    | [d1, d2], hx, hf, k =>
      obtain ⟨x1, xs1, rfl, h1, hx1⟩ := cons_inv hx
      obtain ⟨x2, xs2, rfl, h2, hx2⟩ := cons_inv hx1
      obtain rfl := nil_inv hx2
      have f1 : fine d1 = true := by
        have : fine d1 = true ∧ fine d2 = true := by simpa [fineAll] using hf
        exact this.1
      refine iteF ⟨_, rfl, a, _, rfl, Or.inr sT, rfl, _, rfl, iteF ?_⟩
      refine ⟨_, rfl, a, _, 1, _, rfl, rfl, sT, at_of (j := 1) rfl rfl, x1, d1, rfl, h1, f1, fun H' S => ⟨_, rfl, ?_⟩⟩
      have ha' := S _ _ ha
      have sT' : SqT K H' a [.str wd, x1, x2] := SqT.of ha'
      have e0 : leafB wd [d1, d2] = (nameB d1 && (if wd = "maker" then cntB 0 d2 else decide (wd = "eater") && wholeB 0 5 d2)) := rfl
      rw [e0] at k
      cases c : nameB d1 with
      | false =>
        refine iteT ?_
        have k' := k H' S
        rw [c] at k'
        exact k'
      | true =>
        rw [c, Bool.true_and] at k
        refine iteF ⟨_, rfl, rfl, _, rfl, ?_⟩
        refine ite2 (fun c1 => ?_) (fun c1 => ?_)
        · have c1 : wd = "maker" := V.str.inj (of_decide_eq_true c1)
          refine ⟨_, rfl, a, _, 2, _, rfl, rfl, sT', at_of (j := 2) rfl rfl, x2, d2, 0, rfl, Dn.mono S h2, fun H2 S2 => ?_⟩
          have k' := k H2 (S.trans S2)
          rw [if_pos c1] at k'
          exact k'
        · have c1 : ¬ wd = "maker" := fun e => c1 (decide_eq_true (congrArg V.str e))
          rw [if_neg c1] at k
          refine ⟨_, rfl, rfl, _, rfl, ?_⟩
          refine ite2 (fun c2 => ?_) (fun c2 => ?_)
          · have c2 : wd = "eater" := V.str.inj (of_decide_eq_true c2)
            refine ⟨_, rfl, a, _, 2, _, rfl, rfl, sT', at_of (j := 2) rfl rfl, x2, d2, 0, 5, rfl, Dn.mono S h2, fun H2 S2 => ?_⟩
            have k' := k H2 (S.trans S2)
            rw [decide_eq_true c2, Bool.true_and] at k'
            exact k'
          · have c2 : ¬ wd = "eater" := fun e => c2 (decide_eq_true (congrArg V.str e))
            have k' := k H' S
            rw [decide_eq_false c2, Bool.false_and] at k'
            exact k'
    | d1 :: d2 :: d3 :: ds, hx, hf, k =>
      obtain ⟨x1, xs1, rfl, h1, hx1⟩ := cons_inv hx
      obtain ⟨x2, xs2, rfl, h2, hx2⟩ := cons_inv hx1
      obtain ⟨x3, xs3, rfl, h3, hx3⟩ := cons_inv hx2
      have n2 : decide (V.int (((.str wd : V) :: x1 :: x2 :: x3 :: xs3).length : Int) = V.int 2) = false := decide_eq_false fun e => by
        have := V.int.inj e
        simp only [List.length_cons] at this
        omega
      have n3 : decide (V.int (((.str wd : V) :: x1 :: x2 :: x3 :: xs3).length : Int) = V.int 3) = false := decide_eq_false fun e => by
        have := V.int.inj e
        simp only [List.length_cons] at this
        omega
      rw [n2]
      refine iteF ⟨_, rfl, a, _, rfl, Or.inr sT, rfl, _, rfl, ?_⟩
      rw [n3]
      exact iteT (k H (Same.refl H))
end
end KP
set_option Elab.async false
set_option linter.unusedVariables false
set_option linter.unusedSectionVars false
set_option maxRecDepth 100000
set_option maxHeartbeats 1000000
namespace KP
open PySem PySem.Spec PyProof.Rows L2 KA
theorem tm_parts {wd : Str} {ds : List PyData} {n : Nat} (h : parts wd = some n) : tm (.tuple (.str wd :: ds)) = (decide (ds.length = n) && tmAll ds) := by simp only [tm, h]
theorem tm_leaf {wd : Str} {ds : List PyData} (h : parts wd = none) : tm (.tuple (.str wd :: ds)) = leafB wd ds := by simp only [tm, h]
theorem tmAll_append : ∀ (ds es : List PyData), tmAll (ds ++ es) = (tmAll ds && tmAll es)
  | [], es => by simp [tmAll]
  | d :: ds, es => by simp only [List.cons_append, tmAll, tmAll_append ds es, Bool.and_assoc]
theorem nodesAll_append : ∀ (ds es : List PyData), nodesAll (ds ++ es) = nodesAll ds + nodesAll es
  | [], es => by simp [nodesAll]
  | d :: ds, es => by simp only [List.cons_append, nodesAll, nodesAll_append ds es, Nat.add_assoc]
theorem fineAll_append : ∀ (ds es : List PyData), fineAll (ds ++ es) = (fineAll ds && fineAll es)
  | [], es => by simp [fineAll]
  | d :: ds, es => by simp only [List.cons_append, fineAll, fineAll_append ds es, Bool.and_assoc]
theorem nodes_pos (d : PyData) : 0 < nodes d := by cases d <;> simp [nodes]
theorem len_nodes : ∀ ds : List PyData, ds.length ≤ nodesAll ds
  | [] => Nat.zero_le _
  | d :: ds => by
    have := len_nodes ds
    have := nodes_pos d
    simp only [List.length_cons, nodesAll]
    omega
theorem unsnoc {H : Hp} : ∀ {ds : List PyData} {d : PyData} {xs : List V}, DnAll H xs (ds ++ [d]) → ∃ ys y, xs = ys ++ [y] ∧ DnAll H ys ds ∧ Dn H y d
  | [], d, xs, h => by
    obtain ⟨y, ys, rfl, h1, h2⟩ := cons_inv h
    obtain rfl := nil_inv h2
    exact ⟨[], y, rfl, .nil, h1⟩
  | e :: ds, d, xs, h => by
    obtain ⟨y, ys, rfl, h1, h2⟩ := cons_inv h
    obtain ⟨zs, z, rfl, h3, h4⟩ := unsnoc h2
    exact ⟨y :: zs, z, rfl, .cons h1 h3, h4⟩
theorem isTup_false {d : PyData} (h : isTupD d = false) : tm d = false := by
  cases d <;> first | (cases h; done) | simp [tm]
theorem isStr_false {d : PyData} {ds : List PyData} (h : isStrD d = false) : tm (.tuple (d :: ds)) = false := by
  cases d <;> first | (cases h; done) | simp [tm]
theorem sIx1 (n : Nat) : HT.sIx (n + 1) 0 (some 1) = 1 := (HT.sIx_nat (n + 1) 0 1).trans (by omega)
section
variable {P : Program} {w : World} {K : PySem.W.Frag} {mg : Str → Option Value} {base : Heap}
def okT (d : PyData) : Prop := fine d = true ∧ nodes d ≤ 1000000
theorem scTerm : FnScope ["thing", "waiting", "part"] ["thing"] (defScope sTerm) := ⟨rfl, rfl, rfl, by decide +kernel, rfl, by decide +kernel, by decide +kernel⟩
theorem ok_term {f : Addr} {fd : FuncData} (F : Fun K "is_term" "is_term" sTerm f fd) (T : Txt K w mg) (CL : C8.Cal P w K mg base 3 "_is_leaf" spLeaf []) : FnOk P w K mg base CX0 4 f fd ["thing"] (sp1 okT tm) := by
  refine F.ok scTerm (fun vs H Q E h => ?_) (fun cdv A outer s H vs Q E hr h => ?_)
  · obtain ⟨v, d, rfl, _⟩ := h
    rfl
  · obtain ⟨v, d, rfl, hd, ⟨hf, hn⟩, k⟩ := h
    obtain ⟨pa, es, en, pm, PD, pn⟩ := T.parted
    refine ⟨_, pss_cons (ps_set (i := 1) scTerm.nd rfl (Or.inl rfl) (pe_lst (pa_cons (pv 0) pa_nil)))
      (pss_cons (ps_while PassesOwn.never (pt_truth (pv 1) (by intro _; rfl))
        (pss_cons (ps_set (i := 2) scTerm.nd rfl (Or.inl rfl) (pe_bm0 PySem.F.plainAttrs_list PySem.F.slot_list_pop PySem.F.type_list_pop mt_pop (pv 1)))
        (pss_cons (ps_if (PW.pt (pw_or (pt_not (pt_val (pe_isD is_tup (pv 2) T.isi T.tuple (by decide +kernel)))) (pw_or (pt_not (pt_truth (pv 2) (by intro _; rfl)))
            (pw_or1 (pt_not (pt_val (pe_isD is_str (pe_ix ix_tup (pv 2) pe_int (fun _ _ => rfl)) T.isi T.str (by decide +kernel)))))))) (pss_one (ps_ret pe_bl)) pss_nil)
        (pss_one (ps_if (pt_cmpR (op_notIn_kd PD) (pe_ix ix_tup (pv 2) pe_int (fun _ _ => rfl)) (pe_glob (v := .ref pa) rfl pm rfl) rfl)
          (pss_one (ps_if (pt_not (pt_val (C8.pe_c CL hr (by decide) rfl (pa_cons (pv 2) pa_nil)))) (pss_one (ps_ret pe_bl)) pss_nil))
          (pss_one (ps_if (pt_cmpR op_ne (pe_callB call_len_seq (by rfl) T.len PySem.boot_len (pa_cons (pv 2) pa_nil)) (pe_op op_add (pe_ix ix_kdict (pe_glob (v := .ref pa) rfl pm rfl) (pe_ix ix_tup (pv 2) pe_int (fun _ _ => rfl)) (fun _ _ => rfl)) pe_int) (nomark _))
            (pss_one (ps_ret pe_bl))
            (pss_one (ps_expr (pe_bm PySem.F.plainAttrs_list PySem.F.slot_list_extend PySem.F.type_list_extend mt_grow (pv 1) (pa_cons (pe_slice sl_tupA (pv 2) (po_some pe_int) po_none) pa_nil)))))))))))
      (pss_one (ps_ret pe_bl))), ?_⟩
    refine ⟨v, rfl, (by show 1 ≤ sizeLine; decide), fun l hl => ?_⟩
    refine ⟨fun m σ H' => ∃ xs ds pv, σ = [some v, some (.ref l), pv] ∧ H' l = some (.lst xs) ∧ DnAll (hid l H') xs ds ∧ Same H (hid l H') ∧ fineAll ds = true ∧ tmAll ds = tm d ∧ nodesAll ds = m ∧ m ≤ 1000000,
      ⟨nodes d, [v], [d], none, rfl, upd_same, ?_, ?_, ?_, ?_, ?_, hn⟩, ?_⟩
    · rw [hid_upd]
      exact .one (Dn.mono (Same.to_hid (Same.refl H) hl) hd)
    · rw [hid_upd]
      exact Same.to_hid (Same.refl H) hl
    · simp [fineAll, hf]
    · simp [tmAll]
    · simp [nodesAll]
    rintro m σ H' ⟨xs, ds, pv0, rfl, eL, dA, S, fA, tA, nA, mA⟩
    refine ⟨_, rfl, !xs.isEmpty, Or.inl ⟨xs, SqL.of eL, rfl⟩, ?_⟩
    rcases List.eq_nil_or_concat ds with rfl | ⟨ds, dl, rfl⟩
    · obtain rfl := nil_inv dA
      refine iteF ?_
      have k' := k H' (S.trans hid_sub)
      rw [← tA] at k'
      exact k'
    · rw [List.concat_eq_append] at dA fA tA nA
      obtain ⟨ys, y, rfl, dY, dy⟩ := unsnoc dA
      rw [fineAll_append] at fA
      rw [tmAll_append] at tA
      rw [nodesAll_append] at nA
      have fA : fineAll ds = true ∧ fine dl = true := by simpa [fineAll] using fA
      have tA : (tmAll ds && tm dl) = tm d := by simpa [tmAll] using tA
      have nA : nodesAll ds + nodes dl = m := by simpa [nodesAll] using nA
      have ne : (!(ys ++ [y]).isEmpty) = true := by simp
      rw [ne]
      refine iteT ?_
      refine ⟨fun σ' H2 => ∃ m', m' < m ∧ ∃ xs ds pv, σ' = [some v, some (.ref l), pv] ∧ H2 l = some (.lst xs) ∧ DnAll (hid l H2) xs ds ∧ Same H (hid l H2) ∧ fineAll ds = true ∧ tmAll ds = tm d ∧ nodesAll ds = m' ∧ m' ≤ 1000000, fun σ' H2 z => z, ?_⟩
      refine ⟨_, rfl, Or.inl ⟨rfl, _, SqL.of eL⟩, l, _, y, rfl, rfl, eL, by simp, ?_⟩
      rw [List.dropLast_concat]
      -- behind the pop
      have S1 : Same H (hid l (upd H' l (.lst ys))) := by rw [hid_upd]; exact S
      have e1 : upd H' l (.lst ys) l = some (.lst ys) := upd_same
      have dY1 : DnAll (hid l (upd H' l (.lst ys))) ys ds := by rw [hid_upd]; exact dY
      have dy1 : Dn (hid l (upd H' l (.lst ys))) y dl := by rw [hid_upd]; exact dy
      generalize upd H' l (.lst ys) = H1 at S1 e1 dY1 dy1
      have out : tm dl = false → Q (.bl false) H1 := fun e => by
        have k' := k H1 (S1.trans hid_sub)
        rw [← tA, e, Bool.and_false] at k'
        exact k'
      refine ⟨y, rfl, y, dl, rfl, Dn.mono hid_sub dy1, _, rfl, ?_⟩
      cases hT : isTupD dl with
      | false => exact iteT (out (isTup_false hT))
      | true =>
        obtain ⟨dt, rfl⟩ : ∃ dt, dl = .tuple dt := by cases dl <;> first | exact ⟨_, rfl⟩ | cases hT
        obtain ⟨a, zs, rfl, ha, dz⟩ := tup_inv dy1
        have ha1 : H1 a = some (.tup zs) := hid_sub _ _ ha
        refine iteF ⟨_, rfl, !zs.isEmpty, Or.inr (Or.inl ⟨zs, SqT.of ha1, rfl⟩), ?_⟩
        cases dt with
        | nil =>
          obtain rfl := nil_inv dz
          exact iteT (out (by simp [tm]))
        | cons d0 dr =>
          obtain ⟨z0, zs, rfl, h0, dz1⟩ := cons_inv dz
          refine iteF ⟨_, rfl, a, _, 0, _, rfl, rfl, SqT.of ha1, at_of (j := 0) rfl rfl, z0, d0, rfl, Dn.mono hid_sub h0, _, rfl, ?_⟩
          cases hS : isStrD d0 with
          | false => exact iteT (out (isStr_false hS))
          | true =>
            obtain ⟨wd, rfl⟩ : ∃ wd, d0 = .str wd := by cases d0 <;> first | exact ⟨_, rfl⟩ | cases hS
            obtain rfl := str_inv h0
            have fdr : fineAll dr = true := by
              have := fA.2
              simp only [fine, fineAll, Bool.and_eq_true] at this
              exact this.2
            have ndl : nodes (.tuple (.str wd :: dr)) = nodesAll dr + 2 := by
              simp only [nodes, nodesAll]
              omega
            obtain ⟨r, hr1, hr2⟩ := pn wd
            refine iteF ⟨_, rfl, a, _, 0, _, rfl, rfl, SqT.of ha1, at_of (j := 0) rfl rfl, wd, r, rfl, rfl, hr1, _, rfl, ?_⟩
            cases hp : parts wd with
            | none =>
              rw [hp] at hr2
              obtain rfl : r = none := by
                cases r with
                | none => rfl
                | some u => exact hr2.elim
              refine iteT ⟨_, rfl, .ref a, wd, dr, rfl, Dn.mono hid_sub (.tup ha dz), fdr, fun H2 S2 => ⟨_, rfl, ?_⟩⟩
              have e2 : H2 l = some (.lst ys) := S2 _ _ e1
              have S2' : Same (hid l H1) (hid l H2) := Same.less S2
              cases hL : leafB wd dr with
              | false =>
                refine iteT ?_
                have k' := k H2 ((S1.trans hid_sub).trans S2)
                rw [← tA, tm_leaf hp, hL, Bool.and_false] at k'
                exact k'
              | true =>
                refine iteF ⟨nodesAll ds, by omega, ys, ds, _, rfl, e2, DnAll.mono S2' dY1, S1.trans S2', fA.1, ?_, rfl, by omega⟩
                rw [← tA, tm_leaf hp, hL, Bool.and_true]
            | some n =>
              rw [hp] at hr2
              obtain ⟨u, rfl, ru⟩ : ∃ u, r = some u ∧ RelV (.int (n : Int)) u := by
                cases r with
                | none => exact hr2.elim
                | some u => exact ⟨u, rfl, hr2⟩
              refine iteF ⟨_, rfl, a, _, rfl, Or.inr (SqT.of ha1), ?_⟩
              refine ⟨_, rfl, a, _, 0, _, rfl, rfl, SqT.of ha1, at_of (j := 0) rfl rfl, pa, wd, .int (n : Int), rfl, rfl, ⟨es, en, u, PD.at_, PD.lit, hr1, ru⟩, (n : Int), 1, rfl, rfl, rfl, _, rfl, ?_⟩
              have elen : decide (V.int (((.str wd : V) :: zs).length : Int) = V.int ((n : Int) + 1)) = decide (dr.length = n) := by
                have := dz1.length
                by_cases c : dr.length = n
                · rw [decide_eq_true c]
                  exact decide_eq_true (congrArg V.int (by rw [List.length_cons]; omega))
                · rw [decide_eq_false c]
                  refine decide_eq_false fun e => c ?_
                  have := V.int.inj e
                  rw [List.length_cons] at this
                  omega
              rw [elen]
              cases hl2 : decide (dr.length = n) with
              | false =>
                refine iteT (out ?_)
                rw [tm_parts hp, hl2, Bool.false_and]
              | true =>
                have lenb := len_nodes ds
                have lend := len_nodes dr
                have lz := dz1.length
                have ly := dY1.length
                have cut : cutV (.str wd :: zs) (some 1) none = zs := by
                  unfold cutV
                  rw [HT.sIx_none, show HT.sIx ((.str wd : V) :: zs).length 0 (some 1) = 1 from sIx1 zs.length]
                  rw [List.length_cons]
                  show List.take (zs.length + 1 - 1) zs = zs
                  rw [Nat.add_sub_cancel, List.take_length]
                refine iteF ⟨_, rfl, Or.inl ⟨rfl, _, SqL.of e1⟩, _, rfl, 1, rfl, a, _, rfl, SqT.of ha1, fun z => ?_, fun _ p hp' => ?_⟩
                · have := z.1
                  rw [show HT.sIx ((.str wd : V) :: zs).length 0 (some 1) = 1 from sIx1 zs.length] at this
                  omega
                · rw [cut]
                  have lp : l ≠ p := ne_of_none e1 hp'
                  have e2 : upd H1 p (.tup zs) l = some (.lst ys) := (upd_ne lp).trans e1
                  refine ⟨l, p, ys, zs, rfl, rfl, e2, upd_same, ?_, ?_⟩
                  · rw [ly, lz]
                    exact Nat.le_trans (by omega : ds.length + dr.length ≤ 1000000) (by decide)
                  · have S3 : Same (hid l H1) (hid l (upd (upd H1 p (.tup zs)) l (.lst (ys ++ zs)))) := by
                      rw [hid_upd]
                      exact Same.less (Same.new hp')
                    refine ⟨nodesAll ds + nodesAll dr, by omega, ys ++ zs, ds ++ dr, _, rfl, upd_same, DnAll.mono S3 (dY1.append dz1), S1.trans S3, ?_, ?_, ?_, by omega⟩
                    · rw [fineAll_append, fA.1, fdr]
                      rfl
                    · rw [tmAll_append, ← tA, tm_parts hp, hl2, Bool.true_and]
                    · rw [nodesAll_append]
def spotB : PyData → Bool | .tuple ds => ds.all (cntB 0) | _ => false
theorem _root_.KA.DnAll.at {H : Hp} {xs : List V} {ds : List PyData} {i : Nat} {x : V} (r : DnAll H xs ds) (h : xs[i]? = some x) : ∃ d, ds[i]? = some d ∧ Dn H x d := by
  have lt : i < ds.length := by
    have := (List.getElem?_eq_some_iff.mp h).1
    have := r.length
    omega
  obtain ⟨v, hv, hd⟩ := r.get (List.getElem?_eq_getElem lt)
  rw [h] at hv
  cases hv
  exact ⟨_, List.getElem?_eq_getElem lt, hd⟩
theorem scSpot : FnScope ["thing", "at"] ["thing"] (defScope sSpot) := ⟨rfl, rfl, rfl, by decide +kernel, rfl, by decide +kernel, by decide +kernel⟩
theorem ok_spot {f : Addr} {fd : FuncData} (F : Fun K "is_spot" "is_spot" sSpot f fd) (T : Txt K w mg) (C0 : C8.Cal P w K mg base 1 "is_count" spCount [.int 0]) : FnOk P w K mg base CX0 2 f fd ["thing"] (sp1 okT spotB) := by
  refine F.ok scSpot (fun vs H Q E h => ?_) (fun cdv A outer s H vs Q E hr h => ?_)
  · obtain ⟨v, d, rfl, _⟩ := h
    rfl
  · obtain ⟨v, d, rfl, hd, ⟨hf, hn⟩, k⟩ := h
    refine ⟨_, pss_one (ps_ret (pe_and (pe_isD is_tup (pv 0) T.isi T.tuple (by decide +kernel)) (pe_one (pe_callB (cr_all rfl) (by rfl) T.all (by decide +kernel) (pa_cons (pe_lc (own := [("at", 1)]) (g := gName 1) (tt := tYes) rfl scSpot.nd (pi_tup (pv 0)) (blkOk_by (N := ["thing", "at"]) (sc := defScope sSpot) (by decide +kernel))
          (fun _ _ _ _ _ => pg_name (i := 1) scSpot.nd rfl (Or.inl rfl)) (fun _ _ _ _ _ => pts_nil) (fun _ _ _ _ _ => C8.pe_c C0 hr (by decide) rfl (pa_cons (pv 1) pa_nil))) pa_nil))))), ?_⟩
    have k0 := k H (Same.refl H)
    refine ⟨v, rfl, v, d, rfl, hd, _, rfl, ?_⟩
    cases hd with
    | @tup a xs ds ha hx =>
      have lx := hx.length
      have ln : ds.length ≤ 1000000 := by
        have := len_nodes ds
        simp only [nodes] at hn
        omega
      refine iteT ⟨.ref a, rfl, a, rfl, ⟨xs, SqT.of ha⟩, fun D hD => lc_tup (K := K) (a := a) (xs := xs) (fun i H' => H' D = some (.lst ((ds.take i).map fun d => V.bl (cntB 0 d))) ∧ Same H H') ⟨upd_same, Same.new hD⟩ (fun i H' _ p => SqT.of (p.2 _ _ ha)) ?_ ?_⟩
      · rintro i x H' hi ⟨hl, S⟩
        obtain ⟨d, hd, dx⟩ := hx.at hi
        refine ⟨rfl, yes (iteT ?_)⟩
        refine ⟨x, rfl, x, d, 0, rfl, Dn.mono S dx, fun H2 S2 => ⟨_, S2 _ _ hl, ?_, ?_, Same.mut (S.trans S2) hD⟩⟩
        · rw [List.length_map, List.length_take]
          exact Nat.lt_of_le_of_lt (Nat.le_trans (Nat.min_le_right _ _) ln) (by decide)
        · rw [upd_same, take_snoc hd, List.map_append]
          rfl
      · rintro H' ⟨hl, S⟩
        refine ⟨D, ds.map (cntB 0), rfl, Or.inl (Or.inl ?_), ?_⟩
        · rw [hl, List.take_of_length_le (by omega), List.map_map]
          rfl
        · have e2 : (ds.map (cntB 0)).all id = spotB (.tuple ds) := by
            rw [List.all_map]
            rfl
          rw [e2]
          exact k H' S
    | int i => exact iteF k0
    | bl b => exact iteF k0
    | non => exact iteF k0
    | str x => exact iteF k0
    | lst _ _ => exact iteF k0
    | dic _ _ _ => exact iteF k0
end
end KP
set_option Elab.async false
set_option linter.unusedVariables false
set_option linter.unusedSectionVars false
set_option maxRecDepth 100000
set_option maxHeartbeats 1000000
/-! The law's own defs: the purse and what is drawn from it. -/
namespace KP
open PySem PySem.Spec PyProof.Rows L2 KA
abbrev sCell : Stmt := top 47
abbrev sPurse : Stmt := top 48
abbrev sTake : Stmt := top 49
abbrev sForms : Stmt := top 50
abbrev sWord : Stmt := top 51
abbrev sTm : Stmt := top 52
abbrev sAny : Stmt := top 53
abbrev sLaw : Stmt := top 57

/-- a purse at p, from which at most n were mixed -/
def Purse (H : Hp) (p : Addr) (n : Nat) : Prop := ∃ a b c : Int, H p = some (.lst [.int a, .int b, .int c]) ∧ 0 ≤ a ∧ 0 ≤ b ∧ b < 2147483629 ∧ 0 ≤ c ∧ c ≤ (n : Int)
theorem Purse.more {H : Hp} {p : Addr} {n m : Nat} (h : Purse H p n) (l : n ≤ m) : Purse H p m := by
  obtain ⟨a, b, c, e, h1, h2, h3, h4, h5⟩ := h
  exact ⟨a, b, c, e, h1, h2, h3, h4, by omega⟩
theorem Purse.mono {H H' : Hp} {p : Addr} {n : Nat} (h : Purse H p n) (S : Same H H') : Purse H' p n := by
  obtain ⟨a, b, c, e, r⟩ := h
  exact ⟨a, b, c, S _ _ e, r⟩
def maxN : Nat := 1000000000

def spCell (K : PySem.W.Frag) : Sp := fun vs H Q _ => ∃ (a : Addr) (ns : List Int) (j : Nat), vs = [.ref a, .int (j : Int)] ∧ SqL K H a (ns.map V.int) ∧ ∀ z, Q (.int z) H
def spPurse : Sp := fun vs H Q _ => ∃ z, vs = [.int z] ∧ ∀ p H', H p = none → Same H H' → Purse H' p 0 → Q (.ref p) H'
def spTake : Sp := fun vs H Q _ => ∃ (p : Addr) (n : Nat) (m : Int), vs = [.ref p, .int m] ∧ Purse H p n ∧ n ≤ maxN ∧ 0 < m ∧ m < 1073741824 ∧ ∀ r H', 0 ≤ r → r < m → Purse H' p (n + 1) → Same (hid p H) (hid p H') → Q (.int r) H'
section
variable {P : Program} {w : World} {K : PySem.W.Frag} {mg : Str → Option Value} {base : Heap}
theorem scCell : FnScope ["_law_script", "_law_k"] ["_law_script", "_law_k"] (defScope sCell) := ⟨rfl, rfl, rfl, by decide +kernel, rfl, by decide +kernel, by decide +kernel⟩
theorem ok_cell {f : Addr} {fd : FuncData} (F : Fun K "_law_cell" "_law_cell" sCell f fd) (T : Txt K w mg) : FnOk P w K mg base CX0 1 f fd ["_law_script", "_law_k"] (spCell K) := by
  refine F.ok scCell (fun vs H Q E h => ?_) (fun cdv A outer s H vs Q E hr h => ?_)
  · obtain ⟨a, ns, j, rfl, _⟩ := h
    rfl
  · obtain ⟨a, ns, j, rfl, hS, k⟩ := h
    refine ⟨_, pss_cons (ps_if (pt_cmpR op_lt (pv 1) (pe_callB call_len_seq (by rfl) T.len PySem.boot_len (pa_cons (pv 0) pa_nil)) (nomark _)) (pss_one (ps_ret (pe_ix ix_list (pv 0) (pv 1) (fun _ _ => rfl)))) pss_nil)
      (pss_one (ps_ret (pe_op op_add (pe_op op_mul pe_int (pv 1)) pe_int))), ?_⟩
    refine ⟨_, rfl, _, rfl, a, _, rfl, Or.inl hS, _, _, rfl, rfl, _, rfl, ?_⟩
    refine ite2 (fun h => ?_) (fun h => ?_)
    · have lt := of_decide_eq_true h
      rw [List.length_map] at lt
      have lt : j < ns.length := by omega
      refine ⟨_, rfl, _, rfl, a, _, _, _, rfl, rfl, hS, at_of (j := j) rfl (by rw [List.getElem?_map, List.getElem?_eq_getElem lt]; rfl), k _⟩
    · exact ⟨_, rfl, _, _, rfl, rfl, Or.inl ⟨by decide, by decide⟩, _, _, rfl, rfl, k _⟩
theorem scPurse : FnScope ["_law_cell_here"] ["_law_cell_here"] (defScope sPurse) := ⟨rfl, rfl, rfl, by decide +kernel, rfl, by decide +kernel, by decide +kernel⟩
theorem ok_purse {f : Addr} {fd : FuncData} (F : Fun K "_law_purse" "_law_purse" sPurse f fd) (T : Txt K w mg) : FnOk P w K mg base CX0 1 f fd ["_law_cell_here"] spPurse := by
  refine F.ok scPurse (fun vs H Q E h => ?_) (fun cdv A outer s H vs Q E hr h => ?_)
  · obtain ⟨z, rfl, _⟩ := h
    rfl
  · obtain ⟨z, rfl, k⟩ := h
    refine ⟨_, pss_one (ps_ret (pe_lst (pa_cons (pe_callB (call_max2 rfl) (by rfl) T.max (by decide +kernel) (pa_cons pe_int (pa_cons (pe_op op_sub (pv 0) (pe_op op_pow pe_int pe_int)) pa_nil)))
      (pa_cons (pe_op op_mod (pv 0) pe_int) (pa_cons pe_int pa_nil))))), ?_⟩
    refine ⟨_, rfl, 10, 18, rfl, rfl, ⟨by decide, by decide, by decide⟩, _, _, rfl, rfl, 0, _, rfl, _, rfl, z, 2147483629, rfl, rfl, (by show (0 : Int) < 2147483629; decide), (by show 3 ≤ sizeLine; decide), fun p hp => ?_⟩
    refine k p _ hp (Same.new hp) ⟨_, _, 0, upd_same, ?_, Int.emod_nonneg _ (by decide), Int.emod_lt_of_pos _ (by decide), Int.le_refl _, Int.le_refl _⟩
    split <;> omega
theorem scTake : FnScope ["_law_purse_here", "_law_many", "_law_digit", "_law_one", "_law_other"] ["_law_purse_here", "_law_many"] (defScope sTake) := ⟨rfl, rfl, rfl, by decide +kernel, rfl, by decide +kernel, by decide +kernel⟩
theorem ok_take {f : Addr} {fd : FuncData} (F : Fun K "_law_take" "_law_take" sTake f fd) (T : Txt K w mg) : FnOk P w K mg base CX0 1 f fd ["_law_purse_here", "_law_many"] spTake := by
  refine F.ok scTake (fun vs H Q E h => ?_) (fun cdv A outer s H vs Q E hr h => ?_)
  · obtain ⟨p, n, m, rfl, _⟩ := h
    rfl
  · obtain ⟨p, n, m, rfl, ⟨a, b, c, e, ha, hb, hb2, hc, hc2⟩, hn, hm, hm2, k⟩ := h
    refine ⟨_, pss_cons (ps_if (pt_cmpR op_gt (pe_ix ix_list (pv 0) pe_int (fun _ _ => rfl)) pe_int (nomark _))
        (pss_cons (ps_set (i := 2) scTake.nd rfl (Or.inl rfl) (pe_op op_mod (pe_ix ix_list (pv 0) pe_int (fun _ _ => rfl)) (pv 1)))
        (pss_cons (ps_asg (pe_op op_fdiv (pe_ix ix_list (pv 0) pe_int (fun _ _ => rfl)) (pv 1)) (pg_sub (pv 0) pe_int set_list))
        (pss_one (ps_ret (pv 2))))) pss_nil)
      (pss_cons (ps_asg (pe_op op_add (pe_ix ix_list (pv 0) pe_int (fun _ _ => rfl)) pe_int) (pg_sub (pv 0) pe_int set_list))
      (pss_cons (ps_set (i := 3) scTake.nd rfl (Or.inl rfl) (pe_op op_mod (pe_op op_pow (pe_op op_add (pe_op op_add (pe_ix ix_list (pv 0) pe_int (fun _ _ => rfl)) (pe_op op_mul pe_int (pe_ix ix_list (pv 0) pe_int (fun _ _ => rfl)))) pe_int) pe_int) pe_int))
      (pss_cons (ps_set (i := 4) scTake.nd rfl (Or.inl rfl) (pe_op op_mod (pe_op op_pow (pe_op op_add (pe_op op_mul (pe_ix ix_list (pv 0) pe_int (fun _ _ => rfl)) (pe_ix ix_list (pv 0) pe_int (fun _ _ => rfl))) pe_int) pe_int) pe_int))
      (pss_one (ps_ret (pe_op op_mod (pe_op op_fdiv (pe_op op_add (pe_op op_mul (pv 3) pe_int) (pv 4)) pe_int) (pv 1))))))), ?_⟩
    have sL : ∀ {H' : Hp} {xs : List V}, H' p = some (.lst xs) → SqL K H' p xs := fun h => SqL.of h
    refine ⟨_, rfl, p, _, 0, _, rfl, rfl, sL e, at_of (j := 0) rfl rfl, _, _, rfl, rfl, _, rfl, ?_⟩
    refine ite2 (fun h => ?_) (fun h => ?_)
    · have pos : 0 < a := of_decide_eq_true h
      refine ⟨_, rfl, p, _, 0, _, rfl, rfl, sL e, at_of (j := 0) rfl rfl, _, rfl, a, m, rfl, rfl, hm, ?_⟩
      refine ⟨_, rfl, p, _, 0, _, rfl, rfl, sL e, at_of (j := 0) rfl rfl, _, rfl, a, m, rfl, rfl, ⟨hm, hm2⟩, ?_⟩
      refine ⟨_, rfl, p, _, 0, 0, rfl, rfl, e, rfl, ?_⟩
      refine ⟨_, rfl, ?_⟩
      refine k _ _ (Int.emod_nonneg _ (by omega)) (Int.emod_lt_of_pos _ hm) ⟨a / m, b, c, upd_same, Int.ediv_nonneg ha (by omega), hb, hb2, hc, by omega⟩ ?_
      rw [hid_upd]
      exact Same.refl _
    · have e1 : upd H p (.lst [.int a, .int b, .int (c + 1)]) p = some (.lst [.int a, .int b, .int (c + 1)]) := upd_same
      have S1 : Same (hid p H) (hid p (upd H p (.lst [.int a, .int b, .int (c + 1)]))) := by rw [hid_upd]; exact Same.refl _
      refine ⟨_, rfl, p, _, 2, _, rfl, rfl, sL e, at_of (j := 2) rfl rfl, c, 1, rfl, rfl, ?_⟩
      refine ⟨_, rfl, p, _, 2, 2, rfl, rfl, e, rfl, ?_⟩
      have hcN : c + 1 ≤ 1000000001 := by
        unfold maxN at hn
        omega
      have m0 : 0 ≤ b * (c + 1) := Int.mul_nonneg hb (by omega)
      have m1 : b * (c + 1) ≤ 2147483629 * 1000000001 := Int.mul_le_mul (by omega) (by omega) (by omega) (by omega)
      have q1 : (b + 6113 * (c + 1) + 31).natAbs < 2 ^ 64 := by omega
      have q2 : (b * (c + 1) + 89753).natAbs < 2 ^ 64 := by
        generalize b * (c + 1) = t at m0 m1
        omega
      refine ⟨_, rfl, p, _, 1, _, rfl, rfl, sL e1, at_of (j := 1) rfl rfl, _, rfl, p, _, 2, _, rfl, rfl, sL e1, at_of (j := 2) rfl rfl, 6113, c + 1, rfl, rfl, Or.inl ⟨by decide, by decide⟩, b, _, rfl, rfl, _, _, rfl, rfl, _, 5, rfl, rfl, ⟨by decide, by decide, q1⟩, _, _, rfl, rfl, (by show (0 : Int) < 2147483647; decide), ?_⟩
      refine ⟨_, rfl, p, _, 1, _, rfl, rfl, sL e1, at_of (j := 1) rfl rfl, _, rfl, p, _, 2, _, rfl, rfl, sL e1, at_of (j := 2) rfl rfl, b, c + 1, rfl, rfl, Or.inl ⟨by omega, by omega⟩, _, _, rfl, rfl, _, 3, rfl, rfl, ⟨by decide, by decide, q2⟩, _, _, rfl, rfl, (by show (0 : Int) < 2147483587; decide), ?_⟩
      refine ⟨_, rfl, _, _, rfl, rfl, Or.inr ⟨by decide, by decide⟩, _, rfl, _, _, rfl, rfl, _, 8, rfl, rfl, ⟨by decide, by decide⟩, _, rfl, _, m, rfl, rfl, hm, ?_⟩
      exact k _ _ (Int.emod_nonneg _ (by omega)) (Int.emod_lt_of_pos _ hm) ⟨a, b, c + 1, e1, ha, hb, hb2, by omega, by omega⟩ S1
end
end KP
set_option Elab.async false
set_option linter.unusedVariables false
set_option linter.unusedSectionVars false
set_option maxRecDepth 100000
set_option maxHeartbeats 1000000
namespace KP
open PySem PySem.Spec PyProof.Rows L2 KA
/-! ### what stands behind each word -/
def formsA : List (Key × V) := [(.inr "at", .str "n"), (.inr "kind", .str "h"), (.inr "all", .str "tt"), (.inr "fun", .str "tt"), (.inr "app", .str "tt"), (.inr "name", .str "w"), (.inr "thing", .str "w"), (.inr "maker", .str "wn")]
def formsB : List (Key × V) := [(.inr "eater", .str "wh"), (.inr "same", .str "ttt"), (.inr "self", .str "tt"), (.inr "put", .str "ttt")]
def formsK : List (Key × V) := formsA ++ formsB
theorem formsA_eq : mergeK [] formsA = formsA := by decide +kernel
theorem formsB_eq : mergeK [] formsB = formsB := by decide +kernel
theorem formsK_eq : mergeK [] (formsA ++ formsB) = formsK := by decide +kernel
theorem paired_append {α β : Type} {F : α → β → Prop} : ∀ {xs zs : List α} {ys ws : List β}, Paired F xs ys → Paired F zs ws → Paired F (xs ++ zs) (ys ++ ws)
  | _, _, _, _, .nil, s => s
  | _, _, _, _, .cons r t, s => .cons r (paired_append t s)
theorem paired_map {α β : Type} {F G : α → β → Prop} (f : ∀ a b, F a b → G a b) : ∀ {xs : List α} {ys : List β}, Paired F xs ys → Paired G xs ys
  | _, _, .nil => .nil
  | _, _, .cons r t => .cons (f _ _ r) (paired_map f t)
def spForms : Sp := fun vs H Q _ => vs = [] ∧ ∀ p H', H p = none → Same H H' → H' p = some (.dK formsK) → Q (.ref p) H'
section
variable {X : Cx} {k j : Nat} {x : Str} {sp : Sp} {dvs : List V} {p pos : Pos}
theorem pe_c0 (c : C8.Cal X.prog X.w X.K X.mg X.base k x sp dvs) (hr : Room j X.A) (hk : k ≤ j) (hg : Gl X x) (hdb : (x == ("__debug__" : Str)) = false := by decide) : PE X (.Call (.Name x p) [] [] pos) (tCall sp dvs C8.E0 tNil) := by
  obtain ⟨f, fd, ps, ds, F, hm, kp, b, d⟩ := c.ex
  exact pe_call0 F (hr.mono hk) hg hm kp b d pass0 hdb
end
section
variable {P : Program} {w : World} {K : PySem.W.Frag} {mg : Str → Option Value} {base : Heap}
theorem scForms : FnScope ["_law_forms_here", "_law_more"] [] (defScope sForms) := ⟨rfl, rfl, rfl, by decide +kernel, rfl, by decide +kernel, by decide +kernel⟩
theorem ok_forms {f : Addr} {fd : FuncData} (F : Fun K "_law_forms" "_law_forms" sForms f fd) (T : Txt K w mg) : FnOk P w K mg base CX0 1 f fd [] spForms := by
  refine F.ok scForms (fun vs H Q E h => ?_) (fun cdv A outer s H vs Q E hr h => ?_)
  · obtain ⟨rfl, _⟩ := h
    rfl
  · obtain ⟨rfl, k⟩ := h
    refine ⟨_, pss_cons (ps_set (i := 0) scForms.nd rfl (Or.inl rfl) (pe_disp (pps_cons pe_str pe_str (pps_cons pe_str pe_str (pps_cons pe_str pe_str (pps_cons pe_str pe_str (pps_cons pe_str pe_str (pps_cons pe_str pe_str (pps_cons pe_str pe_str (pps_cons pe_str pe_str pps_nil)))))))) (by rfl) (by rfl) (fun z => by cases z) (by decide)))
      (pss_cons (ps_set (i := 1) scForms.nd rfl (Or.inl rfl) (pe_disp (pps_cons pe_str pe_str (pps_cons pe_str pe_str (pps_cons pe_str pe_str (pps_cons pe_str pe_str pps_nil)))) (by rfl) (by rfl) (fun z => by cases z) (by decide)))
      (pss_one (ps_ret (pe_callTy (call_dictP rfl) (by rfl) T.dict (by decide +kernel) (pa_cons (pe_op op_cat (LiI.pe_listItems rfl (pv 0) (by rfl) T.list (by decide +kernel)) (LiI.pe_listItems rfl (pv 1) (by rfl) T.list (by decide +kernel))) pa_nil))))), ?_⟩
    refine fun a ha => ⟨upd_same, formsA, rfl, by decide, ?_⟩
    rw [formsA_eq, upd_upd]
    have S1 : Same H (upd H a (.dK formsA)) := Same.new ha
    refine fun b hb => ⟨upd_same, formsB, rfl, by decide, ?_⟩
    rw [formsB_eq, upd_upd]
    have S2 : Same (upd H a (.dK formsA)) (upd (upd H a (.dK formsA)) b (.dK formsB)) := Same.new hb
    have ea : upd (upd H a (.dK formsA)) b (.dK formsB) a = some (.dK formsA) := S2 _ _ upd_same
    have eb : upd (upd H a (.dK formsA)) b (.dK formsB) b = some (.dK formsB) := upd_same
    have S12 := S1.trans S2
    generalize upd (upd H a (.dK formsA)) b (.dK formsB) = H2 at ea eb S12
    refine ⟨_, rfl, a, formsA, rfl, ea, fun H3 p3 ts3 S3 n3 m3 o3 e3 r3 => ?_⟩
    refine ⟨_, rfl, b, formsB, rfl, S3 _ _ eb, fun H4 p4 ts4 S4 n4 m4 o4 e4 r4 => ?_⟩
    refine ⟨p3, p4, _, _, rfl, rfl, S4 _ _ e3, e4, ?_, fun q hq => ?_⟩
    · rw [List.length_map, List.length_map, Paired.length r3, Paired.length r4]
      decide
    have S5 : Same H4 (upd H4 q (.lst (ts3.map V.ref ++ ts4.map V.ref))) := Same.new hq
    refine ⟨q, ts3 ++ ts4, formsA ++ formsB, rfl, ?_, ?_, fun z hz => ?_⟩
    · rw [List.map_append]
      exact SqL.of upd_same
    · exact paired_append (paired_map (fun t kv e => SqT.of (S5 _ _ (S4 _ _ e))) r3) (paired_map (fun t kv e => SqT.of (S5 _ _ e)) r4)
    · rw [formsK_eq]
      have S15 := ((S12.trans S3).trans S4).trans S5
      exact k z _ (S15.free hz) (S15.trans (Same.new hz)) upd_same
end
end KP
set_option Elab.async false
set_option linter.unusedVariables false
set_option linter.unusedSectionVars false
set_option maxRecDepth 100000
set_option maxHeartbeats 1000000
namespace KP
open PySem PySem.Spec PyProof.Rows L2 KA
/-! ### a name drawn -/
theorem fold_codes (cs : List Nat) : ∀ acc : Array Nat, (((cs.map fun c => (⟨#[c]⟩ : Str)).foldl (fun acc p => acc ++ (Str.ofString "").cps ++ p.cps) acc)).toList = acc.toList ++ cs := by
  have e0 : (Str.ofString "").cps = #[] := by decide +kernel
  rw [e0]
  induction cs with
  | nil => intro acc; simp
  | cons c cs ih =>
    intro acc
    rw [List.map_cons, List.foldl_cons, ih]
    simp
theorem join_codes (cs : List Nat) : (Txt.join (Str.ofString "") (cs.map fun c => (⟨#[c]⟩ : Str))).cps.toList = cs := by
  cases cs with
  | nil => decide +kernel
  | cons c cs =>
    show (((cs.map fun c => (⟨#[c]⟩ : Str)).foldl (fun acc p => acc ++ (Str.ofString "").cps ++ p.cps) (#[c] : Array Nat))).toList = c :: cs
    rw [fold_codes]
    rfl
theorem sum_ones (cs : List Nat) : ((cs.map fun c => (⟨#[c]⟩ : Str)).map (·.length)).sum = cs.length := by
  induction cs with
  | nil => rfl
  | cons c cs ih =>
    rw [List.map_cons, List.map_cons, List.sum_cons, ih, List.length_cons]
    show 1 + cs.length = cs.length + 1
    omega
theorem letter_at {r : Int} (h0 : 0 ≤ r) (h1 : r < 26) : ∃ c, atI letters.cps.toList r = some c ∧ letterB c = true := by
  obtain ⟨j, rfl⟩ : ∃ j : Nat, r = (j : Int) := ⟨r.toNat, by omega⟩
  have len : letters.cps.toList.length = 26 := by decide +kernel
  have lt : j < letters.cps.toList.length := by rw [len]; omega
  refine ⟨letters.cps.toList[j], atI_nat (List.getElem?_eq_getElem lt), ?_⟩
  rw [← in_letters]
  exact decide_eq_true (List.getElem_mem lt)
theorem inV_no (x : Str) : inV (.str x) [.str "all", .str "fun", .str "same", .str "self", .str "put"] = noNames.any fun y => y == x := rfl
theorem Same.hidMut {p D : Addr} {G H : Hp} {o : HO} (h : Same G (hid p H)) (n : G D = none) : Same G (hid p (upd H D o)) := fun b u e => by
  have e' := h b u e
  obtain ⟨n1, e2⟩ := hid_some e'
  rw [hid_ne n1, upd_ne (ne_of_none e n)]
  exact e2
theorem hid_none {p D : Addr} {H : Hp} (h : H D = none) : hid p H D = none := by
  by_cases e : D = p
  · rw [e, hid_at]
  · rw [hid_ne e, h]
theorem q_ok : ∀ y ∈ noNames, nameX ((("q" : Str)) ++ y) = true := by decide +kernel
theorem q_len : ∀ y ∈ noNames, ("q" : Str).length + y.length ≤ 8 := by decide +kernel
def spWord : Sp := fun vs H Q _ => ∃ (p : Addr) (n : Nat), vs = [.ref p] ∧ Purse H p n ∧ n + 10 ≤ maxN ∧ ∀ x H', nameX x = true → Purse H' p (n + 10) → Same (hid p H) (hid p H') → Q (.str x) H'
section
variable {P : Program} {w : World} {K : PySem.W.Frag} {mg : Str → Option Value} {base : Heap}
theorem scWord : FnScope ["_law_purse_here", "_law_letters", "_law_word_here", "_law_k"] ["_law_purse_here"] (defScope sWord) := ⟨rfl, rfl, rfl, by decide +kernel, rfl, by decide +kernel, by decide +kernel⟩
theorem ok_word {f : Addr} {fd : FuncData} (F : Fun K "_law_word" "_law_word" sWord f fd) (T : Txt K w mg) (CT : C8.Cal P w K mg base 1 "_law_take" spTake []) : FnOk P w K mg base CX0 2 f fd ["_law_purse_here"] spWord := by
  refine F.ok scWord (fun vs H Q E h => ?_) (fun cdv A outer s H vs Q E hr h => ?_)
  · obtain ⟨p, n, rfl, _⟩ := h
    rfl
  · obtain ⟨p, n, rfl, hp, hn, k⟩ := h
    refine ⟨_, pss_cons (ps_set (i := 1) scWord.nd rfl (Or.inr rfl) pe_str)
      (pss_cons (ps_set (i := 2) scWord.nd rfl (Or.inl rfl) (pe_join pe_str (pe_lc (own := [("_law_k", 3)]) (g := gName 3) (tt := tYes) rfl scWord.nd
          (pi_range1 (by rfl) T.range (pa_cons (pe_op op_add pe_int (C8.pe_c CT hr (by decide) rfl (pa_cons (pv 0) (pa_cons pe_int pa_nil)))) pa_nil))
          (blkOk_by (N := ["_law_purse_here", "_law_letters", "_law_word_here", "_law_k"]) (sc := defScope sWord) (by decide +kernel))
          (fun _ _ _ _ _ => pg_name (i := 3) scWord.nd rfl (Or.inl rfl)) (fun _ _ _ _ _ => pts_nil) (fun _ _ _ _ _ => pe_ix ix_str (pv 1) (C8.pe_c CT hr (by decide) rfl (pa_cons (pv 0) (pa_cons pe_int pa_nil))) (fun _ _ => rfl)))))
      (pss_one (ps_ret (pe_ifExp (pt_cmpR op_in_seq (pv 2) (pe_tup (pa_cons pe_str (pa_cons pe_str (pa_cons pe_str (pa_cons pe_str (pa_cons pe_str pa_nil)))))) rfl) (pe_op op_add_str pe_str (pv 2)) (pv 2))))), ?_⟩
    refine ⟨⟨_, rfl⟩, .ref p, rfl, p, n, 8, rfl, hp, by omega, by decide, by decide, fun r H1 r0 r1 p1 S1 => ?_⟩
    refine ⟨1, r, rfl, rfl, 1 + r, rfl, by omega, by omega, fun D hD => ?_⟩
    have pD : p ≠ D := by
      obtain ⟨_, _, _, e, _⟩ := p1
      exact ne_of_none e hD
    refine lc_range (lo := 0) (n := (1 + r).toNat) (fun i H' => ∃ cs : List Nat, H' D = some (.lst (cs.map fun c => V.str ⟨#[c]⟩)) ∧ cs.length = i ∧ cs.all letterB = true ∧ Purse H' p (n + 1 + i) ∧ Same (hid p H1) (hid p H')) ?_ ?_ ?_
    · refine ⟨[], upd_same, rfl, rfl, p1.mono (Same.new hD), Same.less (Same.new hD)⟩
    · rintro i H' hi ⟨cs, eD, el, eA, pp, S⟩
      refine ⟨rfl, yes (iteT ?_)⟩
      refine ⟨.str letters, rfl, .ref p, rfl, p, n + 1 + i, 26, rfl, pp, by omega, by decide, by decide, fun t H2 t0 t1 p2 S2 => ?_⟩
      obtain ⟨c, hc, lc⟩ := letter_at t0 t1
      refine ⟨letters, t, c, rfl, rfl, by decide +kernel, hc, cs.map fun c => V.str ⟨#[c]⟩, ?_, ?_, cs ++ [c], ?_, ?_, ?_, ?_, ?_⟩
      · exact hid_sub _ _ (S2 _ _ (by rw [hid_ne pD.symm]; exact eD))
      · rw [List.length_map, el]
        exact Nat.lt_of_lt_of_le hi (Nat.le_trans (by omega : (1 + r).toNat ≤ 8) (by decide))
      · rw [upd_same, List.map_append]
        rfl
      · rw [List.length_append, el]
        rfl
      · rw [List.all_append, eA]
        simp [lc]
      · obtain ⟨a, b, c', e, q⟩ := p2
        refine ⟨a, b, c', by rw [upd_ne pD]; exact e, ?_⟩
        have : ((n + 1 + i + 1 : Nat) : Int) = ((n + 1 + (i + 1) : Nat) : Int) := by omega
        rw [← this]
        exact q
      · exact Same.hidMut (S.trans S2) (hid_none hD)
    · rintro H' ⟨cs, eD, el, eA, pp, S⟩
      refine ⟨Str.ofString "", D, cs.map fun c => ⟨#[c]⟩, rfl, rfl, Or.inl ?_, ?_, ?_⟩
      · rw [List.map_map]
        exact SqL.of eD
      · rw [sum_ones, List.length_map]
        have : (Str.ofString "").length = 0 := by decide +kernel
        rw [this]
        omega
      · have S0 : Same (hid p H) (hid p H') := S1.trans S
        have el : cs.length = (1 + r).toNat := el
        have codes := join_codes cs
        have len : (Txt.join (Str.ofString "") (cs.map fun c => (⟨#[c]⟩ : Str))).length = cs.length := by
          show (Txt.join (Str.ofString "") (cs.map fun c => (⟨#[c]⟩ : Str))).cps.size = cs.length
          rw [← Array.length_toList, codes]
        generalize Txt.join (Str.ofString "") (cs.map fun c => (⟨#[c]⟩ : Str)) = x at codes len
        have pn : Purse H' p (n + 10) := pp.more (by omega)
        refine ⟨_, rfl, (by show 5 ≤ sizeLine; decide), fun q hq => ⟨q, _, rfl, Or.inr (SqT.of upd_same), rfl, rfl, _, rfl, ?_⟩⟩
        have S3 : Same (hid p H) (hid p (upd H' q (.tup [.str "all", .str "fun", .str "same", .str "self", .str "put"]))) := S0.trans (Same.less (Same.new hq))
        have p3 : Purse (upd H' q (.tup [.str "all", .str "fun", .str "same", .str "self", .str "put"])) p (n + 10) := pn.mono (Same.new hq)
        refine ite2 (fun c => ?_) (fun c => ?_)
        · have c : (noNames.any fun y => y == x) = true := c
          obtain ⟨y, hy, ey⟩ := List.any_eq_true.mp c
          obtain rfl : y = x := eq_of_beq ey
          exact ⟨_, rfl, "q", y, rfl, rfl, Nat.le_trans (q_len y hy) (by decide), k _ _ (q_ok y hy) p3 S3⟩
        · have c : ¬ (noNames.any fun y => y == x) = true := c
          have c : (noNames.any fun y => y == x) = false := Bool.eq_false_iff.mpr c
          refine ⟨_, rfl, k x _ ?_ p3 S3⟩
          unfold nameX
          rw [c, codes, eA, len, el]
          rw [decide_eq_true (by omega : 1 ≤ (1 + r).toNat), decide_eq_true (by omega : (1 + r).toNat ≤ 8)]
          rfl
end
end KP
set_option Elab.async false
set_option linter.unusedVariables false
set_option linter.unusedSectionVars false
set_option maxRecDepth 100000
set_option maxHeartbeats 1000000
namespace KP
open PySem PySem.Spec PyProof.Rows L2 KA
/-! ### how large data is when it is shown -/
mutual
def wt : PyData → Nat
  | .int _ => 40
  | .str _ => 220
  | .list ds => wtAll ds + 4
  | .tuple ds => wtAll ds + 4
  | .dict kvs => wtKv kvs + 4
  | _ => 5
def wtAll : List PyData → Nat
  | [] => 0
  | d :: ds => wt d + 2 + wtAll ds
def wtKv : List (PyData × PyData) → Nat
  | [] => 0
  | (k, v) :: r => wt k + wt v + 4 + wtKv r
end
theorem join_len (ts : List Str) : (Str.join ", " ts).length ≤ (ts.map (·.length)).sum + 2 * ts.length := by
  rw [← StrLaws.glued_eq_join, size_glued]
  have e : (Str.ofString ", ").length = 2 := by decide +kernel
  rw [e]
  omega
theorem len_app (x y : Str) : (x ++ y).length = x.length + y.length := by
  show (x.cps ++ y.cps).size = _
  exact Array.size_append
theorem int_len {i : Int} (h : -(10 ^ 31) ≤ i ∧ i ≤ 10 ^ 31) : (Str.ofString (toString i)).length ≤ 40 := by
  have b : i.natAbs < 10 ^ 32 := by omega
  have l := int_text_length_le10 (k := 32) (by decide) b
  rw [PySem.ofString_length]
  omega
theorem log2_small {i : Int} (h : -(10 ^ 31) ≤ i ∧ i ≤ 10 ^ 31) : i.natAbs.log2 < 1920 := by
  by_cases h0 : i.natAbs = 0
  · rw [h0]
    decide
  · rw [Nat.log2_lt h0]
    exact Nat.lt_of_lt_of_le (by omega : i.natAbs < 2 ^ 110) (Nat.pow_le_pow_right (by decide) (by decide))
mutual
theorem shown_le : ∀ d : PyData, fine d = true → d.shown.length ≤ wt d ∧ d.showable = true
  | .none, _ => by
    rw [PyData.shown_none]
    exact ⟨by decide +kernel, rfl⟩
  | .bool b, _ => by
    rw [PyData.shown_bool]
    exact ⟨by cases b <;> decide +kernel, rfl⟩
  | .int i, h => by
    have h' : -(10 ^ 31) ≤ i ∧ i ≤ 10 ^ 31 := by simpa [fine] using h
    rw [PyData.shown_int]
    exact ⟨int_len h', by simpa [PyData.showable] using log2_small h'⟩
  | .str x, h => by
    have h' : x.length ≤ 20 ∧ ∀ c ∈ x.cps.toList, c < 128 := by simpa only [fine, Bool.and_eq_true, decide_eq_true_eq, List.all_eq_true] using h
    rw [PyData.shown_str]
    have := StrLaws.reprText_len x fun c hc => Nat.lt_of_lt_of_le (h'.2 c hc) (by decide)
    have e : wt (.str x) = 220 := rfl
    exact ⟨by omega, rfl⟩
  | .list ds, h => by
    have h' : fineAll ds = true := by simpa only [fine] using h
    obtain ⟨h1, h2⟩ := shownAll_le ds h'
    rw [PyData.shown_list, len_app, len_app]
    have j := join_len (PyData.shownAll ds)
    rw [PyData.shownAll_length] at j
    have e1 : (Str.ofString "[").length = 1 := by decide +kernel
    have e2 : (Str.ofString "]").length = 1 := by decide +kernel
    rw [e1, e2]
    exact ⟨by simp only [wt]; omega, by simpa only [PyData.showable] using h2⟩
  | .tuple ds, h => by
    have h' : fineAll ds = true := by simpa only [fine] using h
    obtain ⟨h1, h2⟩ := shownAll_le ds h'
    rw [PyData.shown_tuple, len_app, len_app]
    have j := join_len (PyData.shownAll ds)
    rw [PyData.shownAll_length] at j
    have e1 : (Str.ofString "(").length = 1 := by decide +kernel
    have e2 : (Str.ofString (if (ds.length == 1) = true then ",)" else ")")).length ≤ 2 := by
      split <;> decide +kernel
    rw [e1]
    exact ⟨by simp only [wt]; omega, by simpa only [PyData.showable] using h2⟩
  | .dict kvs, h => by
    have h' : fineKv kvs = true := by simpa only [fine] using h
    obtain ⟨h1, h2, h3⟩ := shownKv_le kvs h'
    rw [PyData.shown_dict, len_app, len_app]
    have j := join_len (PyData.shownKv kvs)
    rw [h3] at j
    have e1 : (Str.ofString "{").length = 1 := by decide +kernel
    have e2 : (Str.ofString "}").length = 1 := by decide +kernel
    rw [e1, e2]
    exact ⟨by simp only [wt]; omega, by simpa only [PyData.showable] using h2⟩
theorem shownAll_le : ∀ ds : List PyData, fineAll ds = true → ((PyData.shownAll ds).map (·.length)).sum + 2 * ds.length ≤ wtAll ds ∧ PyData.showableAll ds = true
  | [], _ => ⟨by simp [PyData.shownAll_nil], rfl⟩
  | d :: ds, h => by
    have h' : fine d = true ∧ fineAll ds = true := by simpa only [fineAll, Bool.and_eq_true] using h
    obtain ⟨a1, a2⟩ := shown_le d h'.1
    obtain ⟨b1, b2⟩ := shownAll_le ds h'.2
    rw [PyData.shownAll_cons, List.map_cons, List.sum_cons]
    refine ⟨?_, by simp only [PyData.showableAll, a2, b2, Bool.and_self]⟩
    simp only [wtAll, List.length_cons]
    omega
theorem shownKv_le : ∀ kvs : List (PyData × PyData), fineKv kvs = true → ((PyData.shownKv kvs).map (·.length)).sum + 2 * kvs.length ≤ wtKv kvs ∧ PyData.showableKv kvs = true ∧ (PyData.shownKv kvs).length = kvs.length
  | [], _ => ⟨by simp [PyData.shownKv_nil], rfl, by simp [PyData.shownKv_nil]⟩
  | (k, v) :: r, h => by
    have h' : (fine k = true ∧ fine v = true) ∧ fineKv r = true := by simpa only [fineKv, Bool.and_eq_true] using h
    obtain ⟨a1, a2⟩ := shown_le k h'.1.1
    obtain ⟨b1, b2⟩ := shown_le v h'.1.2
    obtain ⟨c1, c2, c3⟩ := shownKv_le r h'.2
    rw [PyData.shownKv_cons, List.map_cons, List.sum_cons, len_app, len_app]
    have e1 : (Str.ofString ": ").length = 2 := by decide +kernel
    rw [e1]
    refine ⟨?_, by simp only [PyData.showableKv, a2, b2, c2, Bool.and_self], by rw [List.length_cons, List.length_cons, c3]⟩
    simp only [wtKv, List.length_cons]
    omega
end
mutual
theorem nodes_wt : ∀ d : PyData, nodes d ≤ wt d
  | .none => by simp [nodes, wt]
  | .bool b => by simp [nodes, wt]
  | .int i => by simp [nodes, wt]
  | .str x => by simp [nodes, wt]
  | .list ds => by simp [nodes, wt]
  | .dict ds => by simp [nodes, wt]
  | .tuple ds => by
    have := nodesAll_wt ds
    simp only [nodes, wt]
    omega
theorem nodesAll_wt : ∀ ds : List PyData, nodesAll ds ≤ wtAll ds
  | [] => Nat.le_refl _
  | d :: ds => by
    have := nodes_wt d
    have := nodesAll_wt ds
    simp only [nodesAll, wtAll]
    omega
end
/-- small data: how deep, how large -/
def Bd (dp sz : Nat) (d : PyData) : Prop := fine d = true ∧ d.depth ≤ dp ∧ wt d ≤ sz
def BdAll (dp sz : Nat) (ds : List PyData) : Prop := fineAll ds = true ∧ PyData.depthAll ds ≤ dp ∧ wtAll ds ≤ sz
theorem Bd.mono {a b c e : Nat} {d : PyData} (h : Bd a b d) (h1 : a ≤ c) (h2 : b ≤ e) : Bd c e d := ⟨h.1, Nat.le_trans h.2.1 h1, Nat.le_trans h.2.2 h2⟩
theorem BdAll.mono {a b c e : Nat} {d : List PyData} (h : BdAll a b d) (h1 : a ≤ c) (h2 : b ≤ e) : BdAll c e d := ⟨h.1, Nat.le_trans h.2.1 h1, Nat.le_trans h.2.2 h2⟩
theorem BdAll.nil {a b : Nat} : BdAll a b [] := ⟨rfl, Nat.zero_le _, Nat.zero_le _⟩
theorem wtAll_append : ∀ ds es : List PyData, wtAll (ds ++ es) = wtAll ds + wtAll es
  | [], es => by simp [wtAll]
  | d :: ds, es => by simp only [List.cons_append, wtAll, wtAll_append ds es]; omega
theorem depthAll_append : ∀ ds es : List PyData, PyData.depthAll (ds ++ es) = max (PyData.depthAll ds) (PyData.depthAll es)
  | [], es => by simp [PyData.depthAll]
  | d :: ds, es => by simp only [List.cons_append, PyData.depthAll, depthAll_append ds es]; omega
theorem BdAll.append {a b c : Nat} {ds es : List PyData} (h : BdAll a b ds) (g : BdAll a c es) : BdAll a (b + c) (ds ++ es) := by
  obtain ⟨h1, h2, h3⟩ := h
  obtain ⟨g1, g2, g3⟩ := g
  refine ⟨by rw [fineAll_append, h1, g1]; rfl, by rw [depthAll_append]; omega, by rw [wtAll_append]; omega⟩
theorem BdAll.cons {a b c : Nat} {d : PyData} {ds : List PyData} (h : Bd a b d) (g : BdAll a c ds) : BdAll a (b + 2 + c) (d :: ds) := by
  obtain ⟨h1, h2, h3⟩ := h
  obtain ⟨g1, g2, g3⟩ := g
  refine ⟨by simp only [fineAll, h1, g1, Bool.and_self], by simp only [PyData.depthAll]; omega, by simp only [wtAll]; omega⟩
theorem BdAll.one {a b : Nat} {d : PyData} (h : Bd a b d) : BdAll a (b + 2) [d] := BdAll.cons (c := 0) h BdAll.nil
theorem Bd.tup {a b : Nat} {ds : List PyData} (h : BdAll a b ds) : Bd (a + 1) (b + 4) (.tuple ds) :=
  ⟨by simpa only [fine] using h.1, by simp only [PyData.depth]; exact Nat.succ_le_succ h.2.1, by simp only [wt]; exact Nat.add_le_add_right h.2.2 4⟩
theorem Bd.lst {a b : Nat} {ds : List PyData} (h : BdAll a b ds) : Bd (a + 1) (b + 4) (.list ds) :=
  ⟨by simpa only [fine] using h.1, by simp only [PyData.depth]; exact Nat.succ_le_succ h.2.1, by simp only [wt]; exact Nat.add_le_add_right h.2.2 4⟩
theorem Bd.int {i : Int} (h : -(10 ^ 31) ≤ i ∧ i ≤ 10 ^ 31) : Bd 0 40 (.int i) := ⟨by simpa [fine] using h, Nat.le_refl _, Nat.le_refl _⟩
theorem name_fine {x : Str} (h : nameX x = true) : fine (.str x) = true := by
  unfold nameX at h
  simp only [Bool.and_eq_true, decide_eq_true_eq, List.all_eq_true] at h
  obtain ⟨_, ⟨_, h1⟩, h2⟩ := h
  simp only [fine, Bool.and_eq_true, decide_eq_true_eq, List.all_eq_true]
  refine ⟨by omega, fun c hc => ?_⟩
  have := h2 c hc
  unfold letterB at this
  simp only [Bool.and_eq_true, decide_eq_true_eq] at this
  omega
theorem Bd.str {x : Str} (h : fine (.str x) = true) : Bd 0 220 (.str x) := ⟨h, Nat.le_refl _, Nat.le_refl _⟩
end KP
set_option Elab.async false
set_option linter.unusedVariables false
set_option linter.unusedSectionVars false
set_option maxRecDepth 100000
set_option maxHeartbeats 1000000
namespace KP
open PySem PySem.Spec PyProof.Rows L2 KA
/-- a def under its name, every parameter given -/
structure Dfn (K : PySem.W.Frag) (mg : Str → Option Value) (x : Str) (st : Stmt) (f : Addr) (fd : FuncData) (ps : List Str) : Prop where
  fn : Fun K x x st f fd
  mgf : mg x = some (.ref f)
  b : Binds K fd ps []
theorem Dfn.cal {P : Program} {w : World} {K : PySem.W.Frag} {mg : Str → Option Value} {base : Heap} {x : Str} {st : Stmt} {f : Addr} {fd : FuncData} {ps : List Str} {k : Nat} {sp : Sp} (D : Dfn K mg x st f fd ps) (F : FnOk P w K mg base CX0 k f fd ps sp) :
    C8.Cal P w K mg base k x sp [] := ⟨f, fd, ps, [], F, D.mgf, D.fn.kp, D.b, .nil⟩
/-! ### a walk over a text -/
theorem for_str {x : Str} {g : TG} {tb : TS} {D : Ends} {σ : L2.St} {H : Hp} (Pv : Nat → L2.St → Hp → Prop) (h0 : Pv 0 σ H)
    (hs : ∀ (i c : Nat) (σ : L2.St) (H : Hp), x.cps[i]? = some c → Pv i σ H → g (.str ⟨#[c]⟩) σ H fun σ2 H2 => tb { D with nx := Pv (i + 1), ct := Pv (i + 1), bk := D.nx } σ2 H2) (hd : ∀ σ H, Pv x.cps.size σ H → D.nx σ H) :
    ∃ W : Nat → Nat → L2.St → Hp → Prop, (∃ m, W 0 m σ H) ∧ ∀ i m σ H, W i m σ H →
      ((Its x).stop i H ∧ D.nx σ H) ∨ ((Its x).go i H ∧ ∃ N : L2.St → Hp → Prop, (∀ σ' H', N σ' H' → ∃ m', m' < m ∧ W (i + 1) m' σ' H') ∧ ∀ v H', (Its x).yld i H v H' → g v σ H' fun σ2 H2 => tb { D with nx := N, ct := N, bk := D.nx } σ2 H2) := by
  refine ⟨fun i m σ H => m = x.cps.size - i ∧ i ≤ x.cps.size ∧ Pv i σ H, ⟨_, rfl, Nat.zero_le _, h0⟩, ?_⟩
  rintro i m σ H ⟨rfl, hi, p⟩
  by_cases lt : i < x.cps.size
  · refine Or.inr ⟨lt, Pv (i + 1), fun σ' H' p' => ⟨x.cps.size - (i + 1), by omega, rfl, lt, p'⟩, ?_⟩
    rintro v H' ⟨rfl, c, hc, rfl⟩
    exact hs i c σ _ hc p
  · obtain rfl : i = x.cps.size := by omega
    exact Or.inl ⟨Nat.le_refl _, hd σ H p⟩
/-! ### words and what stands behind them -/
def wl : List Str := ["at", "at", "kind", "name", "thing", "maker", "eater", "all", "fun", "app", "app", "same", "self", "put"]
theorem wl_split : Txt.split (Str.ofString "at at kind name thing maker eater all fun app app same self put") (Str.ofString " ") = wl := by decide +kernel
def leaves : List (Str × List Nat) := [("at", [110]), ("kind", [104]), ("name", [119]), ("thing", [119]), ("maker", [119, 110]), ("eater", [119, 104])]
def parted : List (Str × List Nat) := [("all", [116, 116]), ("fun", [116, 116]), ("app", [116, 116]), ("same", [116, 116, 116]), ("self", [116, 116]), ("put", [116, 116, 116])]
theorem draw7 : ∀ j < 7, ∃ e ∈ leaves, wl[j]? = some e.1 := by decide +kernel
theorem draw14 : ∀ j < 14, ∃ e ∈ leaves ++ parted, wl[j]? = some e.1 := by decide +kernel
theorem form_of : ∀ e ∈ leaves ++ parted, valV formsK (.inr e.1) = some (.str ⟨e.2.toArray⟩) ∧ e.2.length ≤ 3 ∧ ∀ c ∈ e.2, c = 110 ∨ c = 104 ∨ c = 119 ∨ c = 116 := by decide +kernel
theorem leaf_not : ∀ e ∈ leaves, ∀ c ∈ e.2, c ≠ 116 := by decide +kernel
def tst (c : Nat) (d : PyData) : Bool := if c = 110 then cntB 0 d else if c = 104 then wholeB 0 5 d else if c = 119 then nameB d else tm d
def tstAll : List Nat → List PyData → Bool
  | [], [] => true
  | c :: cs, d :: ds => tst c d && tstAll cs ds
  | _, _ => false
theorem tstAll_snoc : ∀ {cs : List Nat} {ds : List PyData} {c : Nat} {d : PyData}, tstAll cs ds = true → tst c d = true → tstAll (cs ++ [c]) (ds ++ [d]) = true
  | [], [], c, d, _, h => by simp [tstAll, h]
  | a :: cs, b :: ds, c, d, h, h' => by
    have h : tst a b = true ∧ tstAll cs ds = true := by simpa [tstAll] using h
    have ih := tstAll_snoc h.2 h'
    simp only [List.cons_append, tstAll, h.1, ih, Bool.and_self]
  | [], _ :: _, _, _, h, _ => by simp [tstAll] at h
  | _ :: _, [], _, _, h, _ => by simp [tstAll] at h
theorem tst_parts : ∀ {n : Nat} {ds : List PyData}, tstAll (List.replicate n 116) ds = true → ds.length = n ∧ tmAll ds = true
  | 0, [], _ => ⟨rfl, rfl⟩
  | 0, _ :: _, h => by simp [tstAll] at h
  | n + 1, [], h => by simp [List.replicate_succ, tstAll] at h
  | n + 1, d :: ds, h => by
    rw [List.replicate_succ] at h
    have h : tst 116 d = true ∧ tstAll (List.replicate n 116) ds = true := by simpa only [tstAll, Bool.and_eq_true] using h
    obtain ⟨h1, h2⟩ := tst_parts h.2
    have h3 : tm d = true := h.1
    exact ⟨by rw [List.length_cons, h1], by simp only [tmAll, h3, h2, Bool.and_self]⟩
theorem parted_rep : ∀ e ∈ parted, ∃ n, n ≤ 3 ∧ e.2 = List.replicate n 116 ∧ parts e.1 = some n := by decide +kernel
theorem leaf_none : ∀ e ∈ leaves, parts e.1 = none := by decide +kernel
theorem one {c : Nat} : ∀ {ds : List PyData}, tstAll [c] ds = true → ∃ d, ds = [d] ∧ tst c d = true
  | [d], h => ⟨d, rfl, by simpa [tstAll] using h⟩
  | [], h => by simp [tstAll] at h
  | _ :: _ :: _, h => by simp [tstAll] at h
theorem two {a b : Nat} : ∀ {ds : List PyData}, tstAll [a, b] ds = true → ∃ d e, ds = [d, e] ∧ tst a d = true ∧ tst b e = true
  | [d, e], h => ⟨d, e, rfl, by simpa [tstAll] using h⟩
  | [], h => by simp [tstAll] at h
  | [_], h => by simp [tstAll] at h
  | _ :: _ :: _ :: _, h => by simp [tstAll] at h
theorem built {e : Str × List Nat} {ds : List PyData} (he : e ∈ leaves ++ parted) (h : tstAll e.2 ds = true) : tm (.tuple (.str e.1 :: ds)) = true := by
  rcases List.mem_append.mp he with he | he
  · rw [tm_leaf (leaf_none e he)]
    have he' : e = ((("at" : Str), [110]) : Str × List Nat) ∨ e = ((("kind" : Str), [104]) : Str × List Nat) ∨ e = ((("name" : Str), [119]) : Str × List Nat) ∨ e = ((("thing" : Str), [119]) : Str × List Nat) ∨ e = ((("maker" : Str), [119, 110]) : Str × List Nat) ∨ e = ((("eater" : Str), [119, 104]) : Str × List Nat) := by
      unfold leaves at he
      simpa only [List.mem_cons, List.not_mem_nil, or_false] using he
    rcases he' with rfl | rfl | rfl | rfl | rfl | rfl
    · obtain ⟨d, rfl, h1⟩ := one h
      exact h1
    · obtain ⟨d, rfl, h1⟩ := one h
      exact h1
    · obtain ⟨d, rfl, h1⟩ := one h
      exact h1
    · obtain ⟨d, rfl, h1⟩ := one h
      exact h1
    · obtain ⟨d, d', rfl, h1, h2⟩ := two h
      have h1 : nameB d = true := h1
      have h2 : cntB 0 d' = true := h2
      show (nameB d && cntB 0 d') = true
      rw [h1, h2]
      rfl
    · obtain ⟨d, d', rfl, h1, h2⟩ := two h
      have h1 : nameB d = true := h1
      have h2 : wholeB 0 5 d' = true := h2
      show (nameB d && (true && wholeB 0 5 d')) = true
      rw [h1, h2]
      rfl
  · obtain ⟨n, _, hr, hp⟩ := parted_rep e he
    rw [hr] at h
    obtain ⟨h1, h2⟩ := tst_parts h
    rw [tm_parts hp, h1, h2, decide_eq_true rfl]
    rfl
end KP
set_option Elab.async false
set_option linter.unusedVariables false
set_option linter.unusedSectionVars false
set_option maxRecDepth 100000
set_option maxHeartbeats 1000000
/-! Rules of one's own: == and != of data; P.__init__(self, ..), P a class of one's own over ValueError that has none. -/
namespace KA
open PySem PySem.Spec PyProof.Rows L2
section
variable {X : Cx}
def rEqD : R2 := fun x y H Q => ∃ d e, Dn H x d ∧ Dn H y e ∧ SeqAt.shaped d = true ∧ SeqAt.shaped e = true ∧ Q (.bl (PyData.eqv d e)) H
theorem op_eqD (hu : X.A.units + 64 < cLine) : OpR X (compareOp .Eq) rEqD := by
  intro pins s σ H x y v u Q I rx ry h
  obtain ⟨d, e, hd, he, sd, se, q⟩ := h
  obtain ⟨as, ra⟩ := Dn.reads I.hok hd rx
  obtain ⟨bs, rb⟩ := Dn.reads I.hok he ry
  exact eq_dataH ra rb sd se hu ⟨.bl (PyData.eqv d e), H, I, rfl, q⟩
def rNeD : R2 := fun x y H Q => ∃ d e, Dn H x d ∧ Dn H y e ∧ SeqAt.shaped d = true ∧ SeqAt.shaped e = true ∧ Q (.bl (!PyData.eqv d e)) H
theorem op_neD (hu : X.A.units + 64 < cLine) : OpR X (compareOp .NotEq) rNeD := by
  intro pins s σ H x y v u Q I rx ry h
  obtain ⟨d, e, hd, he, sd, se, q⟩ := h
  obtain ⟨as, ra⟩ := Dn.reads I.hok hd rx
  obtain ⟨bs, rb⟩ := Dn.reads I.hok he ry
  exact ne_dataH ra rb sd se hu ⟨.bl (!PyData.eqv d e), H, I, rfl, q⟩
/-- what the written part says of a class of one's own that has its __init__ from ValueError -/
structure UpC (K : PySem.W.Frag) (C : Addr) : Prop where
  kp : PySem.W.keepIn K (.ref C) = true
  sp : PySem.W.specialIn K (.ref C) "__getattribute__" = some (some (.builtin "type.__getattribute__"))
  rd : ∃ mc, PySem.W.readsIn K C mc = true ∧ PySem.W.findCls K (.ref C) mc "__init__" = some (.val (.builtin "ValueError.__init__"))
theorem pe_upinit {x : Str} {U : Addr} {e : Expr} {es : List Expr} {ta : TA} {p1 p2 pos : Pos} {pl : Sem Bool} (T : UpC X.K U) (hg : Gl X x) (hm : X.mg x = some (.ref U)) (ha : PA X (e :: es) ta) (hdb : (x == ("__debug__" : Str)) = false := by decide)
    (hc : eval (.Call (.Attribute (.Name x p1) "__init__" p2) (e :: es) [] pos) X.env = (do
      let ov ← eval (.Name x p1) X.env
      standAt p2.atName
      let (f, first) ← holding [ov] (getMethod ov "__init__" pl)
      callWith pos f first (backTo pos (starEach (e :: es) X.env)) (backToKw pos (keywordEach [] X.env))) := by rfl)
    (he : starEach (e :: es) X.env = (false, eval e X.env) :: starEach es X.env := by rfl) (hpl : (backTo pos (starEach es X.env)).any (·.1) = false := by rfl) :
    PE X (.Call (.Attribute (.Name x p1) "__init__" p2) (e :: es) [] pos) (tVeI X.K ta) := by
  refine ⟨fun pins s σ H Q I h => ?_⟩
  obtain ⟨mc, rd, fc⟩ := T.rd
  refine PySem.W.methodCall_KW (ld_glob I hg hm ?_ hdb) hc
  refine PySem.W.method_cls I.kIn T.sp ?_
  refine PySem.W.cls_value I.kIn rd fc (by decide +kernel) ?_
  show wpAny _ _ (callWith pos (Value.builtin "ValueError.__init__") [] (backTo pos (starEach (e :: es) X.env)) []) _ _ _
  refine PyProof.Rows.callWith_method1 (thn (ha.run pos pins _ σ H _ (I.tok _) h) fun us s1 ⟨vs, H1, I1, r1, a, C, ws, ev, hl, T', ea, q⟩ => ?_) he hpl
  subst ev
  cases r1 with
  | @cons _ u0 _ ur ra rw' =>
    obtain rfl : u0 = Value.ref a := ra
    have hlen : ur.length ≤ sizeLine := by
      rw [← Paired.length rw', sizeLine_eq]
      omega
    exact oinit_ok T' I1 ea hlen fun s' J => ⟨.non, H1, J, rfl, q⟩
end
end KA
set_option Elab.async false
set_option linter.unusedVariables false
set_option linter.unusedSectionVars false
set_option maxRecDepth 100000
set_option maxHeartbeats 1000000
/-! Slots by what they have: data; a list that only this slot has; else. What an expression, a statement makes of them. -/
namespace OW
open PySem PySem.Spec PyProof.Rows L2 KA

structure Mo where
  P : V → Hp → Prop
  mono : ∀ {v : V} {H H' : Hp}, Same H H' → P v H → P v H'
structure MoL where
  P : List V → Hp → Prop
  mono : ∀ {vs : List V} {H H' : Hp}, Same H H' → P vs H → P vs H'
inductive Sl where
  | un
  | any
  | d (x : PyData)
  | l (xs : List PyData)
  | p (P : Mo)
  | la (a : Addr) (xs : List PyData)
  | wa (a : Addr) (xs : List PyData)
  | dk (kvs : List (Key × V))
  | lm (P : MoL)
def uns (n : Nat) : List Sl := List.replicate n .un
abbrev Am := Nat → Option Addr
abbrev fl : Nat := 100000
open Classical in
noncomputable def vw (Z : Addr → Prop) (A : Am) (H : Hp) : Hp := fun b => if Z b ∨ ∃ i, A i = some b then none else H b
def aset (A : Am) (i : Nat) (o : Option Addr) : Am := fun j => if j = i then o else A j
theorem aset_at {A : Am} {i : Nat} {o : Option Addr} : aset A i o i = o := if_pos rfl
theorem aset_ne {A : Am} {i j : Nat} {o : Option Addr} (h : j ≠ i) : aset A i o j = A j := if_neg h
section
variable {Z : Addr → Prop} {A A' : Am} {H H' : Hp} {b : Addr} {o : HO}
theorem vw_some (h : vw Z A H b = some o) : ¬ Z b ∧ (∀ i, A i ≠ some b) ∧ H b = some o := by
  unfold vw at h
  split at h
  · cases h
  · rename_i n
    exact ⟨fun z => n (Or.inl z), fun i e => n (Or.inr ⟨i, e⟩), h⟩
theorem vw_mk (h : ¬ Z b) (h1 : ∀ i, A i ≠ some b) (h2 : H b = some o) : vw Z A H b = some o := by
  unfold vw
  rw [if_neg]
  · exact h2
  · rintro (z | ⟨i, e⟩)
    · exact h z
    · exact h1 i e
theorem vw_sub : Same (vw Z A H) H := fun b o e => (vw_some e).2.2
theorem vw_up (S : Same H H') : Same (vw Z A H) (vw Z A H') := fun b o e => by
  obtain ⟨h1, h2, h3⟩ := vw_some e
  exact vw_mk h1 h2 (S _ _ h3)
/-- fewer owned: more is seen -/
theorem vw_less (h : ∀ i a, A' i = some a → ∃ j, A j = some a) : Same (vw Z A H) (vw Z A' H) := fun b o e => by
  obtain ⟨h1, h2, h3⟩ := vw_some e
  exact vw_mk h1 (fun i z => let ⟨j, q⟩ := h i b z; h2 j q) h3
/-- what is owned changes -/
theorem vw_mut {a : Addr} {i : Nat} (h : A i = some a) : vw Z A (upd H a o) = vw Z A H := by
  funext b
  unfold vw
  split
  · rfl
  · rename_i n
    have : b ≠ a := fun e => n (Or.inr ⟨i, by rw [e]; exact h⟩)
    rw [upd_ne this]
end
def ArOk (W : Hp) (v : V) : Sl → Prop
  | .d x => Dn W v x
  | .p P => P.P v W
  | _ => False
def ArAll (W : Hp) : List V → List Sl → Prop
  | [], [] => True
  | v :: vs, s :: ss => ArOk W v s ∧ ArAll W vs ss
  | _, _ => False
theorem ArOk.mono {W W' : Hp} (S : Same W W') {v : V} : ∀ {s : Sl}, ArOk W v s → ArOk W' v s
  | .d _, h => Dn.mono S h
  | .p P, h => P.mono S h
  | .un, h | .any, h | .l _, h | .la _ _, h | .wa _ _, h | .dk _, h | .lm _, h => h.elim
theorem ArAll.mono {W W' : Hp} (S : Same W W') : ∀ {vs : List V} {ss : List Sl}, ArAll W vs ss → ArAll W' vs ss
  | [], [], _ => trivial
  | _ :: _, _ :: _, h => ⟨h.1.mono S, ArAll.mono S h.2⟩
  | [], _ :: _, h => h.elim
  | _ :: _, [], h => h.elim
theorem ArAll.length {W : Hp} : ∀ {vs : List V} {ss : List Sl}, ArAll W vs ss → vs.length = ss.length
  | [], [], _ => rfl
  | _ :: _, _ :: _, h => congrArg (· + 1) (ArAll.length h.2)
  | [], _ :: _, h => h.elim
  | _ :: _, [], h => h.elim
theorem ArAll.append {W : Hp} : ∀ {vs ws : List V} {ss ts : List Sl}, ArAll W vs ss → ArAll W ws ts → ArAll W (vs ++ ws) (ss ++ ts)
  | [], _, [], _, _, g => g
  | _ :: _, _, _ :: _, _, h, g => ⟨h.1, ArAll.append h.2 g⟩
  | [], _, _ :: _, _, h, _ => h.elim
  | _ :: _, _, [], _, h, _ => h.elim
theorem arAll_d {W : Hp} : ∀ {vs : List V} {xs : List PyData}, DnAll W vs xs → ArAll W vs (xs.map Sl.d)
  | _, _, .nil => trivial
  | _, _, .cons h t => ⟨h, arAll_d t⟩
def SlOk (W H : Hp) (u : Option (Option V)) (o : Option Addr) : Sl → Prop
  | .un => u = some none ∧ o = none
  | .any => o = none
  | .d x => o = none ∧ ∃ v, u = some (some v) ∧ Dn W v x
  | .l xs => ∃ a vs, o = some a ∧ u = some (some (.ref a)) ∧ H a = some (.lst vs) ∧ DnAll W vs xs
  | .p P => o = none ∧ ∃ v, u = some (some v) ∧ P.P v W
  | .la a xs => ∃ vs, o = some a ∧ u = some (some (.ref a)) ∧ H a = some (.lst vs) ∧ DnAll W vs xs
  | .wa a xs => ∃ vs, o = some a ∧ H a = some (.lst vs) ∧ DnAll W vs xs
  | .dk kvs => ∃ a, o = some a ∧ u = some (some (.ref a)) ∧ H a = some (.dK kvs)
  | .lm P => ∃ a vs, o = some a ∧ u = some (some (.ref a)) ∧ H a = some (.lst vs) ∧ P.P vs W
theorem SlOk.mono {W W' H H' : Hp} {u : Option (Option V)} {o : Option Addr} (S : Same W W') (k : ∀ a (h : HO), o = some a → H a = some h → H' a = some h) : ∀ {s : Sl}, SlOk W H u o s → SlOk W' H' u o s
  | .un, h => h
  | .any, h => h
  | .d _, ⟨h, v, e, r⟩ => ⟨h, v, e, Dn.mono S r⟩
  | .l _, ⟨a, vs, e, e1, e2, r⟩ => ⟨a, vs, e, e1, k a _ e e2, DnAll.mono S r⟩
  | .p P, ⟨h, v, e, r⟩ => ⟨h, v, e, P.mono S r⟩
  | .la a _, ⟨vs, e, e1, e2, r⟩ => ⟨vs, e, e1, k a _ e e2, DnAll.mono S r⟩
  | .wa a _, ⟨vs, e, e2, r⟩ => ⟨vs, e, k a _ e e2, DnAll.mono S r⟩
  | .dk _, ⟨a, e, e1, e2⟩ => ⟨a, e, e1, k a _ e e2⟩
  | .lm P, ⟨a, vs, e, e1, e2, r⟩ => ⟨a, vs, e, e1, k a _ e e2, P.mono S r⟩
/-! the code tables of defs that make defs: they grow; they are hidden, and what they tell is seen -/
class Tbs where
  T : List NdefX.NTab
variable [Tbs]
def tabA (b : Addr) : Prop := ∃ p ∈ Tbs.T, p.1 = b
def Tb (W H : Hp) : Prop := ∀ p ∈ Tbs.T, ∃ ps : Array Value, H p.1 = some (.tbl ps) ∧ TriplesOk ps.toList ∧ ∀ (pos : Pos) (cv : Value), codeAmong pos ps.toList = some cv → ∃ c, cv = .ref c ∧ W c = some (LamX.CodeO c (p.2 pos.line pos.col))
theorem Tb.mono {W W' H H' : Hp} (t : Tb W H) (S : Same W W') (k : ∀ b, tabA b → H' b = H b) : Tb W' H' := fun p hp => by
  obtain ⟨ps, e1, e2, e3⟩ := t p hp
  refine ⟨ps, (k p.1 ⟨p, hp, rfl⟩).trans e1, e2, fun pos cv h => ?_⟩
  obtain ⟨c, g1, g2⟩ := e3 pos cv h
  exact ⟨c, g1, S _ _ g2⟩
theorem Tb.at_ {W H : Hp} (t : Tb W H) {b : Addr} (h : tabA b) : ∃ ps, H b = some (.tbl ps) := by
  obtain ⟨p, hp, rfl⟩ := h
  obtain ⟨ps, e, _⟩ := t p hp
  exact ⟨ps, e⟩
theorem Tb.some {W H : Hp} (t : Tb W H) {b : Addr} (h : tabA b) : H b ≠ none := by
  obtain ⟨ps, e⟩ := t.at_ h
  rw [e]
  simp
theorem Tb.same {W H H' : Hp} (t : Tb W H) (S : Same H H') : ∀ b, tabA b → H' b = H b := fun b h => by
  obtain ⟨ps, e⟩ := t.at_ h
  rw [e]
  exact S _ _ e
theorem Tb.upd_ {W H : Hp} (t : Tb W H) {a : Addr} {o : HO} (n : ¬ tabA a) : ∀ b, tabA b → upd H a o b = H b := fun b h => upd_ne fun e => n (e ▸ h)
theorem Tb.new_ {W H : Hp} (t : Tb W H) {a : Addr} (n : H a = none) : ¬ tabA a := fun h => t.some h n
/-- what belongs to others: Z, as it stands in G; F: what was there when the def began; B: the list of its first slot is the caller's -/
structure Fr where
  Z : Addr → Prop
  B : Option Addr
  G : Hp
  F : Hp
structure Rp (c : Fr) (A : Am) (ρ : List Sl) (σ : L2.St) (H : Hp) : Prop where
  len : σ.length = ρ.length
  sz : ρ.length < fl
  inj : ∀ i j a, A i = some a → A j = some a → i = j
  off : ∀ i a, A i = some a → ¬ c.Z a
  live : ∀ i a, A i = some a → H a ≠ none
  keep : ∀ a, c.Z a → ¬ tabA a → c.G a ≠ none ∧ H a = c.G a
  old : Same c.F (vw c.Z A H)
  bor : ∀ p, c.B = some p → A 0 = some p
  sl : ∀ i s, ρ[i]? = some s → SlOk (vw c.Z A H) H σ[i]? (A i) s
  tz : ∀ b, tabA b → c.Z b
  tb : Tb (vw c.Z A H) H
section
variable {c : Fr} {A A' : Am} {ρ ρ' : List Sl} {σ : L2.St} {H H' : Hp}
theorem Rp.there (R : Rp c A ρ σ H) {a : Addr} (z : c.Z a) : H a ≠ none := by
  by_cases t : tabA a
  · exact R.tb.some t
  · obtain ⟨h1, h2⟩ := R.keep a z t
    rw [h2]
    exact h1
theorem Rp.nt (R : Rp c A ρ σ H) {i : Nat} {a : Addr} (e : A i = some a) : ¬ tabA a := fun t => R.off i a e (R.tz a t)
theorem Rp.up (R : Rp c A ρ σ H) (S : Same H H') : Rp c A ρ σ H' where
  len := R.len
  sz := R.sz
  inj := R.inj
  off := R.off
  live i a e := by
    obtain ⟨o, h⟩ := Option.ne_none_iff_exists'.mp (R.live i a e)
    rw [S _ _ h]
    simp
  keep a z t := by
    obtain ⟨h1, h2⟩ := R.keep a z t
    refine ⟨h1, ?_⟩
    obtain ⟨o, h⟩ := Option.ne_none_iff_exists'.mp h1
    rw [h] at h2 ⊢
    exact S _ _ h2
  old := R.old.trans (vw_up S)
  bor := R.bor
  sl i s e := (R.sl i s e).mono (vw_up S) fun a vs _ h => S _ _ h
  tz := R.tz
  tb := R.tb.mono (vw_up S) (R.tb.same S)
/-- less is owned -/
theorem Rp.rel (R : Rp c A ρ σ H) (h : ∀ i a, A' i = some a → A i = some a) (h0 : A' 0 = A 0) (hs : ∀ i s, ρ[i]? = some s → A' i = A i) : Rp c A' ρ σ H where
  len := R.len
  sz := R.sz
  inj i j a e e' := R.inj i j a (h _ _ e) (h _ _ e')
  off i a e := R.off i a (h _ _ e)
  live i a e := R.live i a (h _ _ e)
  keep := R.keep
  old := R.old.trans (vw_less fun i a e => ⟨i, h _ _ e⟩)
  bor p e := by rw [h0]; exact R.bor p e
  sl i s e := by
    rw [hs i s e]
    exact (R.sl i s e).mono (vw_less fun i a e => ⟨i, h _ _ e⟩) fun a vs _ h => h
  tz := R.tz
  tb := R.tb.mono (vw_less fun i a e => ⟨i, h _ _ e⟩) fun _ _ => rfl
theorem idx_small (hρ : ρ.length < fl) {i : Nat} {s : Sl} (e : ρ[i]? = some s) : i ≠ fl := by
  have := (List.getElem?_eq_some_iff.mp e).1
  omega
theorem Rp.land (R : Rp c A ρ σ H) : Rp c (aset A fl none) ρ σ H := by
  refine R.rel (fun i a e => ?_) (aset_ne (by decide)) (fun i s e => aset_ne (idx_small R.sz e))
  by_cases q : i = fl
  · rw [q, aset_at] at e
    cases e
  · rw [aset_ne q] at e
    exact e
theorem vw_land {Z : Addr → Prop} {i : Nat} : Same (vw Z A H) (vw Z (aset A i none) H) := vw_less fun j a e => by
  by_cases q : j = i
  · rw [q, aset_at] at e
    cases e
  · rw [aset_ne q] at e
    exact ⟨j, e⟩
/-- a new list, not yet in a slot -/
theorem vw_fly {Z : Addr → Prop} {a : Addr} {o : HO} (n : H a = none) : Same (vw Z A H) (vw Z (aset A fl (some a)) (upd H a o)) := fun b u e => by
  obtain ⟨h1, h2, h3⟩ := vw_some e
  have nb : b ≠ a := ne_of_none h3 n
  refine vw_mk h1 (fun i z => ?_) (by rw [upd_ne nb]; exact h3)
  by_cases q : i = fl
  · rw [q, aset_at] at z
    exact nb (Option.some.inj z).symm
  · rw [aset_ne q] at z
    exact h2 i z
theorem Rp.fly (R : Rp c A ρ σ H) {a : Addr} {o : HO} (n : H a = none) : Rp c (aset A fl (some a)) ρ σ (upd H a o) where
  len := R.len
  sz := R.sz
  inj i j b e e' := by
    by_cases q : i = fl
    · by_cases q' : j = fl
      · rw [q, q']
      · rw [q, aset_at] at e
        rw [aset_ne q'] at e'
        cases e
        exact absurd n (R.live _ _ e')
    · rw [aset_ne q] at e
      by_cases q' : j = fl
      · rw [q', aset_at] at e'
        cases e'
        exact absurd n (R.live _ _ e)
      · rw [aset_ne q'] at e'
        exact R.inj _ _ _ e e'
  off i b e z := by
    by_cases q : i = fl
    · rw [q, aset_at] at e
      cases e
      exact R.there z n
    · rw [aset_ne q] at e
      exact R.off _ _ e z
  live i b e := by
    by_cases q : b = a
    · rw [q, upd_same]
      simp
    · rw [upd_ne q]
      by_cases q' : i = fl
      · rw [q', aset_at] at e
        exact absurd (Option.some.inj e).symm q
      · rw [aset_ne q'] at e
        exact R.live _ _ e
  keep b z t := by
    obtain ⟨h1, h2⟩ := R.keep b z t
    have nb : b ≠ a := fun e => R.there z (e ▸ n)
    exact ⟨h1, by rw [upd_ne nb]; exact h2⟩
  old := R.old.trans (vw_fly n)
  bor p e := by rw [aset_ne (by decide)]; exact R.bor p e
  sl i s e := by
    rw [aset_ne (idx_small R.sz e)]
    exact (R.sl i s e).mono (vw_fly n) fun b vs _ h => by rw [upd_ne (ne_of_none h n)]; exact h
  tz := R.tz
  tb := R.tb.mono (vw_fly n) (R.tb.upd_ (R.tb.new_ n))
/-- a slot gets a value that isn't owned -/
theorem Rp.set (R : Rp c A ρ σ H) {i : Nat} {v : V} {s : Sl} (i0 : i ≠ 0) (h : SlOk (vw c.Z A H) H (some (some v)) none s) : Rp c (aset A i none) (ρ.set i s) (σ.set i (some v)) H where
  len := by rw [List.length_set, List.length_set, R.len]
  sz := by rw [List.length_set]; exact R.sz
  inj k j a e e' := by
    by_cases q : k = i
    · rw [q, aset_at] at e
      cases e
    · by_cases q' : j = i
      · rw [q', aset_at] at e'
        cases e'
      · rw [aset_ne q] at e
        rw [aset_ne q'] at e'
        exact R.inj _ _ _ e e'
  off k a e := by
    by_cases q : k = i
    · rw [q, aset_at] at e
      cases e
    · rw [aset_ne q] at e
      exact R.off _ _ e
  live k a e := by
    by_cases q : k = i
    · rw [q, aset_at] at e
      cases e
    · rw [aset_ne q] at e
      exact R.live _ _ e
  keep := R.keep
  old := R.old.trans vw_land
  bor p e := by rw [aset_ne i0.symm]; exact R.bor p e
  sl j t e := by
    by_cases q : j = i
    · subst q
      rw [aset_at]
      have lt := (List.getElem?_eq_some_iff.mp e).1
      rw [List.length_set] at lt
      rw [List.getElem?_set_self (by rw [R.len]; exact lt)]
      rw [List.getElem?_set_self lt] at e
      cases e
      exact h.mono vw_land fun _ _ z _ => by cases z
    · rw [List.getElem?_set_ne (Ne.symm q)] at e ⊢
      rw [aset_ne q]
      exact (R.sl j t e).mono vw_land fun _ _ _ z => z
  tz := R.tz
  tb := R.tb.mono vw_land fun _ _ => rfl
/-- a slot gets the new list -/
theorem Rp.setL (R : Rp c A ρ σ H) {i : Nat} {a : Addr} {vs : List V} {xs : List PyData} (i0 : i ≠ 0) (hi : i < ρ.length) (e : A fl = some a) (ha : H a = some (.lst vs)) (dx : DnAll (vw c.Z A H) vs xs) : Rp c (aset (aset A i (some a)) fl none) (ρ.set i (.l xs)) (σ.set i (some (.ref a))) H := by
  have ne : i ≠ fl := by have := R.sz; omega
  have back : ∀ j b, aset (aset A i (some a)) fl none j = some b → (j = i ∧ b = a) ∨ (j ≠ i ∧ j ≠ fl ∧ A j = some b) := fun j b z => by
    by_cases q : j = fl
    · rw [q, aset_at] at z
      cases z
    · rw [aset_ne q] at z
      by_cases q' : j = i
      · rw [q', aset_at] at z
        exact Or.inl ⟨q', (Option.some.inj z).symm⟩
      · rw [aset_ne q'] at z
        exact Or.inr ⟨q', q, z⟩
  have more : Same (vw c.Z A H) (vw c.Z (aset (aset A i (some a)) fl none) H) := vw_less fun j b z => by
    rcases back j b z with ⟨_, rfl⟩ | ⟨_, _, z⟩
    · exact ⟨_, e⟩
    · exact ⟨_, z⟩
  refine ⟨by rw [List.length_set, List.length_set, R.len], by rw [List.length_set]; exact R.sz, ?_, ?_, ?_, R.keep, R.old.trans more, ?_, ?_, R.tz, R.tb.mono more fun _ _ => rfl⟩
  · intro k j b z z'
    rcases back k b z with ⟨q1, q2⟩ | ⟨n1, n2, y⟩
    · rcases back j _ z' with ⟨q3, _⟩ | ⟨n3, n4, y'⟩
      · rw [q1, q3]
      · exact absurd (R.inj _ _ _ (q2 ▸ y') e) n4
    · rcases back j b z' with ⟨q3, q4⟩ | ⟨n3, n4, y'⟩
      · exact absurd (R.inj _ _ _ (q4 ▸ y) e) n2
      · exact R.inj _ _ _ y y'
  · intro j b z
    rcases back j b z with ⟨rfl, rfl⟩ | ⟨n1, n2, z⟩
    · exact R.off _ _ e
    · exact R.off _ _ z
  · intro j b z
    rcases back j b z with ⟨rfl, rfl⟩ | ⟨n1, n2, z⟩
    · exact R.live _ _ e
    · exact R.live _ _ z
  · intro p q
    rw [aset_ne (by decide), aset_ne i0.symm]
    exact R.bor p q
  · intro j t z
    by_cases q : j = i
    · subst q
      rw [aset_ne ne, aset_at]
      rw [List.getElem?_set_self (by rw [R.len]; exact hi)]
      rw [List.getElem?_set_self hi] at z
      cases z
      exact ⟨a, vs, rfl, rfl, ha, DnAll.mono more dx⟩
    · rw [List.getElem?_set_ne (Ne.symm q)] at z ⊢
      rw [aset_ne (idx_small R.sz z), aset_ne q]
      exact (R.sl j t z).mono more fun _ _ _ h => h
/-- an owned list changes -/
theorem Rp.mut (R : Rp c A ρ σ H) {i : Nat} {a : Addr} {vs : List V} {xs ys : List PyData} (h : ρ[i]? = some (.l ys)) (e : A i = some a) (dx : DnAll (vw c.Z A H) vs xs) : Rp c A (ρ.set i (.l xs)) σ (upd H a (.lst vs)) := by
  have hv : vw c.Z A (upd H a (.lst vs)) = vw c.Z A H := vw_mut e
  refine ⟨by rw [List.length_set, R.len], by rw [List.length_set]; exact R.sz, R.inj, R.off, ?_, ?_, ?_, R.bor, ?_, R.tz, by rw [hv]; exact R.tb.mono (Same.refl _) (R.tb.upd_ (R.nt e))⟩
  · intro j b z
    by_cases q : b = a
    · rw [q, upd_same]
      simp
    · rw [upd_ne q]
      exact R.live _ _ z
  · intro b z t
    have nb : b ≠ a := fun q => R.off _ _ e (q ▸ z)
    rw [upd_ne nb]
    exact R.keep b z t
  · rw [hv]
    exact R.old
  · intro j t z
    rw [hv]
    by_cases q : j = i
    · subst q
      have lt := (List.getElem?_eq_some_iff.mp h).1
      rw [List.getElem?_set_self lt] at z
      cases z
      obtain ⟨a', vs', e1, e2, e3, _⟩ := R.sl j _ h
      rw [e] at e1
      cases e1
      exact ⟨a, vs, e, e2, upd_same, dx⟩
    · rw [List.getElem?_set_ne (Ne.symm q)] at z
      refine (R.sl j t z).mono (Same.refl _) fun b ws e' hb => ?_
      have nb : b ≠ a := fun eb => q (R.inj _ _ _ e' (eb ▸ e))
      rw [upd_ne nb]
      exact hb
/-- an owned list is given away: it is data from then on -/
theorem Rp.freeze (R : Rp c A ρ σ H) {i : Nat} {xs : List PyData} (i0 : i ≠ 0) (h : ρ[i]? = some (.l xs)) : ∃ a, A i = some a ∧ σ[i]? = some (some (.ref a)) ∧ Dn (vw c.Z (aset A i none) H) (.ref a) (.list xs) ∧ Rp c (aset A i none) (ρ.set i (.d (.list xs))) σ H := by
  obtain ⟨a, vs, e, e1, e2, dx⟩ := R.sl i _ h
  have nf : vw c.Z (aset A i none) H a = some (.lst vs) := vw_mk (R.off _ _ e) (fun j z => by
    by_cases q : j = i
    · rw [q, aset_at] at z
      cases z
    · rw [aset_ne q] at z
      exact q (R.inj _ _ _ z e)) e2
  have dn : Dn (vw c.Z (aset A i none) H) (.ref a) (.list xs) := .lst nf (DnAll.mono vw_land dx)
  refine ⟨a, e, e1, dn, ?_⟩
  refine ⟨by rw [List.length_set, R.len], by rw [List.length_set]; exact R.sz, ?_, ?_, ?_, R.keep, R.old.trans vw_land, ?_, ?_, R.tz, R.tb.mono vw_land fun _ _ => rfl⟩
  · intro k j b z z'
    by_cases q : k = i
    · rw [q, aset_at] at z
      cases z
    · by_cases q' : j = i
      · rw [q', aset_at] at z'
        cases z'
      · rw [aset_ne q] at z
        rw [aset_ne q'] at z'
        exact R.inj _ _ _ z z'
  · intro k b z
    by_cases q : k = i
    · rw [q, aset_at] at z
      cases z
    · rw [aset_ne q] at z
      exact R.off _ _ z
  · intro k b z
    by_cases q : k = i
    · rw [q, aset_at] at z
      cases z
    · rw [aset_ne q] at z
      exact R.live _ _ z
  · intro p z
    rw [aset_ne i0.symm]
    exact R.bor p z
  · intro j t z
    by_cases q : j = i
    · subst q
      have lt := (List.getElem?_eq_some_iff.mp h).1
      rw [List.getElem?_set_self lt] at z
      cases z
      rw [aset_at]
      exact ⟨rfl, _, e1, dn⟩
    · rw [List.getElem?_set_ne (Ne.symm q)] at z
      rw [aset_ne q]
      exact (R.sl j t z).mono vw_land fun _ _ _ h => h
end
end OW
set_option Elab.async false
set_option linter.unusedVariables false
set_option linter.unusedSectionVars false
set_option maxRecDepth 100000
set_option maxHeartbeats 1000000
namespace OW
open PySem PySem.Spec PyProof.Rows L2 KA
variable [Tbs]
/-! ### what an expression gives: s (data, or else), a new list, arguments, a truth -/
def Ev (te : TE) (ρ : List Sl) (s : Sl) (ρ' : List Sl) : Prop := ∀ (c : Fr) (A : Am) (σ : L2.St) (H : Hp) (Q : VK), Rp c A ρ σ H → A fl = none →
  (∀ v A' H', Rp c A' ρ' σ H' → A' fl = none → Same (vw c.Z A H) (vw c.Z A' H') → ArOk (vw c.Z A' H') v s → Q v H') → te σ H Q
def El (te : TE) (ρ : List Sl) (xs : List PyData) (ρ' : List Sl) : Prop := ∀ (c : Fr) (A : Am) (σ : L2.St) (H : Hp) (Q : VK), Rp c A ρ σ H → A fl = none →
  (∀ a vs A' H', Rp c A' ρ' σ H' → A' fl = some a → Same (vw c.Z A H) (vw c.Z A' H') → H' a = some (.lst vs) → DnAll (vw c.Z A' H') vs xs → Q (.ref a) H') → te σ H Q
def Es (ta : TA) (ρ : List Sl) (ss : List Sl) (ρ' : List Sl) : Prop := ∀ (c : Fr) (A : Am) (σ : L2.St) (H : Hp) (Q : List V → Hp → Prop), Rp c A ρ σ H → A fl = none →
  (∀ vs A' H', Rp c A' ρ' σ H' → A' fl = none → Same (vw c.Z A H) (vw c.Z A' H') → ArAll (vw c.Z A' H') vs ss → Q vs H') → ta σ H Q
def Eds (ta : TA) (ρ : List Sl) (xs : List PyData) (ρ' : List Sl) : Prop := ∀ (c : Fr) (A : Am) (σ : L2.St) (H : Hp) (Q : List V → Hp → Prop), Rp c A ρ σ H → A fl = none →
  (∀ vs A' H', Rp c A' ρ' σ H' → A' fl = none → Same (vw c.Z A H) (vw c.Z A' H') → DnAll (vw c.Z A' H') vs xs → Q vs H') → ta σ H Q
def Et (tt : TT) (ρ : List Sl) (b : Bool) (ρ' : List Sl) : Prop := ∀ (c : Fr) (A : Am) (σ : L2.St) (H : Hp) (Q : Bool → Hp → Prop), Rp c A ρ σ H → A fl = none →
  (∀ A' H', Rp c A' ρ' σ H' → A' fl = none → Same (vw c.Z A H) (vw c.Z A' H') → Q b H') → tt σ H Q
def Eo (to : TO) (ρ : List Sl) (o : Option Int) (ρ' : List Sl) : Prop := ∀ (c : Fr) (A : Am) (σ : L2.St) (H : Hp) (Q : Option Int → Hp → Prop), Rp c A ρ σ H → A fl = none →
  (∀ A' H', Rp c A' ρ' σ H' → A' fl = none → Same (vw c.Z A H) (vw c.Z A' H') → Q o H') → to σ H Q
section
variable {ρ ρ' ρ1 ρ2 ρ3 : List Sl} {te ta tb tu : TE} {s s' : Sl} {x y z : PyData} {i : Nat} {tr : TA} {xs ys : List PyData} {ss : List Sl}
theorem new_view {c : Fr} {A : Am} {σ : L2.St} {H H' : Hp} (R : Rp c A ρ σ H) {b : Addr} {o : HO} (n : H b = none) (e : H' b = some o) : vw c.Z A H' b = some o := by
  refine vw_mk (fun z => ?_) (fun i z => ?_) e
  · exact R.there z n
  · exact R.live _ _ z n
theorem ev_c {v : V} (h : ∀ W, ArOk W v s) : Ev (tC v) ρ s ρ := fun c A σ H Q R f q => q v A H R f (Same.refl _) (h _)
theorem ev_int {n : Int} : Ev (tC (.int n)) ρ (.d (.int n)) ρ := ev_c fun _ => .int n
theorem ev_str {n : Str} : Ev (tC (.str n)) ρ (.d (.str n)) ρ := ev_c fun _ => .str n
theorem ev_bl {n : Bool} : Ev (tC (.bl n)) ρ (.d (.bool n)) ρ := ev_c fun _ => .bl n
theorem ev_non : Ev (tC .non) ρ (.d .none) ρ := ev_c fun _ => .non
theorem ev_var (h : ρ[i]? = some (.d x)) : Ev (tVar i) ρ (.d x) ρ := fun c A σ H Q R f q => by
  obtain ⟨_, v, e, dn⟩ := R.sl i _ h
  exact ⟨v, e, q v A H R f (Same.refl _) dn⟩
theorem ev_varp {P : Mo} (h : ρ[i]? = some (.p P)) : Ev (tVar i) ρ (.p P) ρ := fun c A σ H Q R f q => by
  obtain ⟨_, v, e, dn⟩ := R.sl i _ h
  exact ⟨v, e, q v A H R f (Same.refl _) dn⟩
/-- the list goes out of its slot -/
theorem ev_varF (h : ρ[i]? = some (.l xs)) (i0 : i ≠ 0 := by decide) : Ev (tVar i) ρ (.d (.list xs)) (ρ.set i (.d (.list xs))) := fun c A σ H Q R f q => by
  obtain ⟨a, e, e1, dn, R'⟩ := R.freeze i0 h
  have nf : fl ≠ i := (idx_small R.sz h).symm
  exact ⟨_, e1, q _ _ H R' (by rw [aset_ne nf]; exact f) vw_land dn⟩
theorem Ev.of_el (h : El te ρ xs ρ') : Ev te ρ (.d (.list xs)) ρ' := fun c A σ H Q R f q => h c A σ H Q R f fun a vs A' H' R' f' S e dx => by
  refine q _ _ _ R'.land aset_at (S.trans vw_land) (.lst (vw_mk (R'.off _ _ f') (fun j z => ?_) e) (DnAll.mono vw_land dx))
  by_cases j' : j = fl
  · rw [j', aset_at] at z
    cases z
  · rw [aset_ne j'] at z
    exact j' (R'.inj _ _ _ z f')
theorem es_nil : Es tNil ρ [] ρ := fun c A σ H Q R f q => q [] A H R f (Same.refl _) trivial
theorem es_cons (h : Ev te ρ s ρ1) (g : Es tr ρ1 ss ρ2) : Es (tCons te tr) ρ (s :: ss) ρ2 := fun c A σ H Q R f q =>
  h c A σ H _ R f fun v A1 H1 R1 f1 S1 o1 => g c A1 σ H1 _ R1 f1 fun vs A2 H2 R2 f2 S2 o2 => q _ A2 H2 R2 f2 (S1.trans S2) ⟨o1.mono S2, o2⟩
theorem eds_nil : Eds tNil ρ [] ρ := fun c A σ H Q R f q => q [] A H R f (Same.refl _) .nil
theorem eds_cons (h : Ev te ρ (.d x) ρ1) (g : Eds tr ρ1 xs ρ2) : Eds (tCons te tr) ρ (x :: xs) ρ2 := fun c A σ H Q R f q =>
  h c A σ H _ R f fun v A1 H1 R1 f1 S1 o1 => g c A1 σ H1 _ R1 f1 fun vs A2 H2 R2 f2 S2 o2 => q _ A2 H2 R2 f2 (S1.trans S2) (.cons (Dn.mono S2 o1) o2)
theorem ev_tup (h : Eds tr ρ xs ρ') (len : xs.length ≤ sizeLine := by simp [sizeLine_eq]) : Ev (tTup tr) ρ (.d (.tuple xs)) ρ' := fun c A σ H Q R f q =>
  h c A σ H _ R f fun vs A1 H1 R1 f1 S1 o1 => ⟨by rw [o1.length]; exact len, fun a ha =>
    q _ A1 _ (R1.up (Same.new ha)) f1 (S1.trans (vw_up (Same.new ha))) (.tup (new_view R1 ha upd_same) (DnAll.mono (vw_up (Same.new ha)) o1))⟩
theorem el_lst (h : Eds tr ρ xs ρ') (len : xs.length ≤ sizeLine := by simp [sizeLine_eq]) : El (tLst tr) ρ xs ρ' := fun c A σ H Q R f q =>
  h c A σ H _ R f fun vs A1 H1 R1 f1 S1 o1 => ⟨by rw [o1.length]; exact len, fun a ha =>
    q a vs _ _ (R1.fly ha) aset_at (S1.trans (vw_fly ha)) upd_same (DnAll.mono (vw_fly ha) o1)⟩
/-! ### a function of values: of the things ss it gives s; a new list -/
def FV (r : List V → Hp → VK → Prop) (ss : List Sl) (s : Sl) : Prop := ∀ (W H : Hp) (vs : List V) (Q : VK), Same W H → ArAll W vs ss →
  (∀ u H', Same H H' → (∀ W', Same W W' → (∀ b o, H b = none → H' b = some o → W' b = some o) → ArOk W' u s) → Q u H') → r vs H Q
def FL (r : List V → Hp → VK → Prop) (ss : List Sl) (xs : List PyData) : Prop := ∀ (W H : Hp) (vs : List V) (Q : VK), Same W H → ArAll W vs ss →
  (∀ a us, H a = none → DnAll W us xs → Q (.ref a) (upd H a (.lst us))) → r vs H Q
def FV2 (r : R2) (s s' t : Sl) : Prop := ∀ (W H : Hp) (v w : V) (Q : VK), Same W H → ArOk W v s → ArOk W w s' →
  (∀ u H', Same H H' → (∀ W', Same W W' → (∀ b o, H b = none → H' b = some o → W' b = some o) → ArOk W' u t) → Q u H') → r v w H Q
def FL2 (r : R2) (s s' : Sl) (xs : List PyData) : Prop := ∀ (W H : Hp) (v w : V) (Q : VK), Same W H → ArOk W v s → ArOk W w s' →
  (∀ a us, H a = none → DnAll W us xs → Q (.ref a) (upd H a (.lst us))) → r v w H Q
theorem ev_fn {r : List V → Hp → VK → Prop} (h : Es tr ρ ss ρ') (g : FV r ss s) : Ev (tCB r tr) ρ s ρ' := fun c A σ H Q R f q =>
  h c A σ H _ R f fun vs A1 H1 R1 f1 S1 o1 => g _ H1 vs Q vw_sub o1 fun u H2 S2 o2 =>
    q u A1 H2 (R1.up S2) f1 (S1.trans (vw_up S2)) (o2 _ (vw_up S2) fun b o n e => new_view R1 n e)
theorem el_fn {r : List V → Hp → VK → Prop} (h : Es tr ρ ss ρ') (g : FL r ss xs) : El (tCB r tr) ρ xs ρ' := fun c A σ H Q R f q =>
  h c A σ H _ R f fun vs A1 H1 R1 f1 S1 o1 => g _ H1 vs Q vw_sub o1 fun a us n dx =>
    q a us _ _ (R1.fly n) aset_at (S1.trans (vw_fly n)) upd_same (DnAll.mono (vw_fly n) dx)
theorem ev_op {r : R2} {t : Sl} (h : Ev ta ρ s ρ1) (h' : Ev tb ρ1 s' ρ2) (g : FV2 r s s' t) : Ev (tOp r ta tb) ρ t ρ2 := fun c A σ H Q R f q =>
  h c A σ H _ R f fun v A1 H1 R1 f1 S1 o1 => h' c A1 σ H1 _ R1 f1 fun w A2 H2 R2 f2 S2 o2 => g _ H2 v w Q vw_sub (o1.mono S2) o2 fun u H3 S3 o3 =>
    q u A2 H3 (R2.up S3) f2 ((S1.trans S2).trans (vw_up S3)) (o3 _ (vw_up S3) fun b o n e => new_view R2 n e)
theorem el_op {r : R2} (h : Ev ta ρ s ρ1) (h' : Ev tb ρ1 s' ρ2) (g : FL2 r s s' xs) : El (tOp r ta tb) ρ xs ρ2 := fun c A σ H Q R f q =>
  h c A σ H _ R f fun v A1 H1 R1 f1 S1 o1 => h' c A1 σ H1 _ R1 f1 fun w A2 H2 R2 f2 S2 o2 => g _ H2 v w Q vw_sub (o1.mono S2) o2 fun a us n dx =>
    q a us _ _ (R2.fly n) aset_at ((S1.trans S2).trans (vw_fly n)) upd_same (DnAll.mono (vw_fly n) dx)
theorem Ev.is (h : Ev te ρ (.d x) ρ') (e : x = y) : Ev te ρ (.d y) ρ' := e ▸ h
theorem Et.is {tt : TT} {b b' : Bool} (h : Et tt ρ b ρ') (e : b = b') : Et tt ρ b' ρ' := e ▸ h
theorem El.is (h : El te ρ xs ρ') (e : xs = ys) : El te ρ ys ρ' := e ▸ h
/-! tests -/
theorem bool_v {W : Hp} {v : V} {b : Bool} (h : ArOk W v (.d (.bool b))) : v = .bl b := by
  cases h
  rfl
theorem int_v {W : Hp} {v : V} {n : Int} (h : ArOk W v (.d (.int n))) : v = .int n := by
  cases h
  rfl
theorem str_v {W : Hp} {v : V} {n : Str} (h : ArOk W v (.d (.str n))) : v = .str n := by
  cases h
  rfl
theorem non_v {W : Hp} {v : V} (h : ArOk W v (.d .none)) : v = .non := by
  cases h
  rfl
theorem tup_v {W : Hp} {v : V} {ds : List PyData} (h : ArOk W v (.d (.tuple ds))) : ∃ a vs, v = .ref a ∧ W a = some (.tup vs) ∧ DnAll W vs ds := by
  cases h with
  | tup e r => exact ⟨_, _, rfl, e, r⟩
theorem lst_v {W : Hp} {v : V} {ds : List PyData} (h : ArOk W v (.d (.list ds))) : ∃ a vs, v = .ref a ∧ W a = some (.lst vs) ∧ DnAll W vs ds := by
  cases h with
  | lst e r => exact ⟨_, _, rfl, e, r⟩
theorem et_test {b : Bool} (h : Ev te ρ (.d (.bool b)) ρ') : Et (tTest te) ρ b ρ' := fun c A σ H Q R f q =>
  h c A σ H _ R f fun v A1 H1 R1 f1 S1 o1 => ⟨b, bool_v o1, q A1 H1 R1 f1 S1⟩
theorem et_B {b : Bool} (h : Ev te ρ (.d (.bool b)) ρ') : Et (tB te) ρ b ρ' := fun c A σ H Q R f q =>
  h c A σ H _ R f fun v A1 H1 R1 f1 S1 o1 => ⟨b, bool_v o1, q A1 H1 R1 f1 S1⟩
theorem et_not {tt : TT} {b : Bool} (h : Et tt ρ b ρ') : Et (tNot tt) ρ (!b) ρ' := fun c A σ H Q R f q => h c A σ H _ R f q
/-- b isn't asked where a is false: then all stays as a leaves it -/
theorem et_and {t u : TT} {a b : Bool} (h : Et t ρ a ρ1) (g : a = true → Et u ρ1 b ρ2) (hn : a = false → ρ2 = ρ1 := by intros; rfl) : Et (tAnd t u) ρ (a && b) ρ2 := fun c A σ H Q R f q =>
  h c A σ H _ R f fun A1 H1 R1 f1 S1 => by
    cases a with
    | true => exact g rfl c A1 σ H1 _ R1 f1 fun A2 H2 R2 f2 S2 => q A2 H2 R2 f2 (S1.trans S2)
    | false => exact q A1 H1 (by rw [hn rfl]; exact R1) f1 S1
theorem et_or {t u : TT} {a b : Bool} (h : Et t ρ a ρ1) (g : a = false → Et u ρ1 b ρ2) (hn : a = true → ρ2 = ρ1 := by intros; rfl) : Et (tOr t u) ρ (a || b) ρ2 := fun c A σ H Q R f q =>
  h c A σ H _ R f fun A1 H1 R1 f1 S1 => by
    cases a with
    | false => exact g rfl c A1 σ H1 _ R1 f1 fun A2 H2 R2 f2 S2 => q A2 H2 R2 f2 (S1.trans S2)
    | true => exact q A1 H1 (by rw [hn rfl]; exact R1) f1 S1
theorem ev_andV {a b : Bool} (h : Ev ta ρ (.d (.bool a)) ρ1) (g : a = true → Ev tb ρ1 (.d (.bool b)) ρ2) (hn : a = false → ρ2 = ρ1 := by intros; rfl) : Ev (tAndV ta tb) ρ (.d (.bool (a && b))) ρ2 := fun c A σ H Q R f q =>
  h c A σ H _ R f fun v A1 H1 R1 f1 S1 o1 => ⟨a, bool_v o1, by
    cases a with
    | true => exact g rfl c A1 σ H1 _ R1 f1 fun v A2 H2 R2 f2 S2 o2 => q v A2 H2 R2 f2 (S1.trans S2) o2
    | false => exact q _ A1 H1 (by rw [hn rfl]; exact R1) f1 S1 (.bl false)⟩
theorem ev_orV {a b : Bool} (h : Ev ta ρ (.d (.bool a)) ρ1) (g : a = false → Ev tb ρ1 (.d (.bool b)) ρ2) (hn : a = true → ρ2 = ρ1 := by intros; rfl) : Ev (tOrV ta tb) ρ (.d (.bool (a || b))) ρ2 := fun c A σ H Q R f q =>
  h c A σ H _ R f fun v A1 H1 R1 f1 S1 o1 => ⟨a, bool_v o1, by
    cases a with
    | false => exact g rfl c A1 σ H1 _ R1 f1 fun v A2 H2 R2 f2 S2 o2 => q v A2 H2 R2 f2 (S1.trans S2) o2
    | true => exact q _ A1 H1 (by rw [hn rfl]; exact R1) f1 S1 (.bl true)⟩
theorem ev_notV {a : Bool} (h : Ev ta ρ (.d (.bool a)) ρ1) : Ev (tNotV ta) ρ (.d (.bool (!a))) ρ1 := fun c A σ H Q R f q =>
  h c A σ H _ R f fun v A1 H1 R1 f1 S1 o1 => ⟨a, bool_v o1, q _ A1 H1 R1 f1 S1 (.bl _)⟩
theorem ev_if {t : TT} {b : Bool} (h : Et t ρ b ρ1) (h1 : b = true → Ev ta ρ1 s ρ2) (h2 : b = false → Ev tb ρ1 s ρ2) : Ev (tIf t ta tb) ρ s ρ2 := fun c A σ H Q R f q =>
  h c A σ H _ R f fun A1 H1 R1 f1 S1 => by
    cases b with
    | true => exact h1 rfl c A1 σ H1 _ R1 f1 fun v A2 H2 R2 f2 S2 o2 => q v A2 H2 R2 f2 (S1.trans S2) o2
    | false => exact h2 rfl c A1 σ H1 _ R1 f1 fun v A2 H2 R2 f2 S2 o2 => q v A2 H2 R2 f2 (S1.trans S2) o2
theorem el_if {t : TT} {b : Bool} (h : Et t ρ b ρ1) (h1 : b = true → El ta ρ1 xs ρ2) (h2 : b = false → El tb ρ1 xs ρ2) : El (tIf t ta tb) ρ xs ρ2 := fun c A σ H Q R f q =>
  h c A σ H _ R f fun A1 H1 R1 f1 S1 => by
    cases b with
    | true => exact h1 rfl c A1 σ H1 _ R1 f1 fun a vs A2 H2 R2 f2 S2 => q a vs A2 H2 R2 f2 (S1.trans S2)
    | false => exact h2 rfl c A1 σ H1 _ R1 f1 fun a vs A2 H2 R2 f2 S2 => q a vs A2 H2 R2 f2 (S1.trans S2)
theorem eo_none : Eo tNoPart ρ none ρ := fun c A σ H Q R f q => q A H R f (Same.refl _)
theorem eo_some {n : Int} (h : Ev te ρ (.d (.int n)) ρ') : Eo (tPart te) ρ (some n) ρ' := fun c A σ H Q R f q =>
  h c A σ H _ R f fun v A1 H1 R1 f1 S1 o1 => ⟨n, int_v o1, q A1 H1 R1 f1 S1⟩
end
end OW
set_option Elab.async false
set_option linter.unusedVariables false
set_option linter.unusedSectionVars false
set_option maxRecDepth 100000
set_option maxHeartbeats 1000000
namespace OW
open PySem PySem.Spec PyProof.Rows L2 KA
variable [Tbs]
/-! ### promises -/
noncomputable def hz (Z : Addr → Prop) (H : Hp) : Hp := vw Z (fun _ => none) H
theorem hz_some {Z : Addr → Prop} {H : Hp} {b : Addr} {o : HO} (h : hz Z H b = some o) : ¬ Z b ∧ H b = some o := ⟨(vw_some h).1, (vw_some h).2.2⟩
theorem hz_mk {Z : Addr → Prop} {H : Hp} {b : Addr} {o : HO} (h : ¬ Z b) (e : H b = some o) : hz Z H b = some o := vw_mk h (fun i z => by cases z) e
abbrev zz (Z : Addr → Prop) (A : Am) : Addr → Prop := fun b => Z b ∨ ∃ i, A i = some b
theorem hz_eq {Z : Addr → Prop} {A : Am} {H : Hp} : hz (zz Z A) H = vw Z A H := by
  funext b
  by_cases h : zz Z A b
  · have e1 : vw Z A H b = none := by unfold vw; rw [if_pos h]
    have e2 : hz (zz Z A) H b = none := by unfold hz vw; rw [if_pos (Or.inl h)]
    rw [e1, e2]
  · have e1 : vw Z A H b = H b := by unfold vw; rw [if_neg h]
    have e2 : hz (zz Z A) H b = H b := by
      unfold hz vw
      rw [if_neg]
      rintro (z | ⟨i, z⟩)
      · exact h z
      · cases z
    rw [e1, e2]
theorem vw_hz {Z : Addr → Prop} {A : Am} {H : Hp} : Same (vw Z A H) (hz Z H) := fun b o e => hz_mk (vw_some e).1 (vw_some e).2.2
inductive Rv where
  | d (x : PyData)
  | l (xs : List PyData)
  | p (P : Mo)
def RvOk (Z : Addr → Prop) (H H' : Hp) (v : V) : Rv → Prop
  | .d x => Dn (hz Z H') v x
  | .l xs => ∃ a vs, v = .ref a ∧ H a = none ∧ H' a = some (.lst vs) ∧ DnAll (hid a (hz Z H')) vs xs
  | .p P => P.P v (hz Z H')
structure ZOk (Z : Addr → Prop) (H : Hp) : Prop where
  there : ∀ a, Z a → H a ≠ none
  tz : ∀ a, tabA a → Z a
  tb : Tb (hz Z H) H
/-- behind a call: all but the tables stays, the tables are good -/
structure Aft (Z : Addr → Prop) (H H' : Hp) : Prop where
  same : ∀ b o, H b = some o → ¬ tabA b → H' b = some o
  tb : Tb (hz Z H') H'
theorem Aft.of {Z : Addr → Prop} {H H' : Hp} (S : Same H H') (t : Tb (hz Z H) H) : Aft Z H H' := ⟨fun b o e _ => S b o e, t.mono (vw_up S) (t.same S)⟩
def spD (n : Nat) (T : List Sl → (Rv → Prop) → Prop) : Sp := fun vs H Q _ => ∃ (Z : Addr → Prop) (as : List Sl) (K : Rv → Prop), ZOk Z H ∧ ArAll (hz Z H) vs as ∧ as.length = n ∧ T as K ∧
  ∀ r v H', K r → Aft Z H H' → RvOk Z H H' v r → Q v H'
def spB (n : Nat) (T : List PyData → List Sl → (Rv → List PyData → Prop) → Prop) : Sp := fun vs H Q _ => ∃ (Z : Addr → Prop) (p : Addr) (cs : List V) (c : List PyData) (ws : List V) (as : List Sl) (K : Rv → List PyData → Prop),
  vs = .ref p :: ws ∧ Z p ∧ ZOk Z H ∧ H p = some (.lst cs) ∧ DnAll (hz Z H) cs c ∧ ArAll (hz Z H) ws as ∧ as.length = n ∧ T c as K ∧
  ∀ r c' cs' v H', K r c' → H' p = some (.lst cs') → DnAll (hz Z H') cs' c' → ((∀ a, Z a → a ≠ p → ¬ tabA a → H' a = H a) ∧ Tb (hz Z H') H') → Same (hz Z H) (hz Z H') → RvOk Z H H' v r → Q v H'
section
variable {c : Fr} {A : Am} {ρ ρ' ρ1 ρ2 : List Sl} {σ : L2.St} {H H' : Hp} {ta te : TE} {tr : TA} {x : PyData} {xs : List PyData} {s : Sl} {ss ds : List Sl} {i : Nat}
theorem vw_adopt {Z : Addr → Prop} {a : Addr} : Same (hid a (vw Z A H)) (vw Z (aset A fl (some a)) H) := fun b o e => by
  obtain ⟨n, e⟩ := hid_some e
  obtain ⟨h1, h2, h3⟩ := vw_some e
  refine vw_mk h1 (fun j z => ?_) h3
  by_cases q : j = fl
  · rw [q, aset_at] at z
    exact n (Option.some.inj z).symm
  · rw [aset_ne q] at z
    exact h2 j z
theorem zz_ok (R : Rp c A ρ σ H) : ZOk (zz c.Z A) H where
  there a z := by
    rcases z with z | ⟨i, z⟩
    · exact R.there z
    · exact R.live _ _ z
  tz a t := Or.inl (R.tz a t)
  tb := by rw [hz_eq]; exact R.tb
theorem vw_upA (R : Rp c A ρ σ H) (S : Aft (zz c.Z A) H H') : Same (vw c.Z A H) (vw c.Z A H') := fun b o e => by
  obtain ⟨h1, h2, h3⟩ := vw_some e
  exact vw_mk h1 h2 (S.same b o h3 fun t => h1 (R.tz b t))
theorem Rp.upA (R : Rp c A ρ σ H) (S : Aft (zz c.Z A) H H') : Rp c A ρ σ H' where
  len := R.len
  sz := R.sz
  inj := R.inj
  off := R.off
  live i a e := by
    obtain ⟨o, h⟩ := Option.ne_none_iff_exists'.mp (R.live i a e)
    rw [S.same _ _ h (R.nt e)]
    simp
  keep a z t := by
    obtain ⟨h1, h2⟩ := R.keep a z t
    refine ⟨h1, ?_⟩
    obtain ⟨o, h⟩ := Option.ne_none_iff_exists'.mp h1
    rw [h] at h2 ⊢
    exact S.same _ _ h2 t
  old := R.old.trans (vw_upA R S)
  bor := R.bor
  sl i s e := (R.sl i s e).mono (vw_upA R S) fun a vs e' h => S.same _ _ h (R.nt e')
  tz := R.tz
  tb := by have t := S.tb; rw [hz_eq] at t; exact t
theorem Rp.adopt (R : Rp c A ρ σ H) (S : Aft (zz c.Z A) H H') {a : Addr} {vs : List V} (n : H a = none) (e : H' a = some (.lst vs)) : Rp c (aset A fl (some a)) ρ σ H' := by
  have S1 : Aft (zz c.Z A) H (hid a H') := by
    refine ⟨fun b o z t => ?_, fun p hp => ?_⟩
    · rw [hid_ne (ne_of_none z n)]
      exact S.same b o z t
    · obtain ⟨ps, g1, g2, g3⟩ := S.tb p hp
      refine ⟨ps, ?_, g2, fun pos cv h => ?_⟩
      · rw [hid_ne]
        · exact g1
        · intro q
          rw [q, e] at g1
          cases g1
      · obtain ⟨c', k1, k2⟩ := g3 pos cv h
        refine ⟨c', k1, ?_⟩
        obtain ⟨m1, m2⟩ := hz_some k2
        refine hz_mk m1 ?_
        rw [hid_ne]
        · exact m2
        · intro q
          rw [q, e] at m2
          have m3 := Option.some.inj m2
          unfold LamX.CodeO at m3
          cases m3
  have R1 := (R.upA S1).fly (a := a) (o := .lst vs) hid_at
  have e1 : upd (hid a H') a (.lst vs) = H' := by
    funext b
    by_cases q : b = a
    · rw [q, upd_same, e]
    · rw [upd_ne q, hid_ne q]
  rw [e1] at R1
  exact R1
theorem ev_call {n : Nat} {T : List Sl → (Rv → Prop) → Prop} {dvs : List V} {E : XK} (h : Es tr ρ ss ρ') (hd : ∀ W, ArAll W dvs ds) (hn : (ss ++ ds).length = n) (g : T (ss ++ ds) fun r => r = .d x) : Ev (tCall (spD n T) dvs E tr) ρ (.d x) ρ' := fun c A σ H Q R f q =>
  h c A σ H _ R f fun vs A1 H1 R1 f1 S1 o1 => by
    refine ⟨zz c.Z A1, ss ++ ds, _, zz_ok R1, by rw [hz_eq]; exact o1.append (hd _), hn, g, fun r v H' hr S o => ?_⟩
    · subst hr
      have o : Dn (hz (zz c.Z A1) H') v x := o
      rw [hz_eq] at o
      exact q v A1 H' (R1.upA S) f1 (S1.trans (vw_upA R1 S)) o
theorem evp_call {n : Nat} {T : List Sl → (Rv → Prop) → Prop} {dvs : List V} {E : XK} {P : Mo} (h : Es tr ρ ss ρ') (hd : ∀ W, ArAll W dvs ds) (hn : (ss ++ ds).length = n) (g : T (ss ++ ds) fun r => r = .p P) : Ev (tCall (spD n T) dvs E tr) ρ (.p P) ρ' := fun c A σ H Q R f q =>
  h c A σ H _ R f fun vs A1 H1 R1 f1 S1 o1 => by
    refine ⟨zz c.Z A1, ss ++ ds, _, zz_ok R1, by rw [hz_eq]; exact o1.append (hd _), hn, g, fun r v H' hr S o => ?_⟩
    · subst hr
      have o : P.P v (hz (zz c.Z A1) H') := o
      rw [hz_eq] at o
      exact q v A1 H' (R1.upA S) f1 (S1.trans (vw_upA R1 S)) o
theorem el_call {n : Nat} {T : List Sl → (Rv → Prop) → Prop} {dvs : List V} {E : XK} (h : Es tr ρ ss ρ') (hd : ∀ W, ArAll W dvs ds) (hn : (ss ++ ds).length = n) (g : T (ss ++ ds) fun r => r = .l xs) : El (tCall (spD n T) dvs E tr) ρ xs ρ' := fun c A σ H Q R f q =>
  h c A σ H _ R f fun vs A1 H1 R1 f1 S1 o1 => by
    refine ⟨zz c.Z A1, ss ++ ds, _, zz_ok R1, by rw [hz_eq]; exact o1.append (hd _), hn, g, fun r v H' hr S o => ?_⟩
    · subst hr
      obtain ⟨a, us, rfl, n, e, dx⟩ := o
      rw [hz_eq] at dx
      refine q a us _ H' (R1.adopt S n e) aset_at (S1.trans ?_) e (DnAll.mono vw_adopt dx)
      exact fun b o z => vw_adopt (A := A1) b o (by rw [hid_ne (ne_of_none (vw_some z).2.2 n)]; exact vw_upA R1 S _ _ z)
theorem ar_nil : ∀ W : Hp, ArAll W [] [] := fun _ => trivial
theorem Rp.back (R : Rp c A ρ σ H) {i : Nat} {p : Addr} {c0 c1 : List PyData} {cs : List V} (h : ρ[i]? = some (.l c0)) (e : A i = some p) (e' : H' p = some (.lst cs)) (dx : DnAll (hz (zz c.Z A) H') cs c1) (hz' : (∀ a, zz c.Z A a → a ≠ p → ¬ tabA a → H' a = H a) ∧ Tb (hz (zz c.Z A) H') H') (S : Same (hz (zz c.Z A) H) (hz (zz c.Z A) H')) :
    Rp c A (ρ.set i (.l c1)) σ H' := by
  have ev : vw c.Z A (fun b => if b = p then H p else H' b) = vw c.Z A H' := by
    funext b
    unfold vw
    split
    · rfl
    · rename_i q
      have : b ≠ p := fun z => q (Or.inr ⟨i, z ▸ e⟩)
      exact if_neg this
  have S2 : Aft (zz c.Z A) H (fun b => if b = p then H p else H' b) := by
    refine ⟨fun b o z t => ?_, ?_⟩
    · show (if b = p then H p else H' b) = some o
      by_cases q : b = p
      · rw [if_pos q, ← q]
        exact z
      · rw [if_neg q]
        by_cases q' : zz c.Z A b
        · rw [hz'.1 b q' q t]
          exact z
        · exact (hz_some (S _ _ (hz_mk q' z))).2
    · have t := hz'.2
      rw [hz_eq] at t ⊢
      rw [ev]
      exact t.mono (Same.refl _) fun b hb => if_neg (show ¬ b = p from fun q => R.nt e (q ▸ hb))
  have R2 := R.upA S2
  have R3 := R2.mut (vs := cs) (xs := c1) h e (by rw [ev, ← hz_eq]; exact dx)
  have e3 : upd (fun b => if b = p then H p else H' b) p (.lst cs) = H' := by
    funext b
    by_cases q : b = p
    · rw [q, upd_same, e']
    · rw [upd_ne q]
      exact if_neg q
  rw [e3] at R3
  exact R3
theorem vw_back {Z : Addr → Prop} (S : Same (hz (zz Z A) H) (hz (zz Z A) H')) : Same (vw Z A H) (vw Z A H') := by
  rw [hz_eq, hz_eq] at S
  exact S
theorem ev_callB {n : Nat} {T : List PyData → List Sl → (Rv → List PyData → Prop) → Prop} {dvs : List V} {E : XK} {c00 c0 c1 : List PyData} (h0 : ρ[i]? = some (.l c00)) (h : Es tr ρ ss ρ1) (hi : ρ1[i]? = some (.l c0)) (hd : ∀ W, ArAll W dvs ds) (hn : (ss ++ ds).length = n) (g : T c0 (ss ++ ds) fun r c' => r = .d x ∧ c' = c1) :
    Ev (tCall (spB n T) dvs E (tCons (tVar i) tr)) ρ (.d x) (ρ1.set i (.l c1)) := fun c A σ H Q R f q => by
  obtain ⟨p0, _, _, e0, _, _⟩ := R.sl i _ h0
  refine ⟨_, e0, h c A σ H _ R f fun vs A1 H1 R1 f1 S1 o1 => ?_⟩
  obtain ⟨p, cs, ep, e1, eH, dc⟩ := R1.sl i _ hi
  rw [e0] at e1
  cases e1
  refine ⟨zz c.Z A1, p0, cs, c0, vs ++ dvs, ss ++ ds, _, rfl, Or.inr ⟨i, ep⟩, zz_ok R1, eH, by rw [hz_eq]; exact dc, by rw [hz_eq]; exact o1.append (hd _), hn, g, fun r c' cs' v H' hr e' dc' k S o => ?_⟩
  · obtain ⟨rfl, rfl⟩ := hr
    have o : Dn (hz (zz c.Z A1) H') v x := o
    have R2 := R1.back hi ep e' dc' k S
    rw [hz_eq] at o
    exact q v A1 H' R2 f1 (S1.trans (vw_back S)) o
end
end OW
set_option Elab.async false
set_option linter.unusedVariables false
set_option linter.unusedSectionVars false
set_option maxRecDepth 100000
set_option maxHeartbeats 1000000
namespace OW
open PySem PySem.Spec PyProof.Rows L2 KA
variable [Tbs]
/-! ### statements -/
structure KK where
  nx : List Sl → Prop
  rt : Rv → List Sl → Prop
  bk : List Sl → Prop := fun _ => False
  ct : List Sl → Prop := fun _ => False
def RvAt (c : Fr) (A : Am) (H : Hp) (v : V) : Rv → Prop
  | .d x => A fl = none ∧ Dn (vw c.Z A H) v x
  | .l xs => ∃ a vs, A fl = some a ∧ v = .ref a ∧ H a = some (.lst vs) ∧ DnAll (vw c.Z A H) vs xs
  | .p P => A fl = none ∧ P.P v (vw c.Z A H)
structure DK (c : Fr) (K : KK) (D : Ends) : Prop where
  nx : ∀ ρ A σ H, K.nx ρ → Rp c A ρ σ H → A fl = none → D.nx σ H
  rt : ∀ r ρ v A σ H, K.rt r ρ → Rp c A ρ σ H → RvAt c A H v r → D.rt v H
  bk : ∀ ρ A σ H, K.bk ρ → Rp c A ρ σ H → A fl = none → D.bk σ H
  ct : ∀ ρ A σ H, K.ct ρ → Rp c A ρ σ H → A fl = none → D.ct σ H
def Sm (t : TS) (ρ : List Sl) (K : KK) : Prop := ∀ (c : Fr) (A : Am) (σ : L2.St) (H : Hp) (D : Ends), Rp c A ρ σ H → A fl = none → DK c K D → t D σ H
/-- a target takes s -/
def Tg (g : TG) (s : Sl) (ρ ρ' : List Sl) : Prop := ∀ (c : Fr) (A : Am) (σ : L2.St) (H : Hp) (v : V) (Q : L2.St → Hp → Prop), Rp c A ρ σ H → A fl = none → ArOk (vw c.Z A H) v s →
  (∀ A' σ' H', Rp c A' ρ' σ' H' → A' fl = none → Same (vw c.Z A H) (vw c.Z A' H') → Q σ' H') → g v σ H Q
def Tgs (g : TGs) (ss : List Sl) (ρ ρ' : List Sl) : Prop := ∀ (c : Fr) (A : Am) (σ : L2.St) (H : Hp) (vs : List V) (Q : L2.St → Hp → Prop), Rp c A ρ σ H → A fl = none → ArAll (vw c.Z A H) vs ss →
  (∀ A' σ' H', Rp c A' ρ' σ' H' → A' fl = none → Same (vw c.Z A H) (vw c.Z A' H') → Q σ' H') → g vs σ H Q
section
variable {ρ ρ' ρ1 ρ2 : List Sl} {te ta tb : TE} {s s' : Sl} {x y : PyData} {i : Nat} {tr : TA} {xs ys : List PyData} {ss : List Sl} {t u : TS} {K : KK} {g : TG} {gs : TGs} {KF : PySem.W.Frag}
theorem ArOk.sl {W H : Hp} {v : V} : ∀ {s : Sl}, ArOk W v s → SlOk W H (some (some v)) none s
  | .d _, h => ⟨rfl, v, rfl, h⟩
  | .p _, h => ⟨rfl, v, rfl, h⟩
  | .un, h | .any, h | .l _, h | .la _ _, h | .wa _ _, h | .dk _, h | .lm _, h => h.elim
theorem tg_name (i0 : i ≠ 0 := by decide) (i1 : i ≠ fl := by decide) : Tg (gName i) s ρ (ρ.set i s) := fun c A σ H v Q R f o q =>
  q _ _ H (R.set i0 o.sl) (by rw [aset_ne i1.symm]; exact f) vw_land
theorem tgs_nil : Tgs gNil [] ρ ρ := fun c A σ H vs Q R f o q => by
  cases vs with
  | nil => exact ⟨rfl, q A σ H R f (Same.refl _)⟩
  | cons _ _ => exact o.elim
theorem tgs_cons (h : Tg g s ρ ρ1) (k : Tgs gs ss ρ1 ρ2) : Tgs (gCons g gs) (s :: ss) ρ ρ2 := fun c A σ H vs Q R f o q => by
  cases vs with
  | nil => exact o.elim
  | cons v vs => exact ⟨v, vs, rfl, h c A σ H v _ R f o.1 fun A1 σ1 H1 R1 f1 S1 => k c A1 σ1 H1 vs _ R1 f1 (o.2.mono S1) fun A2 σ2 H2 R2 f2 S2 => q A2 σ2 H2 R2 f2 (S1.trans S2)⟩
theorem tg_tup {n : Nat} (h : Tgs gs (xs.map Sl.d) ρ ρ1) (len : xs.length = n := by rfl) : Tg (gTup KF n gs) (.d (.tuple xs)) ρ ρ1 := fun c A σ H v Q R f o q => by
  obtain ⟨a, vs, rfl, e, dx⟩ := tup_v o
  exact ⟨a, vs, rfl, SqT.of (vw_sub _ _ e), dx.length.trans len, h c A σ H vs _ R f (arAll_d dx) q⟩
theorem sm_next (k : K.nx ρ) : Sm tNext ρ K := fun c A σ H D R f dk => dk.nx _ _ _ _ k R f
theorem sm_seq (h : Sm t ρ { K with nx := fun ρ' => Sm u ρ' K }) : Sm (tSeq t u) ρ K := fun c A σ H D R f dk =>
  h c A σ H { D with nx := u D } R f ⟨fun ρ' A' σ' H' hk R' f' => hk c A' σ' H' D R' f' dk, dk.rt, dk.bk, dk.ct⟩
theorem sm_break (k : K.bk ρ) : Sm tBreak ρ K := fun c A σ H D R f dk => dk.bk _ _ _ _ k R f
theorem sm_cont (k : K.ct ρ) : Sm tCont ρ K := fun c A σ H D R f dk => dk.ct _ _ _ _ k R f
theorem sm_asg (h : Ev te ρ s ρ1) (hg : Tg g s ρ1 ρ2) (k : K.nx ρ2) : Sm (tAsg te g) ρ K := fun c A σ H D R f dk =>
  h c A σ H _ R f fun v A1 H1 R1 f1 S1 o1 => hg c A1 σ H1 v _ R1 f1 o1 fun A2 σ2 H2 R2 f2 S2 => dk.nx _ _ _ _ k R2 f2
theorem sm_set (h : Ev te ρ s ρ1) (k : K.nx (ρ1.set i s)) (i0 : i ≠ 0 := by decide) (i1 : i ≠ fl := by decide) : Sm (tAsg te (gName i)) ρ K := sm_asg h (tg_name i0 i1) k
theorem sm_setL (h : El te ρ xs ρ1) (k : K.nx (ρ1.set i (.l xs))) (i0 : i ≠ 0 := by decide) (hi : i < ρ1.length := by simp [uns]) : Sm (tAsg te (gName i)) ρ K := fun c A σ H D R f dk =>
  h c A σ H _ R f fun a vs A1 H1 R1 f1 S1 e dx => dk.nx _ _ _ _ k (R1.setL i0 hi f1 e dx) aset_at
theorem sm_drop (h : Ev te ρ s ρ1) (k : K.nx ρ1) : Sm (tDrop te) ρ K := fun c A σ H D R f dk => h c A σ H _ R f fun v A1 H1 R1 f1 S1 o1 => dk.nx _ _ _ _ k R1 f1
theorem sm_ret (h : Ev te ρ (.d x) ρ1) (k : K.rt (.d x) ρ1) : Sm (tRet te) ρ K := fun c A σ H D R f dk => h c A σ H _ R f fun v A1 H1 R1 f1 S1 o1 => dk.rt _ _ v _ σ _ k R1 ⟨f1, o1⟩
theorem sm_retP {P : Mo} (h : Ev te ρ (.p P) ρ1) (k : K.rt (.p P) ρ1) : Sm (tRet te) ρ K := fun c A σ H D R f dk => h c A σ H _ R f fun v A1 H1 R1 f1 S1 o1 => dk.rt _ _ v _ σ _ k R1 ⟨f1, o1⟩
theorem sm_retL (h : El te ρ xs ρ1) (k : K.rt (.l xs) ρ1) : Sm (tRet te) ρ K := fun c A σ H D R f dk => h c A σ H _ R f fun a vs A1 H1 R1 f1 S1 e dx => dk.rt _ _ _ _ σ _ k R1 ⟨a, vs, f1, rfl, e, dx⟩
/-- the list in a slot is told (the slot isn't the caller's) -/
theorem vw_toFl {Z : Addr → Prop} {A : Am} {H : Hp} {a : Addr} (e : A i = some a) : Same (vw Z A H) (vw Z (aset (aset A i none) fl (some a)) H) := vw_less fun j b z => by
  by_cases q : j = fl
  · rw [q, aset_at] at z
    exact ⟨i, by rw [e, ← z]⟩
  · rw [aset_ne q] at z
    by_cases q' : j = i
    · rw [q', aset_at] at z
      cases z
    · rw [aset_ne q'] at z
      exact ⟨j, z⟩
theorem Rp.toFl {c : Fr} {A : Am} {σ : L2.St} {H : Hp} (R : Rp c A ρ σ H) {a : Addr} (i0 : i ≠ 0) (h : ρ[i]? = some (.l xs)) (e : A i = some a) : Rp c (aset (aset A i none) fl (some a)) (ρ.set i .any) σ H := by
  have ni : i ≠ fl := idx_small R.sz h
  have back : ∀ j b, aset (aset A i none) fl (some a) j = some b → (j = fl ∧ b = a) ∨ (j ≠ i ∧ j ≠ fl ∧ A j = some b) := fun j b z => by
    by_cases q : j = fl
    · rw [q, aset_at] at z
      exact Or.inl ⟨q, (Option.some.inj z).symm⟩
    · rw [aset_ne q] at z
      by_cases q' : j = i
      · rw [q', aset_at] at z
        cases z
      · rw [aset_ne q'] at z
        exact Or.inr ⟨q', q, z⟩
  refine ⟨by rw [List.length_set, R.len], by rw [List.length_set]; exact R.sz, ?_, ?_, ?_, R.keep, R.old.trans (vw_toFl e), ?_, ?_, R.tz, R.tb.mono (vw_toFl e) fun _ _ => rfl⟩
  · intro k j b z z'
    rcases back k b z with ⟨q1, q2⟩ | ⟨n1, n2, y⟩
    · rcases back j b z' with ⟨q3, _⟩ | ⟨n3, n4, y'⟩
      · rw [q1, q3]
      · exact absurd (R.inj _ _ _ (q2 ▸ y') e) n3
    · rcases back j b z' with ⟨q3, q4⟩ | ⟨n3, n4, y'⟩
      · exact absurd (R.inj _ _ _ (q4 ▸ y) e) n1
      · exact R.inj _ _ _ y y'
  · intro j b z
    rcases back j b z with ⟨_, q⟩ | ⟨_, _, y⟩
    · rw [q]
      exact R.off _ _ e
    · exact R.off _ _ y
  · intro j b z
    rcases back j b z with ⟨_, q⟩ | ⟨_, _, y⟩
    · rw [q]
      exact R.live _ _ e
    · exact R.live _ _ y
  · intro p z
    rw [aset_ne (by decide), aset_ne i0.symm]
    exact R.bor p z
  · intro j t z
    by_cases q : j = i
    · subst q
      have lt := (List.getElem?_eq_some_iff.mp h).1
      rw [List.getElem?_set_self lt] at z
      cases z
      show aset (aset A j none) fl (some a) j = none
      rw [aset_ne ni, aset_at]
    · rw [List.getElem?_set_ne (Ne.symm q)] at z
      rw [aset_ne (idx_small R.sz z), aset_ne q]
      exact (R.sl j t z).mono (vw_toFl e) fun _ _ _ h => h
theorem el_var (h : ρ[i]? = some (.l xs)) (i0 : i ≠ 0 := by decide) : El (tVar i) ρ xs (ρ.set i .any) := fun c A σ H Q R f q => by
  obtain ⟨a, vs, e, e1, e2, dx⟩ := R.sl i _ h
  exact ⟨_, e1, q a vs _ H (R.toFl i0 h e) aset_at (vw_toFl e) e2 (DnAll.mono (vw_toFl e) dx)⟩
theorem sm_retN (k : K.rt (.d .none) ρ) : Sm tRetN ρ K := fun c A σ H D R f dk => dk.rt _ _ _ _ σ _ k R ⟨f, .non⟩
theorem sm_if {tt : TT} {b : Bool} (h : Et tt ρ b ρ1) (h1 : b = true → Sm t ρ1 K) (h2 : b = false → Sm u ρ1 K) : Sm (tIfS tt t u) ρ K := fun c A σ H D R f dk =>
  h c A σ H _ R f fun A1 H1 R1 f1 S1 => by
    cases b with
    | true => exact h1 rfl c A1 σ H1 D R1 f1 dk
    | false => exact h2 rfl c A1 σ H1 D R1 f1 dk
theorem sm_mono {K K' : KK} (h : Sm t ρ K) (nx : ∀ ρ, K.nx ρ → K'.nx ρ) (rt : ∀ r ρ, K.rt r ρ → K'.rt r ρ) (bk : ∀ ρ, K.bk ρ → K'.bk ρ) (ct : ∀ ρ, K.ct ρ → K'.ct ρ) : Sm t ρ K' := fun c A σ H D R f dk =>
  h c A σ H D R f ⟨fun ρ A σ H k => dk.nx ρ A σ H (nx ρ k), fun r ρ v A σ H k => dk.rt r ρ v A σ H (rt r ρ k), fun ρ A σ H k => dk.bk ρ A σ H (bk ρ k), fun ρ A σ H k => dk.ct ρ A σ H (ct ρ k)⟩
/-! loops -/
theorem dn_at {H : Hp} {xs : List V} {ds : List PyData} {i : Nat} {x : V} (r : DnAll H xs ds) (h : xs[i]? = some x) : ∃ d, ds[i]? = some d ∧ Dn H x d := by
  have lt := (List.getElem?_eq_some_iff.mp h).1
  have lt' : i < ds.length := by rw [← r.length]; exact lt
  obtain ⟨v, e, dn⟩ := r.get (List.getElem?_eq_getElem lt')
  rw [h] at e
  cases e
  exact ⟨_, List.getElem?_eq_getElem lt', dn⟩
def Fr.to (c : Fr) (F : Hp) : Fr := { c with F := F }
theorem Rp.refr {c : Fr} {A : Am} {σ : L2.St} {H : Hp} (R : Rp c A ρ σ H) : Rp (c.to (vw c.Z A H)) A ρ σ H := ⟨R.len, R.sz, R.inj, R.off, R.live, R.keep, Same.refl _, R.bor, R.sl, R.tz, R.tb⟩
theorem Rp.unfr {c : Fr} {A : Am} {σ : L2.St} {H F : Hp} (R : Rp (c.to F) A ρ σ H) (S : Same c.F F) : Rp c A ρ σ H := ⟨R.len, R.sz, R.inj, R.off, R.live, R.keep, S.trans R.old, R.bor, R.sl, R.tz, R.tb⟩
def Stp (c : Fr) (R : List Sl → Prop) (σ' : L2.St) (H' : Hp) : Prop := ∃ ρ' A', R ρ' ∧ Rp c A' ρ' σ' H' ∧ A' fl = none
theorem DK.body {c : Fr} {F : Hp} {D : Ends} {R : List Sl → Prop} (dk : DK c K D) (S : Same c.F F) : DK (c.to F) { nx := R, ct := R, bk := K.nx, rt := K.rt } { D with nx := Stp (c.to F) R, ct := Stp (c.to F) R, bk := D.nx } :=
  ⟨fun ρ A σ H k R f => ⟨ρ, A, k, R, f⟩, fun r ρ v A σ H k R o => dk.rt r ρ v A σ H k (R.unfr S) o, fun ρ A σ H k R f => dk.nx ρ A σ H k (R.unfr S) f, fun ρ A σ H k R f => ⟨ρ, A, k, R, f⟩⟩
/-- one turn of a loop: its item taken, its suite -/
def Turn (g : TG) (t : TS) (x : Sl) (ρ : List Sl) (R : List Sl → Prop) (K : KK) : Prop := ∃ ρ2, Tg g x ρ ρ2 ∧ Sm t ρ2 { nx := R, ct := R, bk := K.nx, rt := K.rt }
theorem Turn.run {R : List Sl → Prop} (h : Turn g t s ρ R K) {c : Fr} {F : Hp} {A : Am} {σ : L2.St} {H : Hp} {v : V} {D : Ends} (R' : Rp (c.to F) A ρ σ H) (f : A fl = none) (o : ArOk (vw c.Z A H) v s) (S : Same c.F F) (dk : DK c K D) :
    g v σ H fun σ2 H2 => t { D with nx := Stp (c.to F) R, ct := Stp (c.to F) R, bk := D.nx } σ2 H2 := by
  obtain ⟨ρ2, hg, hb⟩ := h
  exact hg (c.to F) A σ H v _ R' f o fun A2 σ2 H2 R2 f2 S2 => hb (c.to F) A2 σ2 H2 _ R2 f2 (dk.body S)
theorem eds_one {c : Fr} {A : Am} {H : Hp} {vs : List V} {W : Hp} (h : DnAll W vs [x]) : ∃ v, vs = [v] ∧ Dn W v x := by
  cases h with
  | cons a b =>
    cases b
    exact ⟨_, rfl, a⟩
theorem sm_forRange {ta : TA} {n : Int} (h : Eds ta ρ [.int n] ρ1) (small : -(2 ^ 62) ≤ n ∧ n < 2 ^ 62) (R : Nat → List Sl → Prop) (h0 : R 0 ρ1)
    (hs : ∀ (j : Nat) ρ', (j : Int) < n → R j ρ' → Turn g t (.d (.int (j : Int))) ρ' (R (j + 1)) K) (hd : ∀ ρ', R n.toNat ρ' → K.nx ρ') : Sm (tFor (iRng1 ta) g t) ρ K := fun c A σ H D R0 f dk =>
  h c A σ H _ R0 f fun vs A1 H1 R1 f1 S1 o1 => by
    obtain ⟨v, rfl, o⟩ := eds_one (c := c) (A := A) (H := H) o1
    obtain rfl := int_v o
    refine ⟨n, rfl, small.1, small.2, for_range (lo := 0) (n := n.toNat) (fun j σ' H' => Stp (c.to (vw c.Z A1 H1)) (R j) σ' H') ⟨ρ1, A1, h0, R1.refr, f1⟩ ?_ ?_⟩
    · rintro j σ' H' hj ⟨ρ', A', r, R', f'⟩
      rw [Int.zero_add]
      exact (hs j ρ' (by omega) r).run R' f' (.int _) R1.old dk
    · rintro σ' H' ⟨ρ', A', r, R', f'⟩
      exact dk.nx _ _ _ _ (hd _ r) (R'.unfr R1.old) f'
theorem sm_forRange2 {ta : TA} {lo n : Int} (h : Eds ta ρ [.int lo, .int n] ρ1) (small : (-(2 ^ 62) ≤ lo ∧ lo < 2 ^ 62) ∧ -(2 ^ 62) ≤ n ∧ n < 2 ^ 62) (R : Nat → List Sl → Prop) (h0 : R 0 ρ1)
    (hs : ∀ (j : Nat) ρ', lo + (j : Int) < n → R j ρ' → Turn g t (.d (.int (lo + (j : Int)))) ρ' (R (j + 1)) K) (hd : ∀ ρ', R (n - lo).toNat ρ' → K.nx ρ') : Sm (tFor (iRng2 ta) g t) ρ K := fun c A σ H D R0 f dk =>
  h c A σ H _ R0 f fun vs A1 H1 R1 f1 S1 o1 => by
    obtain ⟨v, u, rfl, o, o'⟩ : ∃ v u, vs = [v, u] ∧ Dn _ v (.int lo) ∧ Dn _ u (.int n) := by
      cases o1 with
      | cons a b =>
        obtain ⟨u, rfl, o⟩ := eds_one (c := c) (A := A) (H := H) b
        exact ⟨_, _, rfl, a, o⟩
    obtain rfl := int_v o
    obtain rfl := int_v o'
    refine ⟨lo, n, rfl, ⟨small.1.1, small.1.2, small.2.1, small.2.2⟩, for_range (lo := lo) (n := (n - lo).toNat) (fun j σ' H' => Stp (c.to (vw c.Z A1 H1)) (R j) σ' H') ⟨ρ1, A1, h0, R1.refr, f1⟩ ?_ ?_⟩
    · rintro j σ' H' hj ⟨ρ', A', r, R', f'⟩
      exact (hs j ρ' (by omega) r).run R' f' (.int _) R1.old dk
    · rintro σ' H' ⟨ρ', A', r, R', f'⟩
      exact dk.nx _ _ _ _ (hd _ r) (R'.unfr R1.old) f'
theorem sm_forL (h : Ev te ρ (.d (.list xs)) ρ1) (R : Nat → List Sl → Prop) (h0 : R 0 ρ1) (hs : ∀ (j : Nat) x ρ', xs[j]? = some x → R j ρ' → Turn g t (.d x) ρ' (R (j + 1)) K) (hd : ∀ ρ', R xs.length ρ' → K.nx ρ') : Sm (tFor (iList KF te) g t) ρ K := fun c A σ H D R0 f dk =>
  h c A σ H _ R0 f fun v A1 H1 R1 f1 S1 o1 => by
    obtain ⟨a, vs, rfl, e, dx⟩ := lst_v o1
    refine ⟨a, rfl, ⟨_, SqL.of (vw_sub _ _ e)⟩, for_list (xs := vs) (fun j σ' H' => Stp (c.to (vw c.Z A1 H1)) (R j) σ' H') ⟨ρ1, A1, h0, R1.refr, f1⟩ ?_ ?_ ?_⟩
    · rintro j σ' H' _ ⟨ρ', A', r, R', f'⟩
      exact SqL.of (vw_sub _ _ (R'.old _ _ e))
    · rintro j w σ' H' hj ⟨ρ', A', r, R', f'⟩
      obtain ⟨x, hx, dn⟩ := dn_at (DnAll.mono R'.old dx) hj
      exact (hs j x ρ' hx r).run R' f' dn R1.old dk
    · rintro σ' H' ⟨ρ', A', r, R', f'⟩
      rw [dx.length] at r
      exact dk.nx _ _ _ _ (hd _ r) (R'.unfr R1.old) f'
theorem sm_forT (h : Ev te ρ (.d (.tuple xs)) ρ1) (R : Nat → List Sl → Prop) (h0 : R 0 ρ1) (hs : ∀ (j : Nat) x ρ', xs[j]? = some x → R j ρ' → Turn g t (.d x) ρ' (R (j + 1)) K) (hd : ∀ ρ', R xs.length ρ' → K.nx ρ') : Sm (tFor (iTup KF te) g t) ρ K := fun c A σ H D R0 f dk =>
  h c A σ H _ R0 f fun v A1 H1 R1 f1 S1 o1 => by
    obtain ⟨a, vs, rfl, e, dx⟩ := tup_v o1
    refine ⟨a, rfl, ⟨_, SqT.of (vw_sub _ _ e)⟩, for_tup (xs := vs) (fun j σ' H' => Stp (c.to (vw c.Z A1 H1)) (R j) σ' H') ⟨ρ1, A1, h0, R1.refr, f1⟩ ?_ ?_ ?_⟩
    · rintro j σ' H' _ ⟨ρ', A', r, R', f'⟩
      exact SqT.of (vw_sub _ _ (R'.old _ _ e))
    · rintro j w σ' H' hj ⟨ρ', A', r, R', f'⟩
      obtain ⟨x, hx, dn⟩ := dn_at (DnAll.mono R'.old dx) hj
      exact (hs j x ρ' hx r).run R' f' dn R1.old dk
    · rintro σ' H' ⟨ρ', A', r, R', f'⟩
      rw [dx.length] at r
      exact dk.nx _ _ _ _ (hd _ r) (R'.unfr R1.old) f'
theorem sm_while {tt : TT} (W : Nat → List Sl → Prop) (h0 : ∃ m, W m ρ) (hs : ∀ m ρ', W m ρ' → ∃ b ρ2, Et tt ρ' b ρ2 ∧ (b = true → Sm t ρ2 { nx := fun ρ3 => ∃ m', m' < m ∧ W m' ρ3, ct := fun ρ3 => ∃ m', m' < m ∧ W m' ρ3, bk := K.nx, rt := K.rt }) ∧ (b = false → K.nx ρ2)) : Sm (tWhile tt t) ρ K := fun c A σ H D R f dk => by
  obtain ⟨m0, h0⟩ := h0
  refine ⟨fun m σ' H' => Stp c (W m) σ' H', ⟨m0, ρ, A, h0, R, f⟩, ?_⟩
  rintro m σ' H' ⟨ρ', A', r, R', f'⟩
  obtain ⟨b, ρ2, ht, h1, h2⟩ := hs m ρ' r
  refine ht c A' σ' H' _ R' f' fun A2 H2 R2 f2 S2 => ?_
  cases b with
  | true =>
    refine ⟨fun σ3 H3 => ∃ m', m' < m ∧ Stp c (W m') σ3 H3, fun σ3 H3 z => z, h1 rfl c A2 σ' H2 _ R2 f2 ⟨?_, dk.rt, dk.nx, ?_⟩⟩
    · rintro ρ3 A3 σ3 H3 ⟨m', lt, w⟩ R3 f3
      exact ⟨m', lt, ρ3, A3, w, R3, f3⟩
    · rintro ρ3 A3 σ3 H3 ⟨m', lt, w⟩ R3 f3
      exact ⟨m', lt, ρ3, A3, w, R3, f3⟩
  | false => exact dk.nx _ _ _ _ (h2 rfl) R2 f2
end
end OW
set_option Elab.async false
set_option linter.unusedVariables false
set_option linter.unusedSectionVars false
set_option maxRecDepth 100000
set_option maxHeartbeats 1000000
namespace OW
open PySem PySem.Spec PyProof.Rows L2 KA
variable [Tbs]
/-! ### defs -/
section
variable {P : Program} {w : World} {K : PySem.W.Frag} {mg : Str → Option Value} {base : Heap} {c : Fr} {A : Am} {ρ ρ' : List Sl} {σ : L2.St} {H H' : Hp}
theorem arAll_at {W : Hp} : ∀ {vs : List V} {ss : List Sl} {i : Nat} {s : Sl}, ArAll W vs ss → ss[i]? = some s → ∃ v, vs[i]? = some v ∧ ArOk W v s
  | v :: vs, t :: ss, 0, s, h, e => by
    cases e
    exact ⟨v, rfl, h.1⟩
  | v :: vs, t :: ss, i + 1, s, h, e => arAll_at (i := i) h.2 e
  | [], [], _, _, _, e => by cases e
  | [], _ :: _, _, _, h, _ => h.elim
  | _ :: _, [], _, _, h, _ => h.elim
theorem start_len {N : List Str} {vs : List V} {n : Nat} (h : vs.length = n) : (start N vs).length = n + (N.length - n) := by
  unfold L2.start
  rw [List.length_append, List.length_map, List.length_replicate, h]
theorem start_arg {N : List Str} {vs : List V} {i : Nat} {v : V} (h : vs[i]? = some v) : (start N vs)[i]? = some (some v) := by
  unfold L2.start
  have lt := (List.getElem?_eq_some_iff.mp h).1
  rw [List.getElem?_append_left (by rw [List.length_map]; exact lt), List.getElem?_map, h]
  rfl
theorem start_un {N : List Str} {vs : List V} {i : Nat} (h : vs.length ≤ i) (h' : i < vs.length + (N.length - vs.length)) : (start N vs)[i]? = some none := by
  unfold L2.start
  rw [List.getElem?_append_right (by rw [List.length_map]; exact h), List.getElem?_replicate, List.length_map, if_pos (by omega)]
theorem rp_start {N : List Str} {vs : List V} {as : List Sl} {n : Nat} {Z : Addr → Prop} (hN : n + N.length < fl) (hZ : ZOk Z H) (ha : ArAll (hz Z H) vs as) (hl : as.length = n) :
    Rp ⟨Z, none, H, hz Z H⟩ (fun _ => none) (as ++ uns (N.length - n)) (start N vs) H where
  len := by
    have := ha.length
    rw [start_len (this.trans hl), List.length_append, hl, uns, List.length_replicate]
  sz := by
    rw [List.length_append, hl, uns, List.length_replicate]
    omega
  inj i j a e := by cases e
  off i a e := by cases e
  live i a e := by cases e
  keep a z _ := ⟨hZ.there a z, rfl⟩
  old := Same.refl _
  tz := hZ.tz
  tb := hZ.tb
  bor p e := by cases e
  sl i s e := by
    have len := ha.length
    by_cases q : i < as.length
    · rw [List.getElem?_append_left q] at e
      obtain ⟨v, e1, o⟩ := arAll_at ha e
      rw [start_arg e1]
      exact o.sl
    · rw [List.getElem?_append_right (by omega), uns, List.getElem?_replicate] at e
      split at e
      · rename_i lt
        cases e
        rw [start_un (by omega) (by omega)]
        exact ⟨rfl, rfl⟩
      · cases e
theorem rv_out {r : Rv} {v : V} {Z : Addr → Prop} (hF : ∀ b o, H b = some o → ¬ Z b → (c.B ≠ some b) → vw c.Z A H' b = some o) (hZ : ∀ b, Z b → c.Z b ∨ ∃ i, i ≠ fl ∧ A i = some b) (hinj : ∀ i j a, A i = some a → A j = some a → i = j) (hoff : ∀ i a, A i = some a → ¬ c.Z a) (hB : ∀ p, c.B = some p → A 0 = some p) (o : RvAt c A H' v r) : RvOk Z H H' v r := by
  have up : Same (vw c.Z A H') (hz Z H') := fun b o e => by
    obtain ⟨h1, h2, h3⟩ := vw_some e
    refine hz_mk (fun z => ?_) h3
    rcases hZ b z with z | ⟨i, _, z⟩
    · exact h1 z
    · exact h2 i z
  cases r with
  | d x => exact Dn.mono up o.2
  | p P => exact P.mono up o.2
  | l xs =>
    obtain ⟨a, vs, f, rfl, e, dx⟩ := o
    refine ⟨a, vs, rfl, ?_, e, DnAll.mono (fun b o z => ?_) dx⟩
    · cases q : H a with
      | none => rfl
      | some u =>
        have nZ : ¬ Z a := fun z => by
          rcases hZ a z with z | ⟨i, n, z⟩
          · exact hoff _ _ f z
          · exact n (hinj _ _ _ z f)
        have nB : c.B ≠ some a := fun z => by
          have := hinj _ _ _ (hB _ z) f
          exact absurd this (by decide)
        exact absurd f ((vw_some (hF a u q nZ nB)).2.1 fl)
    · rw [hid_ne]
      · exact up _ _ z
      · intro q
        exact (vw_some z).2.1 fl (by rw [q]; exact f)
theorem rp_aft {Z : Addr → Prop} (R : Rp ⟨Z, none, H, hz Z H⟩ A ρ σ H') : Aft Z H H' := ⟨fun b o e t => by
    by_cases z : Z b
    · rw [(R.keep b z t).2]
      exact e
    · exact (vw_some (R.old _ _ (hz_mk z e))).2.2, R.tb.mono (fun b o e => hz_mk (vw_some e).1 (vw_some e).2.2) fun _ _ => rfl⟩
theorem fn_d {x qual : Str} {st : Stmt} {f : Addr} {fd : FuncData} {N ps : List Str} {k n : Nat} {T : List Sl → (Rv → Prop) → Prop} (F : Fun K x qual st f fd) (S : FnScope N ps (defScope st)) (hn : ps.length = n := by rfl) (hN : n + N.length < fl := by decide)
    (body : ∀ (cdv : Value) (A : Around) (outer : List Env) (s : Shared) (H : Hp) (E : XK), Room k (A.deeper (envOfC qual (defScope st) s.heap.objs.size f cdv)) →
      ∃ t, PSs (cxOf CX0 P w K mg base N qual (defScope st) f cdv A outer s H E).nox (defBody st) t ∧ ∀ as Kr, as.length = n → T as Kr → Sm t (as ++ uns (N.length - n)) { nx := fun _ => Kr (.d .none), rt := fun r _ => Kr r }) :
    FnOk P w K mg base CX0 (k + 1) f fd ps (spD n T) := by
  refine F.ok S (fun vs H Q E h => ?_) (fun cdv A outer s H vs Q E hr h => ?_)
  · obtain ⟨Z, as, Kr, hZ, ha, hl, _⟩ := h
    rw [ha.length, hl, hn]
  · obtain ⟨Z, as, Kr, hZ, ha, hl, hT, go⟩ := h
    obtain ⟨t, ht, hb⟩ := body cdv A outer s H E hr
    refine ⟨t, ht, hb as Kr hl hT ⟨Z, none, H, hz Z H⟩ _ _ H _ (rp_start hN hZ ha hl) rfl ?_⟩
    have same : ∀ {A' : Am} {ρ' : List Sl} {σ' : L2.St} {H' : Hp}, Rp ⟨Z, none, H, hz Z H⟩ A' ρ' σ' H' → Aft Z H H' := rp_aft
    refine ⟨fun ρ' A' σ' H' hk R f => go _ _ _ hk (same R) .non, fun r ρ' v A' σ' H' hk R o => go r v H' hk (same R) ?_, fun _ _ _ _ h => h.elim, fun _ _ _ _ h => h.elim⟩
    exact rv_out (fun b o e nz _ => R.old _ _ (hz_mk nz e)) (fun b z => Or.inl z) R.inj R.off R.bor o
theorem rp_startB {N : List Str} {ws cs : List V} {ct : List PyData} {as : List Sl} {n : Nat} {Z : Addr → Prop} {p : Addr} (hN : n + 1 + N.length < fl) (hp : Z p) (hZ : ZOk Z H) (ep : H p = some (.lst cs)) (dc : DnAll (hz Z H) cs ct) (ha : ArAll (hz Z H) ws as) (hl : as.length = n) :
    Rp ⟨fun a => Z a ∧ a ≠ p, some p, H, hz Z H⟩ (aset (fun _ => none) 0 (some p)) (.l ct :: (as ++ uns (N.length - (n + 1)))) (start N (.ref p :: ws)) H := by
  have hv : vw (fun a => Z a ∧ a ≠ p) (aset (fun _ => none) 0 (some p)) H = hz Z H := by
    funext b
    by_cases z : Z b
    · have e2 : hz Z H b = none := by unfold hz vw; rw [if_pos (Or.inl z)]
      rw [e2]
      unfold vw
      rw [if_pos]
      by_cases q : b = p
      · exact Or.inr ⟨0, by rw [q]; exact aset_at⟩
      · exact Or.inl ⟨z, q⟩
    · have e2 : hz Z H b = H b := by
        unfold hz vw
        rw [if_neg]
        rintro (q | ⟨i, q⟩)
        · exact z q
        · cases q
      rw [e2]
      unfold vw
      rw [if_neg]
      rintro (q | ⟨i, q⟩)
      · exact z q.1
      · by_cases i0 : i = 0
        · rw [i0, aset_at] at q
          cases q
          exact z hp
        · rw [aset_ne i0] at q
          cases q
  have one : ∀ {i : Nat} {a : Addr}, aset (fun _ => none) 0 (some p) i = some a → i = 0 ∧ a = p := fun {i a} q => by
    by_cases i0 : i = 0
    · rw [i0, aset_at] at q
      exact ⟨i0, (Option.some.inj q).symm⟩
    · rw [aset_ne i0] at q
      cases q
  have len := ha.length
  have tp : ∀ b, tabA b → b ≠ p := fun b t q => by
    obtain ⟨ps, g⟩ := hZ.tb.at_ t
    rw [q, ep] at g
    cases g
  refine ⟨?_, ?_, ?_, ?_, ?_, ?_, by rw [hv]; exact Same.refl _, ?_, ?_, fun b t => ⟨hZ.tz b t, tp b t⟩, by rw [hv]; exact hZ.tb⟩
  · rw [start_len (n := n + 1) (by rw [List.length_cons]; omega), List.length_cons, List.length_append, hl, uns, List.length_replicate]
    omega
  · rw [List.length_cons, List.length_append, hl, uns, List.length_replicate]
    omega
  · intro i j a e e'
    rw [(one e).1, (one e').1]
  · intro i a e z
    exact z.2 (one e).2
  · intro i a e
    rw [(one e).2, ep]
    simp
  · intro a z _
    exact ⟨hZ.there a z.1, rfl⟩
  · intro q e
    rw [aset_at]
    exact e
  · intro i s e
    rw [hv]
    cases i with
    | zero =>
      cases e
      exact ⟨p, cs, aset_at, start_arg rfl, ep, dc⟩
    | succ i =>
      rw [aset_ne (Nat.succ_ne_zero i)]
      rw [List.getElem?_cons_succ] at e
      by_cases q : i < as.length
      · rw [List.getElem?_append_left q] at e
        obtain ⟨v, e1, o⟩ := arAll_at ha e
        rw [start_arg (v := v) (by rw [List.getElem?_cons_succ]; exact e1)]
        exact o.sl
      · rw [List.getElem?_append_right (by omega), uns, List.getElem?_replicate] at e
        split at e
        · rename_i lt
          cases e
          rw [start_un (by rw [List.length_cons]; omega) (by rw [List.length_cons]; omega)]
          exact ⟨rfl, rfl⟩
        · cases e
theorem fn_b {x qual : Str} {st : Stmt} {f : Addr} {fd : FuncData} {N ps : List Str} {k n : Nat} {T : List PyData → List Sl → (Rv → List PyData → Prop) → Prop} (F : Fun K x qual st f fd) (S : FnScope N ps (defScope st)) (hn : ps.length = n + 1 := by rfl) (hN : n + 1 + N.length < fl := by decide)
    (body : ∀ (cdv : Value) (A : Around) (outer : List Env) (s : Shared) (H : Hp) (E : XK), Room k (A.deeper (envOfC qual (defScope st) s.heap.objs.size f cdv)) →
      ∃ t, PSs (cxOf CX0 P w K mg base N qual (defScope st) f cdv A outer s H E).nox (defBody st) t ∧ ∀ ct as Kr, as.length = n → T ct as Kr →
        Sm t (.l ct :: (as ++ uns (N.length - (n + 1)))) { nx := fun ρ => ∃ c', ρ[0]? = some (.l c') ∧ Kr (.d .none) c', rt := fun r ρ => ∃ c', ρ[0]? = some (.l c') ∧ Kr r c' }) :
    FnOk P w K mg base CX0 (k + 1) f fd ps (spB n T) := by
  refine F.ok S (fun vs H Q E h => ?_) (fun cdv A outer s H vs Q E hr h => ?_)
  · obtain ⟨Z, p, cs, ct, ws, as, Kr, rfl, hp, hZ, ep, dc, ha, hl, _⟩ := h
    rw [List.length_cons, ha.length, hl, hn]
  · obtain ⟨Z, p, cs, ct, ws, as, Kr, rfl, hp, hZ, ep, dc, ha, hl, hT, go⟩ := h
    obtain ⟨t, ht, hb⟩ := body cdv A outer s H E hr
    refine ⟨t, ht, hb ct as Kr hl hT ⟨fun a => Z a ∧ a ≠ p, some p, H, hz Z H⟩ _ _ H _ (rp_startB hN hp hZ ep dc ha hl) rfl ?_⟩
    have fin : ∀ {A' : Am} {ρ' : List Sl} {σ' : L2.St} {H' : Hp} {c' : List PyData} {r : Rv} {v : V}, Rp ⟨fun a => Z a ∧ a ≠ p, some p, H, hz Z H⟩ A' ρ' σ' H' → ρ'[0]? = some (.l c') → Kr r c' → RvAt ⟨fun a => Z a ∧ a ≠ p, some p, H, hz Z H⟩ A' H' v r → Q v H' := by
      intro A' ρ' σ' H' c' r v R h0 hk o
      obtain ⟨a, cs', e1, e2, e3, dc'⟩ := R.sl 0 _ h0
      have := R.bor p rfl
      rw [e1] at this
      cases this
      have up : Same (vw (fun b => Z b ∧ b ≠ p) A' H') (hz Z H') := fun b u e => by
        obtain ⟨h1, h2, h3⟩ := vw_some e
        refine hz_mk (fun z => h1 ⟨z, fun q => h2 0 (by rw [q]; exact e1)⟩) h3
      refine go r c' cs' v H' hk e3 (DnAll.mono up dc') ⟨fun b z n t => (R.keep b ⟨z, n⟩ t).2, R.tb.mono up fun _ _ => rfl⟩ (fun b u e => up _ _ (R.old _ _ e)) ?_
      refine rv_out (fun b u e nz _ => R.old _ _ (hz_mk nz e)) (fun b z => ?_) R.inj R.off R.bor o
      by_cases q : b = p
      · exact Or.inr ⟨0, by decide, by rw [q]; exact e1⟩
      · exact Or.inl ⟨z, q⟩
    refine ⟨fun ρ' A' σ' H' hk R f => ?_, fun r ρ' v A' σ' H' hk R o => ?_, fun _ _ _ _ h => h.elim, fun _ _ _ _ h => h.elim⟩
    · obtain ⟨c', h0, hk⟩ := hk
      exact fin R h0 hk ⟨f, .non⟩
    · obtain ⟨c', h0, hk⟩ := hk
      exact fin R h0 hk o
end
end OW
set_option Elab.async false
set_option linter.unusedVariables false
set_option linter.unusedSectionVars false
set_option maxRecDepth 100000
set_option maxHeartbeats 1000000
namespace OW
open PySem PySem.Spec PyProof.Rows L2 KA
variable [Tbs]
/-! ### walks -/
def Jk (W : Hp) (J : It) (xs : List PyData) : Prop :=
  (∀ (i : Nat) x H, xs[i]? = some x → Same W H → J.go i H ∧ ∀ v H', J.yld i H v H' → Same H H' ∧ ∀ W', Same W W' → (∀ b o, H b = none → H' b = some o → W' b = some o) → Dn W' v x) ∧ ∀ H, Same W H → J.stop xs.length H
theorem Jk.mono {W W' : Hp} {J : It} {xs : List PyData} (h : Jk W J xs) (S : Same W W') : Jk W' J xs := ⟨fun i x H e s => let ⟨a, b⟩ := h.1 i x H e (S.trans s); ⟨a, fun v H' y => let ⟨p, q⟩ := b v H' y; ⟨p, fun W2 s2 k => q W2 (S.trans s2) k⟩⟩, fun H s => h.2 H (S.trans s)⟩
def Fi (wi : TI) (ρ : List Sl) (xs : List PyData) (ρ1 : List Sl) : Prop := ∀ (c : Fr) (A : Am) (σ : L2.St) (H : Hp) (R : It → Hp → Prop), Rp c A ρ σ H → A fl = none →
  (∀ J A' H', Rp c A' ρ1 σ H' → A' fl = none → Same (vw c.Z A H) (vw c.Z A' H') → Jk (vw c.Z A' H') J xs → R J H') → wi σ H R
section
variable {ρ ρ' ρ1 ρ2 : List Sl} {te ta tb : TE} {s s' : Sl} {x y : PyData} {i : Nat} {tr : TA} {xs ys : List PyData} {ss : List Sl} {t u : TS} {K : KK} {g : TG} {gs : TGs} {KF : PySem.W.Frag} {wi : TI}
theorem sm_for (h : Fi wi ρ xs ρ1) (R : Nat → List Sl → Prop) (h0 : R 0 ρ1) (hs : ∀ (j : Nat) x ρ', xs[j]? = some x → R j ρ' → Turn g t (.d x) ρ' (R (j + 1)) K) (hd : ∀ ρ', R xs.length ρ' → K.nx ρ') : Sm (tFor wi g t) ρ K := fun c A σ H D R0 f dk =>
  h c A σ H _ R0 f fun J A1 H1 R1 f1 S1 jk => by
    refine ⟨fun j m σ' H' => m = xs.length - j ∧ j ≤ xs.length ∧ Stp (c.to (vw c.Z A1 H1)) (R j) σ' H', ⟨xs.length, by simp, Nat.zero_le _, ρ1, A1, h0, R1.refr, f1⟩, ?_⟩
    rintro j m σ' H' ⟨rfl, hj, ρ', A', r, R', f'⟩
    have S' : Same (vw c.Z A1 H1) H' := R'.old.trans vw_sub
    by_cases lt : j < xs.length
    · have e := List.getElem?_eq_getElem lt
      obtain ⟨go, yl⟩ := jk.1 j _ H' e S'
      refine Or.inr ⟨go, Stp (c.to (vw c.Z A1 H1)) (R (j + 1)), fun σ2 H2 p => ⟨xs.length - (j + 1), by omega, rfl, lt, p⟩, fun v H2 y => ?_⟩
      obtain ⟨S2, dn⟩ := yl v H2 y
      exact (hs j _ ρ' e r).run (R'.up S2) f' (dn _ (R'.old.trans (vw_up S2)) fun b o n e => new_view R' n e) R1.old dk
    · have e : j = xs.length := by omega
      subst e
      exact Or.inl ⟨jk.2 H' S', dk.nx _ _ _ _ (hd _ r) (R'.unfr R1.old) f'⟩
theorem fi_list (h : Ev te ρ (.d (.list xs)) ρ1) : Fi (iList KF te) ρ xs ρ1 := fun c A σ H R R0 f k => h c A σ H _ R0 f fun v A1 H1 R1 f1 S1 o1 => by
  obtain ⟨a, vs, rfl, e, dx⟩ := lst_v o1
  refine ⟨a, rfl, ⟨_, SqL.of (vw_sub _ _ e)⟩, k _ _ _ R1 f1 S1 ⟨fun i x H2 ex S => ?_, fun H2 S => ?_⟩⟩
  · have lt : i < vs.length := by rw [dx.length]; exact (List.getElem?_eq_some_iff.mp ex).1
    refine ⟨⟨vs, vs[i], SqL.of (S _ _ e), List.getElem?_eq_getElem lt⟩, fun v H3 ⟨q1, q2⟩ => ?_⟩
    subst q1
    refine ⟨Same.refl _, fun W' S' _ => ?_⟩
    obtain ⟨x', e', dn⟩ := dn_at dx (q2 vs (SqL.of (S _ _ e)))
    rw [ex] at e'
    cases e'
    exact Dn.mono S' dn
  · exact ⟨vs, SqL.of (S _ _ e), by rw [dx.length]; exact Nat.le_refl _⟩
theorem fi_tup (h : Ev te ρ (.d (.tuple xs)) ρ1) : Fi (iTup KF te) ρ xs ρ1 := fun c A σ H R R0 f k => h c A σ H _ R0 f fun v A1 H1 R1 f1 S1 o1 => by
  obtain ⟨a, vs, rfl, e, dx⟩ := tup_v o1
  refine ⟨a, rfl, ⟨_, SqT.of (vw_sub _ _ e)⟩, k _ _ _ R1 f1 S1 ⟨fun i x H2 ex S => ?_, fun H2 S => ?_⟩⟩
  · have lt : i < vs.length := by rw [dx.length]; exact (List.getElem?_eq_some_iff.mp ex).1
    refine ⟨⟨vs, vs[i], SqT.of (S _ _ e), List.getElem?_eq_getElem lt⟩, fun v H3 ⟨q1, q2⟩ => ?_⟩
    subst q1
    refine ⟨Same.refl _, fun W' S' _ => ?_⟩
    obtain ⟨x', e', dn⟩ := dn_at dx (q2 vs (SqT.of (S _ _ e)))
    rw [ex] at e'
    cases e'
    exact Dn.mono S' dn
  · exact ⟨vs, SqT.of (S _ _ e), by rw [dx.length]; exact Nat.le_refl _⟩
def rngD (n : Nat) : List PyData := (List.range n).map fun i : Nat => .int (i : Int)
theorem rngD_at {n i : Nat} (h : (rngD n)[i]? = some x) : i < n ∧ x = .int (i : Int) := by
  unfold rngD at h
  rw [List.getElem?_map] at h
  by_cases q : i < n
  · rw [List.getElem?_range q] at h
    exact ⟨q, (Option.some.inj h).symm⟩
  · rw [List.getElem?_eq_none (by rw [List.length_range]; omega)] at h
    cases h
theorem rngD_len (n : Nat) : (rngD n).length = n := by unfold rngD; rw [List.length_map, List.length_range]
theorem dn_one {W : Hp} {vs : List V} (h : DnAll W vs [x]) : ∃ v, vs = [v] ∧ Dn W v x := by
  cases h with
  | cons a b =>
    cases b
    exact ⟨_, rfl, a⟩
theorem dn_two {W : Hp} {vs : List V} (h : DnAll W vs [x, y]) : ∃ v u, vs = [v, u] ∧ Dn W v x ∧ Dn W u y := by
  cases h with
  | cons a b =>
    obtain ⟨u, rfl, o⟩ := dn_one b
    exact ⟨_, _, rfl, a, o⟩
theorem fi_rng1 {n : Int} (h : Eds tr ρ [.int n] ρ1) (small : -(2 ^ 62) ≤ n ∧ n < 2 ^ 62) : Fi (iRng1 tr) ρ (rngD n.toNat) ρ1 := fun c A σ H R R0 f k => h c A σ H _ R0 f fun vs A1 H1 R1 f1 S1 o1 => by
  obtain ⟨v, rfl, o⟩ := dn_one o1
  obtain rfl := int_v o
  refine ⟨n, rfl, small.1, small.2, k _ _ _ R1 f1 S1 ⟨fun i x H2 ex S => ?_, fun H2 S => ?_⟩⟩
  · obtain ⟨lt, rfl⟩ := rngD_at ex
    refine ⟨lt, fun v H3 ⟨q1, q2⟩ => ?_⟩
    subst q1
    subst q2
    rw [Int.zero_add]
    exact ⟨Same.refl _, fun W' _ _ => .int _⟩
  · rw [rngD_len]
    exact Nat.le_refl n.toNat
theorem fi_rng2 {lo n : Int} (h : Eds tr ρ [.int lo, .int n] ρ1) (small : (-(2 ^ 62) ≤ lo ∧ lo < 2 ^ 62) ∧ -(2 ^ 62) ≤ n ∧ n < 2 ^ 62) : Fi (iRng2 tr) ρ ((List.range (n - lo).toNat).map fun i : Nat => .int (lo + (i : Int))) ρ1 := fun c A σ H R R0 f k => h c A σ H _ R0 f fun vs A1 H1 R1 f1 S1 o1 => by
  obtain ⟨v, u, rfl, o, o'⟩ := dn_two o1
  obtain rfl := int_v o
  obtain rfl := int_v o'
  refine ⟨lo, n, rfl, ⟨small.1.1, small.1.2, small.2.1, small.2.2⟩, k _ _ _ R1 f1 S1 ⟨fun i x H2 ex S => ?_, fun H2 S => ?_⟩⟩
  · rw [List.getElem?_map] at ex
    by_cases q : i < (n - lo).toNat
    · rw [List.getElem?_range q] at ex
      obtain rfl := Option.some.inj ex
      refine ⟨q, fun v H3 ⟨q1, q2⟩ => ?_⟩
      subst q1
      subst q2
      exact ⟨Same.refl _, fun W' _ _ => .int _⟩
    · rw [List.getElem?_eq_none (by rw [List.length_range]; omega)] at ex
      cases ex
  · rw [List.length_map, List.length_range]
    exact Nat.le_refl (n - lo).toNat
/-- reversed(range(n)) -/
theorem fi_revR {n : Int} (h : Ev te ρ (.d (.int n)) ρ1) (small : -(2 ^ 62) ≤ n ∧ n < 2 ^ 62) : Fi (iRevR (tRg1 te)) ρ (rngD n.toNat).reverse ρ1 := fun c A σ H R R0 f k => h c A σ H _ R0 f fun v A1 H1 R1 f1 S1 o1 => by
  obtain rfl := int_v o1
  refine ⟨n, rfl, by decide, by decide, small.1, small.2, k _ _ _ R1 f1 S1 ⟨fun i x H2 ex S => ?_, fun H2 S => ?_⟩⟩
  · have lt : i < n.toNat := by
      have := (List.getElem?_eq_some_iff.mp ex).1
      rw [List.length_reverse, rngD_len] at this
      exact this
    rw [List.getElem?_reverse (by rw [rngD_len]; exact lt), rngD_len] at ex
    obtain ⟨_, rfl⟩ := rngD_at ex
    refine ⟨by rw [Int.sub_zero]; exact lt, fun v H3 ⟨q1, q2⟩ => ?_⟩
    subst q1
    subst q2
    refine ⟨Same.refl _, fun W' _ _ => ?_⟩
    have e : (0 : Int) + (((n - 0).toNat : Nat) : Int) - 1 + ((i : Nat) : Int) * (-1) = ((n.toNat - 1 - i : Nat) : Int) := by
      rw [Int.sub_zero]
      omega
    show Dn W' (V.int ((0 : Int) + (((n - 0).toNat : Nat) : Int) - 1 + ((i : Nat) : Int) * (-1))) _
    rw [e]
    exact .int _
  · rw [List.length_reverse, rngD_len, Int.sub_zero]
    exact Nat.le_refl n.toNat
theorem fi_revA_l (h : Ev te ρ (.d (.list xs)) ρ1) : Fi (RT.iRevA KF te) ρ xs.reverse ρ1 := fun c A σ H R R0 f k => h c A σ H _ R0 f fun v A1 H1 R1 f1 S1 o1 => by
  obtain ⟨a, vs, rfl, e, dx⟩ := lst_v o1
  refine ⟨a, vs, rfl, Or.inl ⟨SqL.of (vw_sub _ _ e), k _ _ _ R1 f1 S1 ⟨fun i x H2 ex S => ?_, fun H2 S => ?_⟩⟩⟩
  · have lt : i < vs.length := by rw [dx.length, ← List.length_reverse]; exact (List.getElem?_eq_some_iff.mp ex).1
    refine ⟨⟨lt, vs, vs[vs.length - 1 - i], SqL.of (S _ _ e), List.getElem?_eq_getElem (by omega)⟩, fun v H3 ⟨q1, q2⟩ => ?_⟩
    subst q1
    refine ⟨Same.refl _, fun W' S' _ => ?_⟩
    obtain ⟨x', e', dn⟩ := dn_at dx (q2 vs (SqL.of (S _ _ e)))
    rw [List.getElem?_reverse (by rw [← dx.length]; exact lt), ← dx.length] at ex
    rw [ex] at e'
    cases e'
    exact Dn.mono S' dn
  · rw [List.length_reverse]
    show vs.length ≤ xs.length
    rw [dx.length]
    exact Nat.le_refl _
theorem fi_revA_t (h : Ev te ρ (.d (.tuple xs)) ρ1) : Fi (RT.iRevA KF te) ρ xs.reverse ρ1 := fun c A σ H R R0 f k => h c A σ H _ R0 f fun v A1 H1 R1 f1 S1 o1 => by
  obtain ⟨a, vs, rfl, e, dx⟩ := tup_v o1
  refine ⟨a, vs, rfl, Or.inr ⟨SqT.of (vw_sub _ _ e), k _ _ _ R1 f1 S1 ⟨fun i x H2 ex S => ?_, fun H2 S => ?_⟩⟩⟩
  · have lt : i < vs.length := by rw [dx.length, ← List.length_reverse]; exact (List.getElem?_eq_some_iff.mp ex).1
    refine ⟨⟨lt, vs, vs[vs.length - 1 - i], SqT.of (S _ _ e), List.getElem?_eq_getElem (by omega)⟩, fun v H3 ⟨q1, q2⟩ => ?_⟩
    subst q1
    refine ⟨Same.refl _, fun W' S' _ => ?_⟩
    obtain ⟨x', e', dn⟩ := dn_at dx (q2 vs (SqT.of (S _ _ e)))
    rw [List.getElem?_reverse (by rw [← dx.length]; exact lt), ← dx.length] at ex
    rw [ex] at e'
    cases e'
    exact Dn.mono S' dn
  · rw [List.length_reverse]
    show vs.length ≤ xs.length
    rw [dx.length]
    exact Nat.le_refl _
def enumD : Nat → List PyData → List PyData
  | _, [] => []
  | n, x :: xs => .tuple [.int (n : Int), x] :: enumD (n + 1) xs
theorem enumD_len : ∀ (n : Nat) (xs : List PyData), (enumD n xs).length = xs.length
  | _, [] => rfl
  | n, _ :: xs => congrArg (· + 1) (enumD_len (n + 1) xs)
theorem enumD_at : ∀ {n i : Nat} {xs : List PyData} {y : PyData}, (enumD n xs)[i]? = some y → ∃ x, xs[i]? = some x ∧ y = .tuple [.int ((n + i : Nat) : Int), x]
  | n, 0, x :: xs, y, h => by
    cases h
    exact ⟨x, rfl, rfl⟩
  | n, i + 1, x :: xs, y, h => by
    obtain ⟨z, e1, e2⟩ := enumD_at (n := n + 1) (i := i) (xs := xs) h
    refine ⟨z, e1, ?_⟩
    rw [e2, show n + 1 + i = n + (i + 1) by omega]
  | _, _, [], _, h => by cases h
theorem fi_enum (h : Eds tr ρ [.list xs] ρ1) : Fi (iEnum KF tr) ρ (enumD 0 xs) ρ1 := fun c A σ H R R0 f k => h c A σ H _ R0 f fun vs A1 H1 R1 f1 S1 o1 => by
  obtain ⟨v, rfl, o⟩ := dn_one o1
  obtain ⟨a, vs, rfl, e, dx⟩ := lst_v o
  refine ⟨a, vs, rfl, SqL.of (vw_sub _ _ e), k _ _ _ R1 f1 S1 ⟨fun i x H2 ex S => ?_, fun H2 S => ?_⟩⟩
  · have lt : i < vs.length := by rw [dx.length, ← enumD_len 0 xs]; exact (List.getElem?_eq_some_iff.mp ex).1
    refine ⟨⟨vs, vs[i], SqL.of (S _ _ e), List.getElem?_eq_getElem lt⟩, fun v H3 ⟨T, y, q1, q2, q3, q4⟩ => ?_⟩
    subst q1
    subst q3
    refine ⟨Same.new q2, fun W' S' nw => ?_⟩
    obtain ⟨x', e', dn⟩ := dn_at dx (q4 vs (SqL.of (S _ _ e)))
    obtain ⟨x2, e2, rfl⟩ := enumD_at ex
    rw [e2] at e'
    cases e'
    rw [Nat.zero_add]
    exact .tup (nw _ _ q2 upd_same) (.cons (.int _) (.one (Dn.mono S' dn)))
  · exact ⟨vs, SqL.of (S _ _ e), by rw [dx.length, enumD_len]; exact Nat.le_refl _⟩
def zipD (xs ys : List PyData) : List PyData := (xs.zip ys).map fun p => .tuple [p.1, p.2]
theorem zipD_at {i : Nat} {z : PyData} (h : (zipD xs ys)[i]? = some z) : ∃ x y, xs[i]? = some x ∧ ys[i]? = some y ∧ z = .tuple [x, y] := by
  unfold zipD at h
  rw [List.getElem?_map] at h
  cases e : (xs.zip ys)[i]? with
  | none => rw [e] at h; cases h
  | some p =>
    rw [e] at h
    obtain ⟨e1, e2⟩ := List.getElem?_zip_eq_some.mp e
    exact ⟨_, _, e1, e2, (Option.some.inj h).symm⟩
theorem zipD_len : (zipD xs ys).length = min xs.length ys.length := by unfold zipD; rw [List.length_map, List.length_zip]
theorem fi_zip (h : Eds tr ρ [.list xs, .list ys] ρ1) : Fi (iZip KF tr) ρ (zipD xs ys) ρ1 := fun c A σ H R R0 f k => h c A σ H _ R0 f fun vs A1 H1 R1 f1 S1 o1 => by
  obtain ⟨v, u, rfl, o, o'⟩ := dn_two o1
  obtain ⟨a, vs, rfl, e, dx⟩ := lst_v o
  obtain ⟨b, us, rfl, e', dy⟩ := lst_v o'
  refine ⟨a, b, vs, us, rfl, SqL.of (vw_sub _ _ e), SqL.of (vw_sub _ _ e'), k _ _ _ R1 f1 S1 ⟨fun i x H2 ex S => ?_, fun H2 S => ?_⟩⟩
  · obtain ⟨x1, y1, ex1, ey1, rfl⟩ := zipD_at ex
    have lt : i < vs.length := by rw [dx.length]; exact (List.getElem?_eq_some_iff.mp ex1).1
    have lt' : i < us.length := by rw [dy.length]; exact (List.getElem?_eq_some_iff.mp ey1).1
    refine ⟨⟨vs, us, vs[i], us[i], SqL.of (S _ _ e), SqL.of (S _ _ e'), List.getElem?_eq_getElem lt, List.getElem?_eq_getElem lt'⟩, fun v H3 ⟨T, x, y, q1, q2, q3, q4, q5⟩ => ?_⟩
    subst q1
    subst q3
    refine ⟨Same.new q2, fun W' S' nw => ?_⟩
    obtain ⟨x', e1, d1⟩ := dn_at dx (q4 vs (SqL.of (S _ _ e)))
    obtain ⟨y', e2, d2⟩ := dn_at dy (q5 us (SqL.of (S _ _ e')))
    rw [ex1] at e1
    rw [ey1] at e2
    cases e1
    cases e2
    exact .tup (nw _ _ q2 upd_same) (.cons (Dn.mono S' d1) (.one (Dn.mono S' d2)))
  · refine ⟨vs, us, SqL.of (S _ _ e), SqL.of (S _ _ e'), ?_⟩
    rw [dx.length, dy.length, zipD_len]
    omega
theorem fi_str {z : Str} (h : Ev te ρ (.d (.str z)) ρ1) : Fi (iStr te) ρ (z.cps.toList.map fun c => .str ⟨#[c]⟩) ρ1 := fun c A σ H R R0 f k => h c A σ H _ R0 f fun v A1 H1 R1 f1 S1 o1 => by
  obtain rfl := str_v o1
  refine ⟨z, rfl, k _ _ _ R1 f1 S1 ⟨fun i x H2 ex S => ?_, fun H2 S => ?_⟩⟩
  · rw [List.getElem?_map] at ex
    cases e : z.cps.toList[i]? with
    | none => rw [e] at ex; cases ex
    | some cc =>
      rw [e] at ex
      obtain rfl := Option.some.inj ex
      have lt := (List.getElem?_eq_some_iff.mp e).1
      refine ⟨(by show i < z.cps.size; simpa using lt), fun v H3 ⟨q1, c1, q2, q3⟩ => ?_⟩
      subst q1
      subst q3
      have : z.cps.toList[i]? = some c1 := by simpa using q2
      rw [e] at this
      cases this
      exact ⟨Same.refl _, fun W' _ _ => .str _⟩
  · show z.cps.size ≤ _
    rw [List.length_map]
    simp
end
end OW
set_option Elab.async false
set_option linter.unusedVariables false
set_option linter.unusedSectionVars false
set_option maxRecDepth 100000
set_option maxHeartbeats 1000000
namespace OW
open PySem PySem.Spec PyProof.Rows L2 KA
variable [Tbs]
/-! ### operators, built-ins, methods -/
def isV (v : V) : Mo := ⟨fun u _ => u = v, fun _ h => h⟩
section
variable {ρ ρ' ρ1 ρ2 : List Sl} {te ta tb ti : TE} {s s' : Sl} {x y : PyData} {i j k : Nat} {tr : TA} {xs ys : List PyData} {ss : List Sl} {t u : TS} {K : KK} {g : TG} {KF : PySem.W.Frag} {tl th : TO}
theorem ev_cv {v : V} : Ev (tC v) ρ (.p (isV v)) ρ := ev_c fun _ => rfl
theorem isv_v {W : Hp} {v u : V} (h : ArOk W u (.p (isV v))) : u = v := h
/-- results that are the same in every heap -/
theorem fv2_s {r : R2} {z : V} (hz : ∀ W, ArOk W z s) {p q : Sl} (h : ∀ (W H : Hp) (v w : V) (Q : VK), Same W H → ArOk W v p → ArOk W w q → Q z H → r v w H Q) : FV2 r p q s := fun W H v w Q S a b k => h W H v w Q S a b (k z H (Same.refl _) fun W' _ _ => hz W')
theorem fv_s {r : List V → Hp → VK → Prop} {z : V} (hz : ∀ W, ArOk W z s) (h : ∀ (W H : Hp) (vs : List V) (Q : VK), Same W H → ArAll W vs ss → Q z H → r vs H Q) : FV r ss s := fun W H vs Q S a k => h W H vs Q S a (k z H (Same.refl _) fun W' _ _ => hz W')
theorem dI (i : Int) : ∀ W, ArOk W (.int i) (.d (.int i)) := fun _ => Dn.int _
theorem dB (i : Bool) : ∀ W, ArOk W (.bl i) (.d (.bool i)) := fun _ => Dn.bl _
theorem dS (i : Str) : ∀ W, ArOk W (.str i) (.d (.str i)) := fun _ => Dn.str _
theorem fv_int {f : Int → Int → Int} {m n : Int} : FV2 (rI0 fun i j => .int (f i j)) (.d (.int m)) (.d (.int n)) (.d (.int (f m n))) := fv2_s (dI (f m n)) fun W H v w Q S a b q => ⟨m, n, int_v a, int_v b, q⟩
theorem fv_intC {C : Int → Int → Prop} {f : Int → Int → Int} {m n : Int} (h : C m n) : FV2 (rI C fun i j => .int (f i j)) (.d (.int m)) (.d (.int n)) (.d (.int (f m n))) := fv2_s (dI (f m n)) fun W H v w Q S a b q => ⟨m, n, int_v a, int_v b, h, q⟩
theorem fv_cmpI {f : Int → Int → Bool} {m n : Int} : FV2 (rI0 fun i j => .bl (f i j)) (.d (.int m)) (.d (.int n)) (.d (.bool (f m n))) := fv2_s (dB (f m n)) fun W H v w Q S a b q => ⟨m, n, int_v a, int_v b, q⟩
theorem fv_eqS {a b : Str} : FV2 rEq (.d (.str a)) (.d (.str b)) (.d (.bool (decide (a = b)))) := fv2_s (dB (decide (a = b))) fun W H v w Q S o o' q => by
  obtain rfl := str_v o
  obtain rfl := str_v o'
  refine ⟨rfl, ?_⟩
  rw [show decide (V.str a = V.str b) = decide (a = b) from by simp]
  exact q
theorem fv_neS {a b : Str} : FV2 rNe (.d (.str a)) (.d (.str b)) (.d (.bool (!decide (a = b)))) := fv2_s (dB (!decide (a = b))) fun W H v w Q S o o' q => by
  obtain rfl := str_v o
  obtain rfl := str_v o'
  refine ⟨rfl, ?_⟩
  rw [show decide (V.str a = V.str b) = decide (a = b) from by simp]
  exact q
theorem fv_eqI {a b : Int} : FV2 rEq (.d (.int a)) (.d (.int b)) (.d (.bool (decide (a = b)))) := fv2_s (dB (decide (a = b))) fun W H v w Q S o o' q => by
  obtain rfl := int_v o
  obtain rfl := int_v o'
  refine ⟨rfl, ?_⟩
  rw [show decide (V.int a = V.int b) = decide (a = b) from by simp]
  exact q
theorem fv_neI {a b : Int} : FV2 rNe (.d (.int a)) (.d (.int b)) (.d (.bool (!decide (a = b)))) := fv2_s (dB (!decide (a = b))) fun W H v w Q S o o' q => by
  obtain rfl := int_v o
  obtain rfl := int_v o'
  refine ⟨rfl, ?_⟩
  rw [show decide (V.int a = V.int b) = decide (a = b) from by simp]
  exact q
theorem fv_eqD (sx : SeqAt.shaped x = true) (sy : SeqAt.shaped y = true) : FV2 rEqD (.d x) (.d y) (.d (.bool (PyData.eqv x y))) := fv2_s (dB (PyData.eqv x y)) fun W H v w Q S o o' q => ⟨x, y, Dn.mono S o, Dn.mono S o', sx, sy, q⟩
theorem fv_neD (sx : SeqAt.shaped x = true) (sy : SeqAt.shaped y = true) : FV2 rNeD (.d x) (.d y) (.d (.bool (!PyData.eqv x y))) := fv2_s (dB (!PyData.eqv x y)) fun W H v w Q S o o' q => ⟨x, y, Dn.mono S o, Dn.mono S o', sx, sy, q⟩
def noneD : PyData → Bool | .none => true | _ => false
theorem dn_non {W : Hp} {v : V} (h : Dn W v x) : decide (v = .non) = noneD x := by
  cases h <;> first | rfl | (exact decide_eq_false (by simp))
theorem fv_isN : FV2 (fun x y H Q => y = .non ∧ Q (.bl (decide (x = .non))) H) (.d x) (.d .none) (.d (.bool (noneD x))) := fv2_s (dB (noneD x)) fun W H v w Q S o o' q => by
  refine ⟨non_v o', ?_⟩
  rw [dn_non o]
  exact q
theorem fv_notN : FV2 (fun x y H Q => y = .non ∧ Q (.bl (!decide (x = .non))) H) (.d x) (.d .none) (.d (.bool (!noneD x))) := fv2_s (dB (!noneD x)) fun W H v w Q S o o' q => by
  refine ⟨non_v o', ?_⟩
  rw [dn_non o]
  exact q
theorem atI_dn {W : Hp} {vs : List V} {n : Int} (dx : DnAll W vs xs) (h : atI xs n = some x) : ∃ v, atI vs n = some v ∧ Dn W v x := by
  unfold atI at h ⊢
  rw [dx.length]
  cases e : ixN xs.length n with
  | none => rw [e] at h; cases h
  | some j =>
    rw [e] at h
    exact dx.get h
theorem fv_ixT {n : Int} (h : atI xs n = some x) : FV2 (rIxT KF) (.d (.tuple xs)) (.d (.int n)) (.d x) := fun W H v w Q S o o' q => by
  obtain rfl := int_v o'
  obtain ⟨a, vs, rfl, e, dx⟩ := tup_v o
  obtain ⟨u, e1, dn⟩ := atI_dn dx h
  exact ⟨a, vs, n, u, rfl, rfl, SqT.of (S _ _ e), e1, q u H (Same.refl _) fun W' S' _ => Dn.mono S' dn⟩
theorem fv_ixL {n : Int} (h : atI xs n = some x) : FV2 (rIxL KF) (.d (.list xs)) (.d (.int n)) (.d x) := fun W H v w Q S o o' q => by
  obtain rfl := int_v o'
  obtain ⟨a, vs, rfl, e, dx⟩ := lst_v o
  obtain ⟨u, e1, dn⟩ := atI_dn dx h
  exact ⟨a, vs, n, u, rfl, rfl, SqL.of (S _ _ e), e1, q u H (Same.refl _) fun W' S' _ => Dn.mono S' dn⟩
theorem fv_ixS {z : Str} {n : Int} {c : Nat} (hz : z.length ≤ sizeLine) (h : atI z.cps.toList n = some c) : FV2 rIxS (.d (.str z)) (.d (.int n)) (.d (.str ⟨#[c]⟩)) := fv2_s (dS ⟨#[c]⟩) fun W H v w Q S o o' q => ⟨z, n, c, str_v o, int_v o', hz, h, q⟩
theorem at_nat {α : Type} {xs : List α} {v : α} {j : Nat} (h : xs[j]? = some v) : atI xs (j : Int) = some v := by
  have lt := (List.getElem?_eq_some_iff.mp h).1
  unfold atI ixN
  rw [if_pos (Int.natCast_nonneg j), if_pos (by omega)]
  show xs[((j : Nat) : Int).toNat]? = some v
  rw [Int.toNat_natCast]
  exact h
theorem at0 {α : Type} {x : α} {xs : List α} : atI (x :: xs) 0 = some x := at_nat (j := 0) rfl
theorem at1 {α : Type} {x y : α} {xs : List α} : atI (x :: y :: xs) 1 = some y := at_nat (j := 1) rfl
theorem at2 {α : Type} {x y z : α} {xs : List α} : atI (x :: y :: z :: xs) 2 = some z := at_nat (j := 2) rfl
theorem at3 {α : Type} {x y z u : α} {xs : List α} : atI (x :: y :: z :: u :: xs) 3 = some u := at_nat (j := 3) rfl
/-- an owned list's item, length -/
theorem ev_ixO {n : Int} (h0 : ρ[k]? = some (.l ys)) (h : Ev ti ρ (.d (.int n)) ρ1) (h1 : ρ1[k]? = some (.l xs)) (e : atI xs n = some x) : Ev (tOp (rIxL KF) (tVar k) ti) ρ (.d x) ρ1 := fun c A σ H Q R f q => by
  obtain ⟨a, _, _, e1, _, _⟩ := R.sl k _ h0
  refine ⟨_, e1, h c A σ H _ R f fun w A1 H1 R1 f1 S1 o1 => ?_⟩
  obtain rfl := int_v o1
  obtain ⟨b, vs, _, e2, e3, dx⟩ := R1.sl k _ h1
  rw [e1] at e2
  cases e2
  obtain ⟨v, e4, dn⟩ := atI_dn dx e
  exact ⟨a, vs, n, v, rfl, rfl, SqL.of e3, e4, q v A1 H1 R1 f1 S1 dn⟩
theorem fv_lenL : FV (fun xs H Q => ∃ p ys, xs = [.ref p] ∧ (SqL KF H p ys ∨ SqT KF H p ys) ∧ Q (.int ys.length) H) [.d (.list xs)] (.d (.int (xs.length : Int))) := fv_s (dI (xs.length : Int)) fun W H vs Q S o q => by
  match vs, o with
  | [v], o =>
    obtain ⟨a, ws, rfl, e, dx⟩ := lst_v o.1
    exact ⟨a, ws, rfl, Or.inl (SqL.of (S _ _ e)), by rw [dx.length]; exact q⟩
theorem fv_lenT : FV (fun xs H Q => ∃ p ys, xs = [.ref p] ∧ (SqL KF H p ys ∨ SqT KF H p ys) ∧ Q (.int ys.length) H) [.d (.tuple xs)] (.d (.int (xs.length : Int))) := fv_s (dI (xs.length : Int)) fun W H vs Q S o q => by
  match vs, o with
  | [v], o =>
    obtain ⟨a, ws, rfl, e, dx⟩ := tup_v o.1
    exact ⟨a, ws, rfl, Or.inr (SqT.of (S _ _ e)), by rw [dx.length]; exact q⟩
theorem ev_lenO (h : ρ[k]? = some (.l xs)) : Ev (tCB (fun xs H Q => ∃ p ys, xs = [.ref p] ∧ (SqL KF H p ys ∨ SqT KF H p ys) ∧ Q (.int ys.length) H) (tCons (tVar k) tNil)) ρ (.d (.int (xs.length : Int))) ρ := fun c A σ H Q R f q => by
  obtain ⟨a, vs, _, e2, e3, dx⟩ := R.sl k _ h
  exact ⟨_, e2, a, vs, rfl, Or.inl (SqL.of e3), by rw [dx.length]; exact q _ A H R f (Same.refl _) (.int _)⟩
theorem et_truO (h : ρ[k]? = some (.l xs)) : Et (fun σ H Q => tVar k σ H fun x H' => ∃ k, TruV KF x H' k ∧ Q k H') ρ (!xs.isEmpty) ρ := fun c A σ H Q R f q => by
  obtain ⟨a, vs, _, e2, e3, dx⟩ := R.sl k _ h
  refine ⟨_, e2, _, Or.inl ⟨vs, SqL.of e3, rfl⟩, ?_⟩
  have e : vs.isEmpty = xs.isEmpty := by cases dx <;> rfl
  rw [e]
  exact q A H R f (Same.refl _)
theorem et_truL (h : Ev te ρ (.d (.list xs)) ρ1) : Et (fun σ H Q => te σ H fun x H' => ∃ k, TruV KF x H' k ∧ Q k H') ρ (!xs.isEmpty) ρ1 := fun c A σ H Q R f q =>
  h c A σ H _ R f fun v A1 H1 R1 f1 S1 o1 => by
    obtain ⟨a, vs, rfl, e, dx⟩ := lst_v o1
    refine ⟨_, Or.inl ⟨vs, SqL.of (vw_sub _ _ e), rfl⟩, ?_⟩
    have e : vs.isEmpty = xs.isEmpty := by cases dx <;> rfl
    rw [e]
    exact q A1 H1 R1 f1 S1
theorem et_truT (h : Ev te ρ (.d (.tuple xs)) ρ1) : Et (fun σ H Q => te σ H fun x H' => ∃ k, TruV KF x H' k ∧ Q k H') ρ (!xs.isEmpty) ρ1 := fun c A σ H Q R f q =>
  h c A σ H _ R f fun v A1 H1 R1 f1 S1 o1 => by
    obtain ⟨a, vs, rfl, e, dx⟩ := tup_v o1
    refine ⟨_, Or.inr (Or.inl ⟨vs, SqT.of (vw_sub _ _ e), rfl⟩), ?_⟩
    have e : vs.isEmpty = xs.isEmpty := by cases dx <;> rfl
    rw [e]
    exact q A1 H1 R1 f1 S1
/-! stars in a display -/
theorem eds_star (h : Ev te ρ (.d (.tuple xs)) ρ1) (h' : Eds tr ρ1 ys ρ2) : Eds (StX.tStar KF te tr) ρ (xs ++ ys) ρ2 := fun c A σ H Q R f q =>
  h c A σ H _ R f fun v A1 H1 R1 f1 S1 o1 => by
    obtain ⟨a, vs, rfl, e, dx⟩ := tup_v o1
    exact ⟨a, vs, rfl, Or.inl (SqT.of (vw_sub _ _ e)), h' c A1 σ H1 _ R1 f1 fun ws A2 H2 R2 f2 S2 o2 => q _ A2 H2 R2 f2 (S1.trans S2) ((DnAll.mono S2 dx).append o2)⟩
theorem eds_starL (h : Ev te ρ (.d (.list xs)) ρ1) (h' : Eds tr ρ1 ys ρ2) : Eds (StX.tStar KF te tr) ρ (xs ++ ys) ρ2 := fun c A σ H Q R f q =>
  h c A σ H _ R f fun v A1 H1 R1 f1 S1 o1 => by
    obtain ⟨a, vs, rfl, e, dx⟩ := lst_v o1
    exact ⟨a, vs, rfl, Or.inr (SqL.of (vw_sub _ _ e)), h' c A1 σ H1 _ R1 f1 fun ws A2 H2 R2 f2 S2 o2 => q _ A2 H2 R2 f2 (S1.trans S2) ((DnAll.mono S2 dx).append o2)⟩
/-! slices -/
def cutD (xs : List PyData) (lo hi : Option Int) : List PyData := (xs.drop (HT.sIx xs.length 0 lo)).take (HT.sIx xs.length xs.length hi - HT.sIx xs.length 0 lo)
theorem dn_cut {W : Hp} {vs : List V} {lo hi : Option Int} (dx : DnAll W vs xs) : DnAll W (cutV vs lo hi) (cutD xs lo hi) := by
  unfold cutV cutD
  rw [dx.length]
  exact (dx.drop _).take _
theorem cutD_from {n : Nat} (h : n ≤ xs.length) : cutD xs (some (n : Int)) none = xs.drop n := by
  unfold cutD
  rw [HT.sIx_none, HT.sIx_nat, Nat.min_eq_left h, List.take_of_length_le]
  rw [List.length_drop]
  exact Nat.le_refl _
theorem cutD_to {n : Nat} (h : n ≤ xs.length) : cutD xs none (some (n : Int)) = xs.take n := by
  unfold cutD
  rw [HT.sIx_none, HT.sIx_nat, List.drop_zero, Nat.sub_zero, Nat.min_eq_left h]
theorem cutD_to' {n : Nat} : cutD xs none (some (n : Int)) = xs.take n := by
  unfold cutD
  rw [HT.sIx_none, HT.sIx_nat, List.drop_zero, Nat.sub_zero]
  by_cases h : n ≤ xs.length
  · rw [Nat.min_eq_left h]
  · rw [Nat.min_eq_right (by omega), List.take_of_length_le (Nat.le_refl _), List.take_of_length_le (by omega)]
theorem cutD_from' {n : Nat} : cutD xs (some (n : Int)) none = xs.drop n := by
  by_cases h : n ≤ xs.length
  · exact cutD_from h
  · unfold cutD
    rw [HT.sIx_none, HT.sIx_nat, Nat.min_eq_right (by omega), Nat.sub_self, List.take_zero, List.drop_of_length_le (by omega)]
theorem ev_slA {lo hi : Option Int} (h : Ev te ρ (.d (.tuple xs)) ρ') (h1 : Eo tl ρ' lo ρ1) (h2 : Eo th ρ1 hi ρ2) : Ev (tSl (rSlA KF) te tl th) ρ (.d (.tuple (cutD xs lo hi))) ρ2 := fun c A σ H Q R f q =>
  h c A σ H _ R f fun v A1 H1 R1 f1 S1 o1 => h1 c A1 σ H1 _ R1 f1 fun A2 H2 R2 f2 S2 => h2 c A2 σ H2 _ R2 f2 fun A3 H3 R3 f3 S3 => by
    obtain ⟨a, vs, rfl, e, dx⟩ := tup_v (o1.mono (S2.trans S3))
    refine ⟨a, vs, rfl, SqT.of (vw_sub _ _ e), fun z => ?_, fun _ b hb => ?_⟩
    · refine q _ A3 H3 R3 f3 ((S1.trans S2).trans S3) ?_
      have e' : cutD xs lo hi = xs := by
        unfold cutD
        rw [← dx.length, z.1, z.2, List.drop_zero, Nat.sub_zero, dx.length, List.take_length]
      rw [e']
      exact .tup e dx
    · exact q _ A3 _ (R3.up (Same.new hb)) f3 (((S1.trans S2).trans S3).trans (vw_up (Same.new hb))) (.tup (new_view R3 hb upd_same) (DnAll.mono (vw_up (Same.new hb)) (dn_cut dx)))
theorem el_slL {lo hi : Option Int} (h : Ev te ρ (.d (.list xs)) ρ') (h1 : Eo tl ρ' lo ρ1) (h2 : Eo th ρ1 hi ρ2) : El (tSl (rSlL KF) te tl th) ρ (cutD xs lo hi) ρ2 := fun c A σ H Q R f q =>
  h c A σ H _ R f fun v A1 H1 R1 f1 S1 o1 => h1 c A1 σ H1 _ R1 f1 fun A2 H2 R2 f2 S2 => h2 c A2 σ H2 _ R2 f2 fun A3 H3 R3 f3 S3 => by
    obtain ⟨a, vs, rfl, e, dx⟩ := lst_v (o1.mono (S2.trans S3))
    exact ⟨a, vs, rfl, SqL.of (vw_sub _ _ e), fun b hb => q b _ _ _ (R3.fly hb) aset_at (((S1.trans S2).trans S3).trans (vw_fly hb)) upd_same (DnAll.mono (vw_fly hb) (dn_cut dx))⟩
theorem el_slO {lo hi : Option Int} (h0 : ρ[k]? = some (.l ys)) (h1 : Eo tl ρ lo ρ1) (h2 : Eo th ρ1 hi ρ2) (h3 : ρ2[k]? = some (.l xs)) : El (tSl (rSlL KF) (tVar k) tl th) ρ (cutD xs lo hi) ρ2 := fun c A σ H Q R f q => by
  obtain ⟨a, _, _, e1, _, _⟩ := R.sl k _ h0
  refine ⟨_, e1, h1 c A σ H _ R f fun A2 H2 R2 f2 S2 => h2 c A2 σ H2 _ R2 f2 fun A3 H3 R3 f3 S3 => ?_⟩
  obtain ⟨b, vs, _, e2, e3, dx⟩ := R3.sl k _ h3
  rw [e1] at e2
  cases e2
  exact ⟨a, vs, rfl, SqL.of e3, fun b hb => q b _ _ _ (R3.fly hb) aset_at ((S2.trans S3).trans (vw_fly hb)) upd_same (DnAll.mono (vw_fly hb) (dn_cut dx))⟩
/-! sums -/
theorem fl_cat (len : xs.length + ys.length ≤ sizeLine) : FL2 rCat (.d (.list xs)) (.d (.list ys)) (xs ++ ys) := fun W H v w Q S o o' q => by
  obtain ⟨a, vs, rfl, e, dx⟩ := lst_v o
  obtain ⟨b, ws, rfl, e', dy⟩ := lst_v o'
  exact ⟨a, b, vs, ws, rfl, rfl, S _ _ e, S _ _ e', by rw [dx.length, dy.length]; exact len, fun p hp => q p _ hp (dx.append dy)⟩
theorem fv_catA (len : xs.length + ys.length ≤ sizeLine) : FV2 (rCatA KF) (.d (.tuple xs)) (.d (.tuple ys)) (.d (.tuple (xs ++ ys))) := fun W H v w Q S o o' q => by
  obtain ⟨a, vs, rfl, e, dx⟩ := tup_v o
  obtain ⟨b, ws, rfl, e', dy⟩ := tup_v o'
  refine ⟨a, b, vs, ws, rfl, rfl, SqT.of (S _ _ e), SqT.of (S _ _ e'), by rw [dx.length, dy.length]; exact len, fun z => ?_, fun _ z => ?_, fun _ _ p hp => ?_⟩
  · subst z
    cases dx
    exact q _ H (Same.refl _) fun W' S' _ => .tup (S' _ _ e') (DnAll.mono S' dy)
  · subst z
    cases dy
    rw [List.append_nil] at q
    exact q _ H (Same.refl _) fun W' S' _ => .tup (S' _ _ e) (DnAll.mono S' dx)
  · exact q _ _ (Same.new hp) fun W' S' nw => .tup (nw _ _ hp upd_same) (DnAll.mono S' (dx.append dy))
theorem fv_repT {n : Int} (h : xs ≠ [] ∧ 2 ≤ n ∧ n ≤ 1000 ∧ xs.length ≤ 1000) : FV2 (rRepT KF) (.d (.tuple xs)) (.d (.int n)) (.d (.tuple (List.replicate n.toNat xs).flatten)) := fun W H v w Q S o o' q => by
  obtain rfl := int_v o'
  obtain ⟨a, vs, rfl, e, dx⟩ := tup_v o
  refine ⟨a, n, vs, rfl, rfl, SqT.of (S _ _ e), fun z => ?_, h.2.1, h.2.2.1, by rw [dx.length]; exact h.2.2.2, fun p hp => ?_⟩
  · subst z
    cases dx
    exact h.1 rfl
  · refine q _ _ (Same.new hp) fun W' S' nw => .tup (nw _ _ hp upd_same) (DnAll.mono S' ?_)
    have : ∀ m : Nat, DnAll W (List.replicate m vs).flatten (List.replicate m xs).flatten := fun m => by
      induction m with
      | zero => exact .nil
      | succ m ih => exact dx.append ih
    exact this _
/-! built-ins -/
theorem fv_isD {T : String} {f : PyData → Bool} : FV (rIsD T f) [.d x, .p (isV (.ty T))] (.d (.bool (f x))) := fv_s (dB (f x)) fun W H vs Q S o q => by
  match vs, o with
  | [v, w], o =>
    obtain rfl := isv_v o.2.1
    exact ⟨v, x, rfl, Dn.mono S o.1, q⟩
theorem inV_str {W : Hp} (a : Str) : ∀ {vs : List V} {bs : List Str}, DnAll W vs (bs.map .str) → vs.all flatV = true ∧ inV (.str a) vs = bs.any fun b => b == a
  | [], [], _ => ⟨rfl, rfl⟩
  | v :: vs, b :: bs, h => by
    cases h with
    | cons h t =>
      cases h
      obtain ⟨p, q⟩ := inV_str a t
      refine ⟨by rw [List.all_cons, p]; rfl, ?_⟩
      unfold inV at q ⊢
      rw [List.any_cons, List.any_cons, q]
      rfl
theorem fv_inT {a : Str} {bs : List Str} : FV2 (rIn KF false) (.d (.str a)) (.d (.tuple (bs.map .str))) (.d (.bool (bs.any fun b => b == a))) := fv2_s (dB (bs.any fun b => b == a)) fun W H v w Q S o o' q => by
  obtain rfl := str_v o
  obtain ⟨p, vs, rfl, e, dx⟩ := tup_v o'
  obtain ⟨h1, h2⟩ := inV_str a dx
  exact ⟨p, vs, rfl, Or.inr (SqT.of (S _ _ e)), rfl, h1, by rw [h2]; exact q⟩
theorem fv_intB {b : Bool} : FV (fun xs H Q => (∃ i, xs = [.int i] ∧ Q (.int i) H) ∨ ∃ k, xs = [.bl k] ∧ Q (.int (if k then 1 else 0)) H) [.d (.bool b)] (.d (.int (if b then 1 else 0))) := fv_s (dI (if b then 1 else 0)) fun W H vs Q S o q => by
  match vs, o with
  | [v], o =>
    obtain rfl := bool_v o.1
    exact Or.inr ⟨b, rfl, q⟩
theorem fv_max2 {m n : Int} : FV (fun xs H Q => ∃ i j, xs = [.int i, .int j] ∧ Q (.int (if j > i then j else i)) H) [.d (.int m), .d (.int n)] (.d (.int (if n > m then n else m))) := fv_s (dI (if n > m then n else m)) fun W H vs Q S o q => by
  match vs, o with
  | [v, w], o =>
    obtain rfl := int_v o.1
    obtain rfl := int_v o.2.1
    exact ⟨m, n, rfl, q⟩
theorem fv_min2 {m n : Int} : FV (fun xs H Q => ∃ i j, xs = [.int i, .int j] ∧ Q (.int (if j < i then j else i)) H) [.d (.int m), .d (.int n)] (.d (.int (if n < m then n else m))) := fv_s (dI (if n < m then n else m)) fun W H vs Q S o q => by
  match vs, o with
  | [v, w], o =>
    obtain rfl := int_v o.1
    obtain rfl := int_v o.2.1
    exact ⟨m, n, rfl, q⟩
theorem dn_bools {W : Hp} : ∀ {vs : List V} {bs : List Bool}, DnAll W vs (bs.map .bool) → vs = bs.map V.bl
  | [], [], _ => rfl
  | v :: vs, b :: bs, h => by
    cases h with
    | cons h t =>
      cases h
      rw [dn_bools t]
      rfl
theorem fv_all {bs : List Bool} : FV (rAll KF) [.d (.list (bs.map .bool))] (.d (.bool (bs.all id))) := fv_s (dB (bs.all id)) fun W H vs Q S o q => by
  match vs, o with
  | [v], o =>
    obtain ⟨a, ws, rfl, e, dx⟩ := lst_v o.1
    obtain rfl := dn_bools dx
    exact ⟨a, bs, rfl, SqL.of (S _ _ e), q⟩
theorem fv_any {bs : List Bool} : FV (rAny KF) [.d (.list (bs.map .bool))] (.d (.bool (bs.any id))) := fv_s (dB (bs.any id)) fun W H vs Q S o q => by
  match vs, o with
  | [v], o =>
    obtain ⟨a, ws, rfl, e, dx⟩ := lst_v o.1
    obtain rfl := dn_bools dx
    exact ⟨a, bs, rfl, SqL.of (S _ _ e), q⟩
theorem fl_listL : FL (fun xs H Q => ∃ p ys, xs = [.ref p] ∧ (SqL KF H p ys ∨ SqT KF H p ys) ∧ ∀ l, H l = none → Q (.ref l) (upd H l (.lst ys))) [.d (.list xs)] xs := fun W H vs Q S o q => by
  match vs, o with
  | [v], o =>
    obtain ⟨a, ws, rfl, e, dx⟩ := lst_v o.1
    exact ⟨a, ws, rfl, Or.inl (SqL.of (S _ _ e)), fun l hl => q l ws hl dx⟩
theorem fl_listT : FL (fun xs H Q => ∃ p ys, xs = [.ref p] ∧ (SqL KF H p ys ∨ SqT KF H p ys) ∧ ∀ l, H l = none → Q (.ref l) (upd H l (.lst ys))) [.d (.tuple xs)] xs := fun W H vs Q S o q => by
  match vs, o with
  | [v], o =>
    obtain ⟨a, ws, rfl, e, dx⟩ := tup_v o.1
    exact ⟨a, ws, rfl, Or.inr (SqT.of (S _ _ e)), fun l hl => q l ws hl dx⟩
theorem fv_tupL : FV (fun xs H Q => ∃ p ys, xs = [.ref p] ∧ ((SqL KF H p ys ∧ ∀ l, H l = none → Q (.ref l) (upd H l (.tup ys))) ∨ (SqT KF H p ys ∧ Q (.ref p) H))) [.d (.list xs)] (.d (.tuple xs)) := fun W H vs Q S o q => by
  match vs, o with
  | [v], o =>
    obtain ⟨a, ws, rfl, e, dx⟩ := lst_v o.1
    exact ⟨a, ws, rfl, Or.inl ⟨SqL.of (S _ _ e), fun l hl => q _ _ (Same.new hl) fun W' S' nw => .tup (nw _ _ hl upd_same) (DnAll.mono S' dx)⟩⟩
theorem fv_tupT : FV (fun xs H Q => ∃ p ys, xs = [.ref p] ∧ ((SqL KF H p ys ∧ ∀ l, H l = none → Q (.ref l) (upd H l (.tup ys))) ∨ (SqT KF H p ys ∧ Q (.ref p) H))) [.d (.tuple xs)] (.d (.tuple xs)) := fun W H vs Q S o q => by
  match vs, o with
  | [v], o =>
    obtain ⟨a, ws, rfl, e, dx⟩ := tup_v o.1
    exact ⟨a, ws, rfl, Or.inr ⟨SqT.of (S _ _ e), q _ H (Same.refl _) fun W' S' _ => .tup (S' _ _ e) (DnAll.mono S' dx)⟩⟩
theorem fv_repr (h1 : x.showable = true) (h2 : x.shown.length ≤ sizeLine) (h3 : x.depth ≤ 100) : FV rRepr [.d x] (.d (.str x.shown)) := fv_s (dS x.shown) fun W H vs Q S o q => by
  match vs, o with
  | [v], o => exact ⟨v, x, rfl, Dn.mono S o.1, h1, h2, h3, q⟩
/-! methods of owned lists -/
theorem sm_app (h0 : ρ[k]? = some (.l ys)) (h : Ev te ρ (.d x) ρ1) (h1 : ρ1[k]? = some (.l xs)) (len : xs.length < sizeLine) (q : K.nx (ρ1.set k (.l (xs ++ [x])))) : Sm (tDrop (tBM KF "list" rAppend (tVar k) (tCons te tNil))) ρ K := fun c A σ H D R f dk => by
  obtain ⟨a, vs0, _, e1, e2, _⟩ := R.sl k _ h0
  refine ⟨_, e1, Or.inl ⟨rfl, vs0, SqL.of e2⟩, h c A σ H _ R f fun w A1 H1 R1 f1 S1 o1 => ?_⟩
  obtain ⟨b, vs, ea, e3, e4, dx⟩ := R1.sl k _ h1
  rw [e1] at e3
  cases e3
  refine ⟨a, vs, w, rfl, rfl, e4, by rw [dx.length]; exact len, dk.nx _ _ _ _ q (R1.mut h1 ea (dx.snoc o1)) f1⟩
theorem dn_unsnoc {W : Hp} : ∀ {xs : List PyData} {x : PyData} {vs : List V}, DnAll W vs (xs ++ [x]) → ∃ ws v, vs = ws ++ [v] ∧ DnAll W ws xs ∧ Dn W v x
  | [], x, vs, h => by
    obtain ⟨v, rfl, d⟩ := dn_one h
    exact ⟨[], v, rfl, .nil, d⟩
  | y :: xs, x, vs, h => by
    cases h with
    | cons a b =>
      obtain ⟨ws, v, rfl, d1, d2⟩ := dn_unsnoc b
      exact ⟨_ :: ws, v, rfl, .cons a d1, d2⟩
theorem ev_pop (h0 : ρ[k]? = some (.l (xs ++ [x]))) : Ev (tBM0 KF "list" rPop (tVar k)) ρ (.d x) (ρ.set k (.l xs)) := fun c A σ H Q R f q => by
  obtain ⟨a, vs0, ea, e1, e2, dx⟩ := R.sl k _ h0
  obtain ⟨ws, v, rfl, d1, d2⟩ := dn_unsnoc dx
  refine ⟨_, e1, Or.inl ⟨rfl, _, SqL.of e2⟩, a, _, v, rfl, rfl, e2, ?_, ?_⟩
  · rw [List.length_append, List.length_singleton, Nat.add_sub_cancel, List.getElem?_append_right (Nat.le_refl _), Nat.sub_self]
    rfl
  · rw [List.dropLast_concat]
    have hv : vw c.Z A (upd H a (.lst ws)) = vw c.Z A H := vw_mut ea
    exact q v A _ (R.mut h0 ea d1) f (by rw [hv]; exact Same.refl _) (by rw [hv]; exact d2)
theorem sm_rev (h0 : ρ[k]? = some (.l xs)) (q : K.nx (ρ.set k (.l xs.reverse))) : Sm (tDrop (tBM0 KF "list" rReverse (tVar k))) ρ K := fun c A σ H D R f dk => by
  obtain ⟨a, vs, ea, e1, e2, dx⟩ := R.sl k _ h0
  have rv : ∀ {vs : List V} {xs : List PyData}, DnAll (vw c.Z A H) vs xs → DnAll (vw c.Z A H) vs.reverse xs.reverse := fun {vs xs} h => by
    induction h using DnAll.rec (motive_1 := fun _ _ _ => True) with
    | nil => exact .nil
    | cons a b _ ih =>
      rw [List.reverse_cons, List.reverse_cons]
      exact ih.snoc a
    | _ => trivial
  exact ⟨_, e1, Or.inl ⟨rfl, _, SqL.of e2⟩, a, vs, rfl, rfl, e2, dk.nx _ _ _ _ q (R.mut h0 ea (rv dx)) f⟩
theorem dn_set {W : Hp} : ∀ {vs : List V} {xs : List PyData} {v : V} {x : PyData} (n : Nat), DnAll W vs xs → Dn W v x → DnAll W (vs.set n v) (xs.set n x)
  | _, _, _, _, _, .nil, _ => .nil
  | _, _, _, _, 0, .cons a b, d => .cons d b
  | _, _, _, _, n + 1, .cons a b, d => .cons a (dn_set n b d)
theorem sm_setI {m : Nat} {z : Int} (h0 : ρ1[k]? = some (.l ys)) (h : Ev te ρ (.d x) ρ1) (hi : Ev ti ρ1 (.d (.int z)) ρ2) (h1 : ρ2[k]? = some (.l xs)) (e : ixN xs.length z = some m) (q : K.nx (ρ2.set k (.l (xs.set m x)))) : Sm (tAsg te (gSub (tVar k) ti rSetL)) ρ K := fun c A σ H D R f dk =>
  h c A σ H _ R f fun w A1 H1 R1 f1 S1 o1 => by
    obtain ⟨a, vs0, _, e1, e2, _⟩ := R1.sl k _ h0
    refine ⟨_, e1, hi c A1 σ H1 _ R1 f1 fun u A2 H2 R2 f2 S2 o2 => ?_⟩
    obtain rfl := int_v o2
    obtain ⟨b, vs, ea, e3, e4, dx⟩ := R2.sl k _ h1
    rw [e1] at e3
    cases e3
    exact ⟨a, vs, z, m, rfl, rfl, e4, by rw [dx.length]; exact e, dk.nx _ _ _ _ q (R2.mut h1 ea (dn_set m dx (o1.mono S2))) f2⟩
end
end OW
set_option Elab.async false
set_option linter.unusedVariables false
set_option linter.unusedSectionVars false
set_option maxRecDepth 100000
set_option maxHeartbeats 1000000
namespace OW
open PySem PySem.Spec PyProof.Rows L2 KA
variable [Tbs]
/-! ### comprehensions -/
section
variable {c : Fr} {A A' : Am} {ρ ρ' : List Sl} {σ : L2.St} {H H' : Hp}
theorem Rp.mutFl (R : Rp c A ρ σ H) {a : Addr} {o : HO} (e : A fl = some a) : Rp c A ρ σ (upd H a o) := by
  have hv : vw c.Z A (upd H a o) = vw c.Z A H := vw_mut e
  refine ⟨R.len, R.sz, R.inj, R.off, ?_, ?_, by rw [hv]; exact R.old, R.bor, ?_, R.tz, by rw [hv]; exact R.tb.mono (Same.refl _) (R.tb.upd_ (R.nt e))⟩
  · intro j b z
    by_cases q : b = a
    · rw [q, upd_same]
      simp
    · rw [upd_ne q]
      exact R.live _ _ z
  · intro b z t
    have nb : b ≠ a := fun q => R.off _ _ e (q ▸ z)
    rw [upd_ne nb]
    exact R.keep b z t
  · intro j t z
    rw [hv]
    refine (R.sl j t z).mono (Same.refl _) fun b ws e' hb => ?_
    have nb : b ≠ a := fun q => idx_small R.sz z (R.inj _ _ _ e' (q ▸ e))
    rw [upd_ne nb]
    exact hb
/-- the new list D counts as another's while the rest goes on -/
def Fr.park (c : Fr) (D : Addr) (H : Hp) (F : Hp) : Fr := ⟨fun b => c.Z b ∨ b = D, c.B, H, F⟩
theorem vw_park {D : Addr} (e : A fl = some D) (inj : ∀ i j a, A i = some a → A j = some a → i = j) : vw (fun b => c.Z b ∨ b = D) (aset A fl none) H = vw c.Z A H := by
  funext b
  unfold vw
  have : ((c.Z b ∨ b = D) ∨ ∃ i, aset A fl none i = some b) ↔ (c.Z b ∨ ∃ i, A i = some b) := by
    constructor
    · rintro ((z | z) | ⟨i, z⟩)
      · exact Or.inl z
      · exact Or.inr ⟨fl, by rw [z]; exact e⟩
      · by_cases q : i = fl
        · rw [q, aset_at] at z
          cases z
        · rw [aset_ne q] at z
          exact Or.inr ⟨i, z⟩
    · rintro (z | ⟨i, z⟩)
      · exact Or.inl (Or.inl z)
      · by_cases q : i = fl
        · rw [q, e] at z
          cases z
          exact Or.inl (Or.inr rfl)
        · exact Or.inr ⟨i, by rw [aset_ne q]; exact z⟩
  by_cases q : c.Z b ∨ ∃ i, A i = some b
  · rw [if_pos q, if_pos (this.mpr q)]
  · rw [if_neg q, if_neg fun z => q (this.mp z)]
theorem Rp.park (R : Rp c A ρ σ H) {D : Addr} (e : A fl = some D) : Rp (c.park D H (vw c.Z A H)) (aset A fl none) ρ σ H := by
  have back : ∀ {i a}, aset A fl none i = some a → i ≠ fl ∧ A i = some a := fun {i a} z => by
    by_cases q : i = fl
    · rw [q, aset_at] at z
      cases z
    · rw [aset_ne q] at z
      exact ⟨q, z⟩
  have hv := vw_park (c := c) (H := H) e R.inj
  refine ⟨R.len, R.sz, fun i j a z z' => R.inj _ _ _ (back z).2 (back z').2, ?_, fun i a z => R.live _ _ (back z).2, ?_, ?_, ?_, ?_, fun b t => Or.inl (R.tz b t), ?_⟩
  · rintro i a z (w | w)
    · exact R.off _ _ (back z).2 w
    · exact (back z).1 (R.inj _ _ _ (back z).2 (w ▸ e))
  · rintro a (z | z) _
    · exact ⟨R.there z, rfl⟩
    · exact ⟨by show H a ≠ none; rw [z]; exact R.live _ _ e, rfl⟩
  · show Same (vw c.Z A H) (vw (fun b => c.Z b ∨ b = D) (aset A fl none) H)
    rw [hv]
    exact Same.refl _
  · intro p z
    rw [aset_ne (by decide)]
    exact R.bor p z
  · intro i s z
    show SlOk (vw (fun b => c.Z b ∨ b = D) (aset A fl none) H) H σ[i]? (aset A fl none i) s
    rw [hv, aset_ne (idx_small R.sz z)]
    exact R.sl i s z
  · show Tb (vw (fun b => c.Z b ∨ b = D) (aset A fl none) H) H
    rw [hv]
    exact R.tb
theorem vw_unpark {D : Addr} (f : A fl = none) : vw c.Z (aset A fl (some D)) H = vw (fun b => c.Z b ∨ b = D) A H := by
  funext b
  unfold vw
  have : (c.Z b ∨ ∃ i, aset A fl (some D) i = some b) ↔ ((c.Z b ∨ b = D) ∨ ∃ i, A i = some b) := by
    constructor
    · rintro (z | ⟨i, z⟩)
      · exact Or.inl (Or.inl z)
      · by_cases q : i = fl
        · rw [q, aset_at] at z
          exact Or.inl (Or.inr (Option.some.inj z).symm)
        · rw [aset_ne q] at z
          exact Or.inr ⟨i, z⟩
    · rintro ((z | z) | ⟨i, z⟩)
      · exact Or.inl z
      · exact Or.inr ⟨fl, by rw [z]; exact aset_at⟩
      · have q : i ≠ fl := fun q => by rw [q, f] at z; cases z
        exact Or.inr ⟨i, by rw [aset_ne q]; exact z⟩
  by_cases q : (c.Z b ∨ b = D) ∨ ∃ i, A i = some b
  · rw [if_pos q, if_pos (this.mpr q)]
  · rw [if_neg q, if_neg fun z => q (this.mp z)]
theorem Rp.unpark {c0 : Fr} {D : Addr} {H0 F : Hp} (R : Rp (c0.park D H0 F) A ρ σ H) (f : A fl = none) (nZ : ¬ c0.Z D) (htz : ∀ b, tabA b → c0.Z b) (hk : ∀ a, c0.Z a → ¬ tabA a → c0.G a ≠ none ∧ H0 a = c0.G a) (hF : Same c0.F F) : Rp c0 (aset A fl (some D)) ρ σ H := by
  have nD : ∀ i, A i ≠ some D := fun i z => R.off _ _ z (Or.inr rfl)
  have hv := vw_unpark (c := c0) (H := H) (D := D) f
  refine ⟨R.len, R.sz, ?_, ?_, ?_, ?_, ?_, ?_, ?_, htz, by rw [hv]; exact R.tb⟩
  · intro i j a z z'
    by_cases q : i = fl
    · by_cases q' : j = fl
      · rw [q, q']
      · rw [q, aset_at] at z
        rw [aset_ne q'] at z'
        cases z
        exact absurd z' (nD j)
    · rw [aset_ne q] at z
      by_cases q' : j = fl
      · rw [q', aset_at] at z'
        cases z'
        exact absurd z (nD i)
      · rw [aset_ne q'] at z'
        exact R.inj _ _ _ z z'
  · intro i a z w
    by_cases q : i = fl
    · rw [q, aset_at] at z
      cases z
      exact nZ w
    · rw [aset_ne q] at z
      exact R.off _ _ z (Or.inl w)
  · intro i a z
    by_cases q : i = fl
    · rw [q, aset_at] at z
      cases z
      exact R.there (Or.inr rfl)
    · rw [aset_ne q] at z
      exact R.live _ _ z
  · intro a z t
    have := R.keep a (Or.inl z) t
    exact ⟨(hk a z t).1, this.2.trans (hk a z t).2⟩
  · rw [hv]
    exact hF.trans R.old
  · intro p z
    rw [aset_ne (by decide)]
    exact R.bor p z
  · intro i s z
    rw [hv, aset_ne (idx_small R.sz z)]
    exact R.sl i s z
/-- the one slot of a comprehension -/
theorem rp_wipe (R : Rp c A ρ σ H) {v : Nat} (h : ρ[v]? = some .any) : Rp c A (ρ.set v .un) (wipe σ [v]) H := by
  refine ⟨?_, by rw [List.length_set]; exact R.sz, R.inj, R.off, R.live, R.keep, R.old, R.bor, ?_, R.tz, R.tb⟩
  · rw [wipe_length, List.length_set, R.len]
  · intro i s z
    show SlOk _ _ (σ.set v none)[i]? _ _
    by_cases q : i = v
    · subst q
      have lt := (List.getElem?_eq_some_iff.mp h).1
      rw [List.getElem?_set_self lt] at z
      cases z
      rw [List.getElem?_set_self (by rw [R.len]; exact lt)]
      exact ⟨rfl, R.sl i _ h⟩
    · rw [List.getElem?_set_ne (Ne.symm q)] at z ⊢
      exact R.sl i s z
@[reducible] def Sl.free : Sl → Prop
  | .un | .any | .d _ | .p _ => True
  | _ => False
theorem rp_unwipe {σ2 : L2.St} (R : Rp c A ρ σ2 H) {v : Nat} (e : wipe σ2 [v] = wipe σ [v]) {s : Sl} (h : ρ[v]? = some s) (hs : s.free) : Rp c A (ρ.set v .any) σ H := by
  have len : σ2.length = σ.length := by
    have := congrArg List.length e
    rw [wipe_length, wipe_length] at this
    exact this
  refine ⟨by rw [List.length_set, ← len, R.len], by rw [List.length_set]; exact R.sz, R.inj, R.off, R.live, R.keep, R.old, R.bor, ?_, R.tz, R.tb⟩
  intro i t z
  by_cases q : i = v
  · subst q
    have lt := (List.getElem?_eq_some_iff.mp h).1
    rw [List.getElem?_set_self lt] at z
    cases z
    have o := R.sl i _ h
    show A i = none
    cases s with
    | un => exact o.2
    | any => exact o
    | d x => exact o.1
    | p P => exact o.1
    | l xs => exact hs.elim
    | la a xs => exact hs.elim
    | wa a xs => exact hs.elim
    | dk _ => exact hs.elim
    | lm _ => exact hs.elim
  · rw [List.getElem?_set_ne (Ne.symm q)] at z
    have e' : σ2[i]? = σ[i]? := by
      have := congrArg (fun l : L2.St => l[i]?) e
      show σ2[i]? = σ[i]?
      have h1 : (wipe σ2 [v])[i]? = σ2[i]? := List.getElem?_set_ne (Ne.symm q)
      have h2 : (wipe σ [v])[i]? = σ[i]? := List.getElem?_set_ne (Ne.symm q)
      rw [← h1, ← h2]
      exact this
    rw [← e']
    exact R.sl i t z
end
section
variable {ρ ρ0 : List Sl} {te : TE} {xs : List PyData} {wi : TI} {v : Nat}
/-- [te for v in xs]: R j, what stands ahead of turn j (the slot v is any), acc j what is made so far -/
theorem el_lc (h : Fi wi ρ xs ρ0) (R : Nat → List Sl) (acc : Nat → List PyData) (h0 : R 0 = ρ0.set v .any) (hv : ∃ s, ρ0[v]? = some s ∧ s.free) (ha : acc 0 = []) (v0 : v ≠ 0 := by decide)
    (len : ∀ j, j < xs.length → (acc j).length < sizeLine)
    (hs : ∀ j x, xs[j]? = some x → (R j)[v]? = some .any → ∃ y ρ4, Ev te ((R j).set v (.d x)) (.d y) ρ4 ∧ acc (j + 1) = acc j ++ [y] ∧ ρ4.set v .any = R (j + 1) ∧ ∃ s, ρ4[v]? = some s ∧ s.free) :
    El (tLc wi (gName v) tYes te [v]) ρ (acc xs.length) (R xs.length) := fun c A σ H Q R0 f q =>
  h c A σ H _ R0 f fun J A1 H1 R1 f1 S1 jk => fun D hD => by
    obtain ⟨s0, hs0, ns0⟩ := hv
    have any0 : Rp c A1 (ρ0.set v .any) σ H1 := rp_unwipe R1 rfl hs0 ns0
    have lt0 := (List.getElem?_eq_some_iff.mp hs0).1
    refine ⟨fun j m H' => m = xs.length - j ∧ j ≤ xs.length ∧ ∃ A' vs, Rp c A' (R j) σ H' ∧ (R j)[v]? = some .any ∧ A' fl = some D ∧ H' D = some (.lst vs) ∧ DnAll (vw c.Z A' H') vs (acc j) ∧ Same (vw c.Z A1 H1) (vw c.Z A' H'), ⟨xs.length, by simp, Nat.zero_le _, _, [], by rw [h0]; exact any0.fly hD, ?_, aset_at, upd_same, by rw [ha]; exact .nil, vw_fly hD⟩, ?_⟩
    · rw [h0, List.getElem?_set_self lt0]
    rintro j m H' ⟨rfl, hj, A', vs, R', an, f', eD, dx, S'⟩
    have SJ : Same (vw c.Z A1 H1) H' := S'.trans vw_sub
    by_cases lt : j < xs.length
    · have e := List.getElem?_eq_getElem lt
      obtain ⟨go, yl⟩ := jk.1 j _ H' e SJ
      refine Or.inr ⟨go, fun H2 => j + 1 ≤ xs.length ∧ ∃ A' vs, Rp c A' (R (j + 1)) σ H2 ∧ (R (j + 1))[v]? = some .any ∧ A' fl = some D ∧ H2 D = some (.lst vs) ∧ DnAll (vw c.Z A' H2) vs (acc (j + 1)) ∧ Same (vw c.Z A1 H1) (vw c.Z A' H2), fun H2 p => ⟨xs.length - (j + 1), by omega, rfl, p.1, p.2⟩, fun w H2 y => ?_⟩
      obtain ⟨S2, dn⟩ := yl w H2 y
      have R2 := R'.up S2
      have eD2 := S2 _ _ eD
      have dx2 : DnAll (vw c.Z A' H2) vs (acc j) := DnAll.mono (vw_up S2) dx
      have dw : Dn (vw c.Z A' H2) w xs[j] := dn _ (S'.trans (vw_up S2)) fun b o n e => new_view R' n e
      have P := R2.park f'
      have hvp := vw_park (c := c) (H := H2) f' R2.inj
      have PW := rp_wipe P an
      have PS := PW.set (i := v) (v := w) (s := .d xs[j]) v0 ⟨rfl, w, rfl, by
        show Dn (vw (fun b => c.Z b ∨ b = D) (aset A' fl none) H2) w xs[j]
        rw [hvp]
        exact dw⟩
      obtain ⟨y, ρ4, ev, ea, eR, s4, hs4, ns4⟩ := hs j _ e an
      rw [List.set_set] at PS
      have wip : wipe ((wipe σ [v]).set v (some w)) [v] = wipe σ [v] := by
        show ((σ.set v none).set v (some w)).set v none = σ.set v none
        rw [List.set_set, List.set_set]
      refine ⟨wip, ?_⟩
      have vfl : fl ≠ v := (idx_small R'.sz an).symm
      refine ev (c.park D H2 (vw c.Z A' H2)) _ _ H2 _ PS (by rw [aset_ne vfl]; exact aset_at) fun u A3 H3 R3 f3 S3 o3 => ?_
      have nZ : ¬ c.Z D := R2.off _ _ f'
      have U := R3.unpark f3 nZ R2.tz (fun a z => R2.keep a z) R2.old
      have U1 := rp_unwipe U wip hs4 ns4
      have kD := (R3.keep D (Or.inr rfl) (R2.nt f')).2
      have eD3 : H3 D = some (.lst vs) := kD.trans eD2
      have hv3 := vw_unpark (c := c) (H := H3) (D := D) f3
      have o3' : Dn (vw c.Z (aset A3 fl (some D)) H3) u y := by
        rw [hv3]
        exact o3
      have SS : Same (vw c.Z A' H2) (vw c.Z (aset A3 fl (some D)) H3) := by
        rw [hv3]
        exact R3.old
      rw [eR] at U1
      refine ⟨vs, eD3, by rw [dx.length]; exact len j lt, lt, aset A3 fl (some D), vs ++ [u], U1.mutFl aset_at, ?_, aset_at, upd_same, ?_, ?_⟩
      · rw [← eR, List.getElem?_set_self (List.getElem?_eq_some_iff.mp hs4).1]
      · rw [vw_mut (A := aset A3 fl (some D)) (i := fl) aset_at, ea]
        exact (DnAll.mono SS dx2).snoc o3'
      · rw [vw_mut (A := aset A3 fl (some D)) (i := fl) aset_at]
        exact (S'.trans (vw_up S2)).trans SS
    · have e : j = xs.length := by omega
      subst e
      exact Or.inl ⟨jk.2 H' SJ, q D vs A' H' R' f' (S1.trans S') eD dx⟩
/-- .. where the element changes nothing -/
theorem el_lcP {f : PyData → PyData} (h : Fi wi ρ xs ρ0) (hv : ∃ s, ρ0[v]? = some s ∧ s.free) (len : xs.length ≤ sizeLine) (hs : ∀ x, x ∈ xs → Ev te (ρ0.set v (.d x)) (.d (f x)) (ρ0.set v (.d x))) (v0 : v ≠ 0 := by decide) :
    El (tLc wi (gName v) tYes te [v]) ρ (xs.map f) (ρ0.set v .any) := by
  obtain ⟨s0, hs0, ns0⟩ := hv
  have lt0 := (List.getElem?_eq_some_iff.mp hs0).1
  have := el_lc (te := te) h (fun _ => ρ0.set v .any) (fun j => (xs.take j).map f) rfl ⟨s0, hs0, ns0⟩ rfl v0 (fun j hj => by rw [List.length_map, List.length_take]; omega) fun j x e _ => by
    refine ⟨f x, ρ0.set v (.d x), ?_, ?_, by rw [List.set_set], .d x, List.getElem?_set_self lt0, trivial⟩
    · show Ev te ((ρ0.set v .any).set v (.d x)) _ _
      rw [List.set_set]
      exact hs x (List.mem_of_getElem? e)
    · show (xs.take (j + 1)).map f = (xs.take j).map f ++ [f x]
      rw [take_snoc e, List.map_append]
      rfl
  have e2 : (xs.take xs.length).map f = xs.map f := by rw [List.take_length]
  rw [← e2]
  exact this
end
end OW
set_option Elab.async false
set_option linter.unusedVariables false
set_option linter.unusedSectionVars false
set_option maxRecDepth 100000
set_option maxHeartbeats 1000000
namespace OW
open PySem PySem.Spec PyProof.Rows L2 KA
variable [Tbs]
/-! ### comprehensions with targets of several names, and with a test -/
def anys (ρ : List Sl) : List Nat → List Sl
  | [] => ρ
  | v :: vs => (anys ρ vs).set v .any
def unsA (ρ : List Sl) : List Nat → List Sl
  | [] => ρ
  | v :: vs => (unsA ρ vs).set v .un
def freeAt (ρ : List Sl) : List Nat → Prop
  | [] => True
  | v :: vs => (∃ s, ρ[v]? = some s ∧ s.free) ∧ freeAt ρ vs
theorem freeAt_mem {ρ : List Sl} : ∀ {vs : List Nat} {v : Nat}, freeAt ρ vs → v ∈ vs → ∃ s, ρ[v]? = some s ∧ s.free
  | u :: vs, v, h, m => by
    rcases List.mem_cons.mp m with rfl | m
    · exact h.1
    · exact freeAt_mem h.2 m
theorem anys_length (ρ : List Sl) : ∀ vs : List Nat, (anys ρ vs).length = ρ.length
  | [] => rfl
  | v :: vs => by show ((anys ρ vs).set v .any).length = _; rw [List.length_set, anys_length ρ vs]
theorem unsA_length (ρ : List Sl) : ∀ vs : List Nat, (unsA ρ vs).length = ρ.length
  | [] => rfl
  | v :: vs => by show ((unsA ρ vs).set v .un).length = _; rw [List.length_set, unsA_length ρ vs]
theorem anys_in {ρ : List Sl} {i : Nat} : ∀ {vs : List Nat}, i ∈ vs → i < ρ.length → (anys ρ vs)[i]? = some .any
  | v :: vs, h, lt => by
    show ((anys ρ vs).set v .any)[i]? = _
    by_cases e : v = i
    · subst e
      exact List.getElem?_set_self (by rw [anys_length]; exact lt)
    · rw [List.getElem?_set_ne e]
      exact anys_in ((List.mem_cons.mp h).resolve_left (Ne.symm e)) lt
theorem anys_out {ρ : List Sl} {i : Nat} : ∀ {vs : List Nat}, i ∉ vs → (anys ρ vs)[i]? = ρ[i]?
  | [], _ => rfl
  | v :: vs, h => by
    show ((anys ρ vs).set v .any)[i]? = _
    rw [List.getElem?_set_ne fun e => h (by rw [e]; exact List.mem_cons_self)]
    exact anys_out fun m => h (List.mem_cons_of_mem _ m)
theorem unsA_in {ρ : List Sl} {i : Nat} : ∀ {vs : List Nat}, i ∈ vs → i < ρ.length → (unsA ρ vs)[i]? = some .un
  | v :: vs, h, lt => by
    show ((unsA ρ vs).set v .un)[i]? = _
    by_cases e : v = i
    · subst e
      exact List.getElem?_set_self (by rw [unsA_length]; exact lt)
    · rw [List.getElem?_set_ne e]
      exact unsA_in ((List.mem_cons.mp h).resolve_left (Ne.symm e)) lt
theorem unsA_out {ρ : List Sl} {i : Nat} : ∀ {vs : List Nat}, i ∉ vs → (unsA ρ vs)[i]? = ρ[i]?
  | [], _ => rfl
  | v :: vs, h => by
    show ((unsA ρ vs).set v .un)[i]? = _
    rw [List.getElem?_set_ne fun e => h (by rw [e]; exact List.mem_cons_self)]
    exact unsA_out fun m => h (List.mem_cons_of_mem _ m)
theorem anys_ext {ρ ρ' : List Sl} {vs : List Nat} (len : ρ'.length = ρ.length) (h : ∀ i, i ∉ vs → ρ'[i]? = ρ[i]?) : anys ρ' vs = anys ρ vs := by
  apply List.ext_getElem?
  intro i
  by_cases m : i ∈ vs
  · by_cases lt : i < ρ.length
    · rw [anys_in m lt, anys_in m (by rw [len]; exact lt)]
    · rw [List.getElem?_eq_none (by rw [anys_length]; omega), List.getElem?_eq_none (by rw [anys_length]; omega)]
  · rw [anys_out m, anys_out m]
    exact h i m
theorem anys_set {ρ : List Sl} {vs : List Nat} {i : Nat} {s : Sl} (m : i ∈ vs) : anys (ρ.set i s) vs = anys ρ vs := anys_ext (List.length_set ..) fun j n => List.getElem?_set_ne fun e => n (by rw [← e]; exact m)
theorem anys_uns {ρ : List Sl} {vs : List Nat} : anys (unsA ρ vs) vs = anys ρ vs := anys_ext (unsA_length ..) fun i n => unsA_out n
theorem anys_anys {ρ : List Sl} {vs : List Nat} : anys (anys ρ vs) vs = anys ρ vs := anys_ext (anys_length ..) fun i n => anys_out n
theorem wipe_in {σ : L2.St} {i : Nat} : ∀ {vs : List Nat}, i ∈ vs → i < σ.length → (wipe σ vs)[i]? = some none
  | v :: vs, h, lt => by
    show ((wipe σ vs).set v none)[i]? = _
    by_cases e : v = i
    · subst e
      exact List.getElem?_set_self (by rw [wipe_length]; exact lt)
    · rw [List.getElem?_set_ne e]
      exact wipe_in ((List.mem_cons.mp h).resolve_left (Ne.symm e)) lt
theorem wipe_ext {σ σ' : L2.St} {vs : List Nat} (len : σ'.length = σ.length) (h : ∀ i, i ∉ vs → σ'[i]? = σ[i]?) : wipe σ' vs = wipe σ vs := by
  apply List.ext_getElem?
  intro i
  by_cases m : i ∈ vs
  · by_cases lt : i < σ.length
    · rw [wipe_in m lt, wipe_in m (by rw [len]; exact lt)]
    · rw [List.getElem?_eq_none (by rw [wipe_length]; omega), List.getElem?_eq_none (by rw [wipe_length]; omega)]
  · rw [wipe_out m, wipe_out m]
    exact h i m
theorem wipe_set {σ : L2.St} {vs : List Nat} {i : Nat} {x : Option V} (m : i ∈ vs) : wipe (σ.set i x) vs = wipe σ vs := wipe_ext (List.length_set ..) fun j n => List.getElem?_set_ne fun e => n (by rw [← e]; exact m)
theorem wipe_wipe {σ : L2.St} {vs : List Nat} : wipe (wipe σ vs) vs = wipe σ vs := wipe_ext (wipe_length ..) fun i n => wipe_out n
section
variable {c : Fr} {A A' : Am} {ρ ρ' : List Sl} {σ : L2.St} {H H' : Hp}
theorem rp_wipes (R : Rp c A ρ σ H) {vs : List Nat} (h : ∀ v ∈ vs, ρ[v]? = some .any) : Rp c A (unsA ρ vs) (wipe σ vs) H := by
  refine ⟨by rw [wipe_length, unsA_length, R.len], by rw [unsA_length]; exact R.sz, R.inj, R.off, R.live, R.keep, R.old, R.bor, ?_, R.tz, R.tb⟩
  intro i s z
  by_cases m : i ∈ vs
  · have lt := (List.getElem?_eq_some_iff.mp (h i m)).1
    rw [unsA_in m lt] at z
    cases z
    rw [wipe_in m (by rw [R.len]; exact lt)]
    exact ⟨rfl, R.sl i _ (h i m)⟩
  · rw [unsA_out m] at z
    rw [wipe_out m]
    exact R.sl i s z
theorem rp_unwipes {σ2 : L2.St} (R : Rp c A ρ σ2 H) {vs : List Nat} (e : wipe σ2 vs = wipe σ vs) (h : freeAt ρ vs) : Rp c A (anys ρ vs) σ H := by
  have len : σ2.length = σ.length := by
    have := congrArg List.length e
    rw [wipe_length, wipe_length] at this
    exact this
  refine ⟨by rw [anys_length, ← len, R.len], by rw [anys_length]; exact R.sz, R.inj, R.off, R.live, R.keep, R.old, R.bor, ?_, R.tz, R.tb⟩
  intro i t z
  by_cases m : i ∈ vs
  · obtain ⟨s, hs, fs⟩ := freeAt_mem h m
    have lt := (List.getElem?_eq_some_iff.mp hs).1
    rw [anys_in m lt] at z
    cases z
    have o := R.sl i _ hs
    show A i = none
    cases s with
    | un => exact o.2
    | any => exact o
    | d x => exact o.1
    | p P => exact o.1
    | l xs => exact fs.elim
    | la a xs => exact fs.elim
    | wa a xs => exact fs.elim
    | dk _ => exact fs.elim
    | lm _ => exact fs.elim
  · rw [anys_out m] at z
    have e' : σ2[i]? = σ[i]? := by
      rw [← wipe_out (σ := σ2) m, e, wipe_out m]
    rw [← e']
    exact R.sl i t z
end
/-- a target that changes no slot but vs -/
def TgW (vs : List Nat) (g : TG) (s : Sl) (ρ ρ' : List Sl) : Prop := ∀ (c : Fr) (A : Am) (σ : L2.St) (H : Hp) (v : V) (Q : L2.St → Hp → Prop), Rp c A ρ σ H → A fl = none → ArOk (vw c.Z A H) v s →
  (∀ A' σ' H', Rp c A' ρ' σ' H' → A' fl = none → Same (vw c.Z A H) (vw c.Z A' H') → wipe σ' vs = wipe σ vs → Q σ' H') → g v σ H Q
def TgsW (vs : List Nat) (g : TGs) (ss : List Sl) (ρ ρ' : List Sl) : Prop := ∀ (c : Fr) (A : Am) (σ : L2.St) (H : Hp) (ws : List V) (Q : L2.St → Hp → Prop), Rp c A ρ σ H → A fl = none → ArAll (vw c.Z A H) ws ss →
  (∀ A' σ' H', Rp c A' ρ' σ' H' → A' fl = none → Same (vw c.Z A H) (vw c.Z A' H') → wipe σ' vs = wipe σ vs → Q σ' H') → g ws σ H Q
section
variable {ρ ρ' ρ0 ρ1 ρ2 : List Sl} {te ta tb tc : TE} {s s' : Sl} {x y : PyData} {i k : Nat} {tr : TA} {xs ys : List PyData} {ss : List Sl} {g : TG} {gs : TGs} {KF : PySem.W.Frag} {vs : List Nat} {wi : TI} {tt : TT}
theorem tgw_name (m : i ∈ vs := by decide) (i0 : i ≠ 0 := by decide) (i1 : i ≠ fl := by decide) : TgW vs (gName i) s ρ (ρ.set i s) := fun c A σ H v Q R f o q =>
  q _ _ H (R.set i0 o.sl) (by rw [aset_ne i1.symm]; exact f) vw_land (wipe_set m)
theorem tgsw_nil : TgsW vs gNil [] ρ ρ := fun c A σ H ws Q R f o q => by
  cases ws with
  | nil => exact ⟨rfl, q A σ H R f (Same.refl _) rfl⟩
  | cons _ _ => exact o.elim
theorem tgsw_cons (h : TgW vs g s ρ ρ1) (k : TgsW vs gs ss ρ1 ρ2) : TgsW vs (gCons g gs) (s :: ss) ρ ρ2 := fun c A σ H ws Q R f o q => by
  cases ws with
  | nil => exact o.elim
  | cons v ws => exact ⟨v, ws, rfl, h c A σ H v _ R f o.1 fun A1 σ1 H1 R1 f1 S1 w1 => k c A1 σ1 H1 ws _ R1 f1 (o.2.mono S1) fun A2 σ2 H2 R2 f2 S2 w2 => q A2 σ2 H2 R2 f2 (S1.trans S2) (w2.trans w1)⟩
theorem tgw_tup {n : Nat} (h : TgsW vs gs (xs.map Sl.d) ρ ρ1) (len : xs.length = n := by rfl) : TgW vs (gTup KF n gs) (.d (.tuple xs)) ρ ρ1 := fun c A σ H v Q R f o q => by
  obtain ⟨a, ws, rfl, e, dx⟩ := tup_v o
  exact ⟨a, ws, rfl, SqT.of (vw_sub _ _ e), dx.length.trans len, h c A σ H ws _ R f (arAll_d dx) q⟩
/-- a walk whose list may be owned, as long as each turn keeps it -/
def FiR (wi : TI) (ρ : List Sl) (xs : List PyData) (ρ0 : List Sl) (R : Nat → List Sl) : Prop := ∀ (c : Fr) (A : Am) (σ : L2.St) (H : Hp) (R0 : It → Hp → Prop), Rp c A ρ σ H → A fl = none →
  (∀ J A1 H1, Rp c A1 ρ0 σ H1 → A1 fl = none → Same (vw c.Z A H) (vw c.Z A1 H1) →
    (∀ (j : Nat) A' H', j ≤ xs.length → Rp c A' (R j) σ H' → Same (vw c.Z A1 H1) (vw c.Z A' H') → (∀ x, xs[j]? = some x → J.go j H' ∧ ∀ v H2, J.yld j H' v H2 → Same H' H2 ∧ Dn (vw c.Z A' H2) v x) ∧ (j = xs.length → J.stop j H')) → R0 J H1) → wi σ H R0
theorem fiR {R : Nat → List Sl} (h : Fi wi ρ xs ρ0) : FiR wi ρ xs ρ0 R := fun c A σ H R0 RR f k => h c A σ H R0 RR f fun J A1 H1 R1 f1 S1 jk => k J A1 H1 R1 f1 S1 fun j A' H' hj R' S' => by
  refine ⟨fun x e => ?_, fun e => ?_⟩
  · obtain ⟨go, yl⟩ := jk.1 j x H' e (S'.trans vw_sub)
    refine ⟨go, fun v H2 y => ?_⟩
    obtain ⟨S2, dn⟩ := yl v H2 y
    exact ⟨S2, dn _ (S'.trans (vw_up S2)) fun b o n e => new_view R' n e⟩
  · subst e
    exact jk.2 H' (S'.trans vw_sub)
theorem fiR_own {R : Nat → List Sl} (h : ρ[k]? = some (.l xs)) (hR : ∀ j, j ≤ xs.length → (R j)[k]? = some (.l xs)) : FiR (iList KF (tVar k)) ρ xs ρ R := fun c A σ H R0 RR f kk => by
  obtain ⟨a, us, e, e1, e2, dx⟩ := RR.sl k _ h
  refine ⟨_, e1, a, rfl, ⟨us, SqL.of e2⟩, kk _ A H RR f (Same.refl _) fun j A' H' hj R' S' => ?_⟩
  obtain ⟨b, ws, e3, e4, e5, dy⟩ := R'.sl k _ (hR j hj)
  rw [e1] at e4
  cases e4
  refine ⟨fun x ex => ?_, fun ej => ?_⟩
  · have lt : j < ws.length := by rw [dy.length]; exact (List.getElem?_eq_some_iff.mp ex).1
    refine ⟨⟨ws, ws[j], SqL.of e5, List.getElem?_eq_getElem lt⟩, fun v H3 ⟨q1, q2⟩ => ?_⟩
    subst q1
    refine ⟨Same.refl _, ?_⟩
    obtain ⟨x', e', dn⟩ := dn_at dy (q2 ws (SqL.of e5))
    rw [ex] at e'
    cases e'
    exact dn
  · subst ej
    exact ⟨ws, SqL.of e5, by rw [dy.length]; exact Nat.le_refl _⟩
theorem el_lcR (R : Nat → List Sl) (h : FiR wi ρ xs ρ0 R) (acc : Nat → List PyData) (h0 : R 0 = anys ρ0 vs) (hv : freeAt ρ0 vs) (ha : acc 0 = [])
    (len : ∀ j, j < xs.length → (acc j).length < sizeLine)
    (hs : ∀ j x, xs[j]? = some x → (∀ v ∈ vs, (R j)[v]? = some .any) → ∃ ρ2 ρ3 b, TgW vs g (.d x) (unsA (R j) vs) ρ2 ∧ Et tt ρ2 b ρ3 ∧
      (b = true → ∃ y ρ4, Ev te ρ3 (.d y) ρ4 ∧ acc (j + 1) = acc j ++ [y] ∧ anys ρ4 vs = R (j + 1) ∧ freeAt ρ4 vs) ∧ (b = false → acc (j + 1) = acc j ∧ anys ρ3 vs = R (j + 1) ∧ freeAt ρ3 vs)) :
    El (tLc wi g tt te vs) ρ (acc xs.length) (R xs.length) := fun c A σ H Q R0 f q =>
  h c A σ H _ R0 f fun J A1 H1 R1 f1 S1 jk => fun D hD => by
    have any0 : Rp c A1 (anys ρ0 vs) σ H1 := rp_unwipes R1 rfl hv
    have lts : ∀ v ∈ vs, v < ρ0.length := fun v m => by
      obtain ⟨s, hs, _⟩ := freeAt_mem hv m
      exact (List.getElem?_eq_some_iff.mp hs).1
    refine ⟨fun j m H' => m = xs.length - j ∧ j ≤ xs.length ∧ ∃ A' us, Rp c A' (R j) σ H' ∧ (∀ v ∈ vs, (R j)[v]? = some .any) ∧ A' fl = some D ∧ H' D = some (.lst us) ∧ DnAll (vw c.Z A' H') us (acc j) ∧ Same (vw c.Z A1 H1) (vw c.Z A' H'), ⟨xs.length, by simp, Nat.zero_le _, _, [], by rw [h0]; exact any0.fly hD, ?_, aset_at, upd_same, by rw [ha]; exact .nil, vw_fly hD⟩, ?_⟩
    · intro v m
      rw [h0]
      exact anys_in m (lts v m)
    rintro j m H' ⟨rfl, hj, A', us, R', an, f', eD, dx, S'⟩
    by_cases lt : j < xs.length
    · have e := List.getElem?_eq_getElem lt
      obtain ⟨go, yl⟩ := (jk j A' H' hj R' S').1 _ e
      refine Or.inr ⟨go, fun H2 => j + 1 ≤ xs.length ∧ ∃ A' us, Rp c A' (R (j + 1)) σ H2 ∧ (∀ v ∈ vs, (R (j + 1))[v]? = some .any) ∧ A' fl = some D ∧ H2 D = some (.lst us) ∧ DnAll (vw c.Z A' H2) us (acc (j + 1)) ∧ Same (vw c.Z A1 H1) (vw c.Z A' H2), fun H2 p => ⟨xs.length - (j + 1), by omega, rfl, p.1, p.2⟩, fun w H2 y => ?_⟩
      obtain ⟨S2, dn⟩ := yl w H2 y
      have R2 := R'.up S2
      have eD2 := S2 _ _ eD
      have dx2 : DnAll (vw c.Z A' H2) us (acc j) := DnAll.mono (vw_up S2) dx
      have dw : Dn (vw c.Z A' H2) w xs[j] := dn
      have P := R2.park f'
      have hvp := vw_park (c := c) (H := H2) f' R2.inj
      have PW := rp_wipes P an
      obtain ⟨ρ2, ρ3, b, tg, et, yes, no⟩ := hs j _ e an
      refine tg (c.park D H2 (vw c.Z A' H2)) _ _ H2 w _ PW aset_at (by
        show Dn (vw (fun b => c.Z b ∨ b = D) (aset A' fl none) H2) w xs[j]
        rw [hvp]
        exact dw) fun A3 σ3 H3 R3 f3 S3 w3 => ⟨w3.trans wipe_wipe, ?_⟩
      have wip : wipe σ3 vs = wipe σ vs := w3.trans wipe_wipe
      refine et (c.park D H2 (vw c.Z A' H2)) A3 σ3 H3 _ R3 f3 fun A4 H4 R4 f4 S4 => ?_
      have nZ : ¬ c.Z D := R2.off _ _ f'
      have back : ∀ {A5 : Am} {ρ5 : List Sl} {H5 : Hp}, Rp (c.park D H2 (vw c.Z A' H2)) A5 ρ5 σ3 H5 → A5 fl = none → freeAt ρ5 vs → Rp c (aset A5 fl (some D)) (anys ρ5 vs) σ H5 ∧ H5 D = some (.lst us) ∧ Same (vw c.Z A' H2) (vw c.Z (aset A5 fl (some D)) H5) := by
        intro A5 ρ5 H5 R5 f5 fr5
        have U := R5.unpark f5 nZ R2.tz (fun a z => R2.keep a z) R2.old
        refine ⟨rp_unwipes U wip fr5, ((R5.keep D (Or.inr rfl) (R2.nt f')).2).trans eD2, ?_⟩
        rw [vw_unpark (c := c) (H := H5) (D := D) f5]
        exact R5.old
      have lts2 : ∀ {ρ5 : List Sl}, freeAt ρ5 vs → ∀ v ∈ vs, (anys ρ5 vs)[v]? = some .any := fun fr v m => by
        obtain ⟨s, hs, _⟩ := freeAt_mem fr m
        exact anys_in m (List.getElem?_eq_some_iff.mp hs).1
      cases b with
      | true =>
        obtain ⟨y, ρ4, ev, ea, eR, fr⟩ := yes rfl
        show te σ3 H4 _
        refine ev (c.park D H2 (vw c.Z A' H2)) A4 σ3 H4 _ R4 f4 fun u A5 H5 R5 f5 S5 o5 => ?_
        obtain ⟨U1, eD3, SS⟩ := back R5 f5 fr
        have o5' : Dn (vw c.Z (aset A5 fl (some D)) H5) u y := by
          rw [vw_unpark (c := c) (H := H5) (D := D) f5]
          exact o5
        have an2 := lts2 fr
        rw [eR] at U1 an2
        refine ⟨us, eD3, by rw [dx.length]; exact len j lt, lt, aset A5 fl (some D), us ++ [u], U1.mutFl aset_at, an2, aset_at, upd_same, ?_, ?_⟩
        · rw [vw_mut (A := aset A5 fl (some D)) (i := fl) aset_at, ea]
          exact (DnAll.mono SS dx2).snoc o5'
        · rw [vw_mut (A := aset A5 fl (some D)) (i := fl) aset_at]
          exact (S'.trans (vw_up S2)).trans SS
      | false =>
        obtain ⟨ea, eR, fr⟩ := no rfl
        obtain ⟨U1, eD3, SS⟩ := back R4 f4 fr
        have an2 := lts2 fr
        rw [eR] at U1 an2
        show j + 1 ≤ xs.length ∧ _
        refine ⟨lt, aset A4 fl (some D), us, U1, an2, aset_at, eD3, ?_, (S'.trans (vw_up S2)).trans SS⟩
        rw [ea]
        exact DnAll.mono SS dx2
    · have e : j = xs.length := by omega
      subst e
      exact Or.inl ⟨(jk _ A' H' hj R' S').2 rfl, q D us A' H' R' f' (S1.trans S') eD dx⟩
theorem el_lcG (h : Fi wi ρ xs ρ0) (R : Nat → List Sl) (acc : Nat → List PyData) (h0 : R 0 = anys ρ0 vs) (hv : freeAt ρ0 vs) (ha : acc 0 = [])
    (len : ∀ j, j < xs.length → (acc j).length < sizeLine)
    (hs : ∀ j x, xs[j]? = some x → (∀ v ∈ vs, (R j)[v]? = some .any) → ∃ ρ2 ρ3 b, TgW vs g (.d x) (unsA (R j) vs) ρ2 ∧ Et tt ρ2 b ρ3 ∧
      (b = true → ∃ y ρ4, Ev te ρ3 (.d y) ρ4 ∧ acc (j + 1) = acc j ++ [y] ∧ anys ρ4 vs = R (j + 1) ∧ freeAt ρ4 vs) ∧ (b = false → acc (j + 1) = acc j ∧ anys ρ3 vs = R (j + 1) ∧ freeAt ρ3 vs)) :
    El (tLc wi g tt te vs) ρ (acc xs.length) (R xs.length) := el_lcR R (fiR h) acc h0 hv ha len hs
theorem et_yes : Et tYes ρ true ρ := fun c A σ H Q R f q => q A H R f (Same.refl _)
/-- .. where nothing is changed: mapped and sieved -/
theorem el_lcF {f : PyData → PyData} {p : PyData → Bool} (h : Fi wi ρ xs ρ0) (hv : freeAt ρ0 vs) (len : xs.length ≤ sizeLine)
    (hs : ∀ x, x ∈ xs → ∃ ρ2, TgW vs g (.d x) (unsA (anys ρ0 vs) vs) ρ2 ∧ Et tt ρ2 (p x) ρ2 ∧ (p x = true → Ev te ρ2 (.d (f x)) ρ2) ∧ anys ρ2 vs = anys ρ0 vs ∧ freeAt ρ2 vs) :
    El (tLc wi g tt te vs) ρ ((xs.filter p).map f) (anys ρ0 vs) := by
  have lf : ∀ j, ((xs.take j).filter p).length ≤ j := fun j => Nat.le_trans (List.length_filter_le _ _) (by rw [List.length_take]; omega)
  have := el_lcG (g := g) (tt := tt) (te := te) (vs := vs) h (fun _ => anys ρ0 vs) (fun j => ((xs.take j).filter p).map f) rfl hv rfl (fun j hj => by rw [List.length_map]; exact Nat.lt_of_le_of_lt (lf j) (by omega)) fun j x e _ => by
    obtain ⟨ρ2, a, b, c, d, fr⟩ := hs x (List.mem_of_getElem? e)
    refine ⟨ρ2, ρ2, p x, a, b, fun hp => ⟨f x, ρ2, c hp, ?_, d, fr⟩, fun hp => ⟨?_, d, fr⟩⟩
    · show ((xs.take (j + 1)).filter p).map f = ((xs.take j).filter p).map f ++ [f x]
      rw [take_snoc e, List.filter_append, List.map_append, List.filter_cons_of_pos hp]
      rfl
    · show ((xs.take (j + 1)).filter p).map f = ((xs.take j).filter p).map f
      rw [take_snoc e, List.filter_append, List.filter_cons_of_neg (by rw [hp]; decide), List.filter_nil, List.append_nil]
  rw [List.take_length] at this
  exact this
/-- .. place by place -/
theorem el_lcYR (h : FiR wi ρ xs ρ0 fun _ => anys ρ0 vs) (hv : freeAt ρ0 vs) (len : xs.length ≤ sizeLine) (hl : ys.length = xs.length)
    (hs : ∀ (j : Nat) x y, xs[j]? = some x → ys[j]? = some y → ∃ ρ2, TgW vs g (.d x) (unsA (anys ρ0 vs) vs) ρ2 ∧ Ev te ρ2 (.d y) ρ2 ∧ anys ρ2 vs = anys ρ0 vs ∧ freeAt ρ2 vs) :
    El (tLc wi g tYes te vs) ρ ys (anys ρ0 vs) := by
  have := el_lcR (g := g) (tt := tYes) (te := te) (vs := vs) (fun _ => anys ρ0 vs) h (fun j => ys.take j) rfl hv rfl (fun j hj => by rw [List.length_take]; omega) fun j x e _ => by
    have lt : j < ys.length := by rw [hl]; exact (List.getElem?_eq_some_iff.mp e).1
    have ey := List.getElem?_eq_getElem lt
    obtain ⟨ρ2, a, b, c, d⟩ := hs j x _ e ey
    exact ⟨ρ2, ρ2, true, a, et_yes, fun _ => ⟨_, ρ2, b, take_snoc ey, c, d⟩, fun z => by cases z⟩
  rw [← hl, List.take_length] at this
  exact this
theorem el_lcY (h : Fi wi ρ xs ρ0) (hv : freeAt ρ0 vs) (len : xs.length ≤ sizeLine) (hl : ys.length = xs.length)
    (hs : ∀ (j : Nat) x y, xs[j]? = some x → ys[j]? = some y → ∃ ρ2, TgW vs g (.d x) (unsA (anys ρ0 vs) vs) ρ2 ∧ Ev te ρ2 (.d y) ρ2 ∧ anys ρ2 vs = anys ρ0 vs ∧ freeAt ρ2 vs) :
    El (tLc wi g tYes te vs) ρ ys (anys ρ0 vs) := el_lcYR (fiR h) hv len hl hs
/-- .. mapped -/
theorem el_lcM {f : PyData → PyData} (h : Fi wi ρ xs ρ0) (hv : freeAt ρ0 vs) (len : xs.length ≤ sizeLine)
    (hs : ∀ x, x ∈ xs → ∃ ρ2, TgW vs g (.d x) (unsA (anys ρ0 vs) vs) ρ2 ∧ Ev te ρ2 (.d (f x)) ρ2 ∧ anys ρ2 vs = anys ρ0 vs ∧ freeAt ρ2 vs) :
    El (tLc wi g tYes te vs) ρ (xs.map f) (anys ρ0 vs) := by
  have := el_lcF (f := f) (p := fun _ => true) (g := g) (tt := tYes) (te := te) h hv len fun x hx => by
    obtain ⟨ρ2, a, b, c, d⟩ := hs x hx
    exact ⟨ρ2, a, et_yes, fun _ => b, c, d⟩
  rw [List.filter_eq_self.mpr fun _ _ => rfl] at this
  exact this
theorem sm_seqI {t u : TS} {K : KK} (I : List Sl → Prop) (h : Sm t ρ { K with nx := I }) (k : ∀ ρ', I ρ' → Sm u ρ' K) : Sm (tSeq t u) ρ K :=
  sm_seq (sm_mono h k (fun _ _ z => z) (fun _ z => z) fun _ z => z)
theorem sm_par {i j : Nat} {ta : TA} {s t : Sl} {K : KK} (h : Es ta ρ [s, t] ρ1) (k : K.nx ((ρ1.set i s).set j t)) (i0 : i ≠ 0 := by decide) (i1 : i ≠ fl := by decide) (j0 : j ≠ 0 := by decide) (j1 : j ≠ fl := by decide) : Sm (tPar i j ta) ρ K := fun c A σ H D R f dk =>
  h c A σ H _ R f fun vs A1 H1 R1 f1 S1 o1 => by
    cases vs with
    | nil => exact o1.elim
    | cons v vs => cases vs with
      | nil => exact o1.2.elim
      | cons w vs => cases vs with
        | cons u vs => exact o1.2.2.elim
        | nil =>
          have o2 : ArOk (vw c.Z (aset A1 i none) H1) w t := o1.2.1.mono vw_land
          exact ⟨v, w, rfl, dk.nx _ _ _ _ k ((R1.set i0 o1.1.sl).set j0 o2.sl) (by rw [aset_ne j1.symm, aset_ne i1.symm]; exact f1)⟩
/-- slots of comprehensions: nothing is known of them -/
theorem sm_any {t : TS} {K : KK} (vs : List Nat) (hv : freeAt ρ vs) (g : Sm t (anys ρ vs) K) : Sm t ρ K := fun c A σ H D R f dk => g c A σ H D (rp_unwipes R rfl hv) f dk
theorem sm_freeze {t : TS} {K : KK} (k : Nat) (h : ρ[k]? = some (.l xs)) (g : Sm t (ρ.set k (.d (.list xs))) K) (k0 : k ≠ 0 := by decide) : Sm t ρ K := fun c A σ H D R f dk => by
  obtain ⟨a, e, e1, dn, R'⟩ := R.freeze k0 h
  exact g c _ σ H D R' (by rw [aset_ne (idx_small R.sz h).symm]; exact f) dk
/-! ### in a comprehension: the frame's K by an equation -/
section
variable {X : Cx} {K : PySem.W.Frag}
theorem op_in_seqK (e : X.K = K) : OpR X (compareOp .In) (rIn K false) := by subst e; exact op_in_seq
theorem op_notIn_seqK (e : X.K = K) : OpR X (compareOp .NotIn) (rIn K true) := by subst e; exact op_notIn_seq
theorem pg_tupK {es : List Expr} {k : Nat} {t : TGs} {n : Nat} {pos : Pos} (e : X.K = K) (hc : X.calm = true) (h : PGs X es t)
    (hn : (assignEach es X.env).length = n := by rfl) (hst : (assignEach es X.env).findIdx? (·.1) = none := by rfl) : PG X (.Tuple es k pos) (gTup K n t) := by subst e; exact pg_tup hc h hn hst
theorem ix_tupK (e : X.K = K) : IxR X (rIxT K) := by subst e; exact ix_tup
theorem ix_listK (e : X.K = K) : IxR X (rIxL K) := by subst e; exact ix_list
theorem sl_tupAK (e : X.K = K) : SlR X (rSlA K) := by subst e; exact sl_tupA
theorem sl_listK (e : X.K = K) : SlR X (rSlL K) := by subst e; exact sl_list
theorem op_catAK (e : X.K = K) : OpR X (binaryOp .Add) (rCatA K) := by subst e; exact op_catA
theorem call_len_seqK (e : X.K = K) : CallR X (.builtin "len") (fun xs H Q => ∃ p ys, xs = [.ref p] ∧ (SqL K H p ys ∨ SqT K H p ys) ∧ Q (.int ys.length) H) := by subst e; exact call_len_seq
end
/-! ### more operators -/
theorem ev_chain {r r' : R2} {a b c : Int} {f f' : Int → Int → Bool} (ha : Ev ta ρ (.d (.int a)) ρ1) (hb : Ev tb ρ1 (.d (.int b)) ρ2) (hc : f a b = true → Ev tc ρ2 (.d (.int c)) ρ2) (hr : FV2 r (.d (.int a)) (.d (.int b)) (.d (.bool (f a b)))) (hr' : FV2 r' (.d (.int b)) (.d (.int c)) (.d (.bool (f' b c)))) :
    Ev (tChain r r' ta tb tc) ρ (.d (.bool (f a b && f' b c))) ρ2 := fun cc A σ H Q R fl0 q =>
  ha cc A σ H _ R fl0 fun u A1 H1 R1 f1 S1 o1 => hb cc A1 σ H1 _ R1 f1 fun v A2 H2 R2 f2 S2 o2 => hr _ H2 u v _ vw_sub (o1.mono S2) o2 fun z H3 S3 o3 => by
    have R3 := R2.up S3
    have z0 := o3 _ (vw_up S3) fun b o n e => new_view R2 n e
    refine ⟨f a b, bool_v z0, ?_⟩
    cases e : f a b with
    | true =>
      rw [if_pos rfl]
      refine hc e cc A2 σ H3 _ R3 f2 fun w A4 H4 R4 f4 S4 o4 => hr' _ H4 v w Q vw_sub ((o2.mono (vw_up S3)).mono S4) o4 fun z' H5 S5 o5 => ?_
      rw [e, Bool.true_and] at q
      exact q z' A4 H5 (R4.up S5) f4 ((((S1.trans S2).trans (vw_up S3)).trans S4).trans (vw_up S5)) (o5 _ (vw_up S5) fun b o n e => new_view R4 n e)
    | false =>
      rw [if_neg (by decide)]
      rw [e, Bool.false_and] at q
      exact q _ A2 H3 R3 f2 ((S1.trans S2).trans (vw_up S3)) (.bl false)
theorem ev_negI {n : Int} (h : Ev te ρ (.d (.int n)) ρ1) : Ev (tUn (rU fun i => .int (-i)) te) ρ (.d (.int (-n))) ρ1 := fun c A σ H Q R f q => h c A σ H _ R f fun v A1 H1 R1 f1 S1 o1 => by
  obtain rfl := int_v o1
  exact ⟨n, rfl, q _ A1 H1 R1 f1 S1 (.int _)⟩
theorem ev_slS {tl th : TO} {z : Str} {lo hi : Option Int} (h : Ev te ρ (.d (.str z)) ρ') (h1 : Eo tl ρ' lo ρ1) (h2 : Eo th ρ1 hi ρ2) (len : z.length ≤ sizeLine) : Ev (tSl rSlS te tl th) ρ (.d (.str (cutS z lo hi))) ρ2 := fun c A σ H Q R f q =>
  h c A σ H _ R f fun v A1 H1 R1 f1 S1 o1 => h1 c A1 σ H1 _ R1 f1 fun A2 H2 R2 f2 S2 => h2 c A2 σ H2 _ R2 f2 fun A3 H3 R3 f3 S3 => by
    obtain rfl := str_v o1
    exact ⟨z, rfl, len, q _ A3 H3 R3 f3 ((S1.trans S2).trans S3) (.str _)⟩
theorem el_revL (h : Ev te ρ (.d (.list xs)) ρ1) : El (tRevL KF te) ρ xs.reverse ρ1 := fun c A σ H Q R f q =>
  h c A σ H _ R f fun v A1 H1 R1 f1 S1 o1 => by
    obtain ⟨a, us, rfl, e, dx⟩ := lst_v o1
    have rv : ∀ {us : List V} {xs : List PyData}, DnAll (vw c.Z A1 H1) us xs → DnAll (vw c.Z A1 H1) us.reverse xs.reverse := fun {us xs} h => by
      induction h using DnAll.rec (motive_1 := fun _ _ _ => True) with
      | nil => exact .nil
      | cons a b _ ih =>
        rw [List.reverse_cons, List.reverse_cons]
        exact ih.snoc a
      | _ => trivial
    exact ⟨a, us, rfl, SqL.of (vw_sub _ _ e), fun p hp => q p _ _ _ (R1.fly hp) aset_at (S1.trans (vw_fly hp)) upd_same (DnAll.mono (vw_fly hp) (rv dx))⟩
theorem fv_strI {n : Int} (h : n.natAbs.log2 < 1920) : FV (fun xs H Q => ∃ i, xs = [.int i] ∧ i.natAbs.log2 < 1920 ∧ Q (.str (toString i)) H) [.d (.int n)] (.d (.str (toString n))) := fv_s (dS (toString n)) fun W H vs Q S o q => by
  match vs, o with
  | [v], o =>
    obtain rfl := int_v o.1
    exact ⟨n, rfl, h, q⟩
theorem fv_sign {c : Nat} {z : Str} : FV2 (fun x y H Q => ∃ (c : Nat) (z : Str), x = .str ⟨#[c]⟩ ∧ y = .str z ∧ Q (.bl (decide (c ∈ z.cps.toList))) H) (.d (.str ⟨#[c]⟩)) (.d (.str z)) (.d (.bool (decide (c ∈ z.cps.toList)))) := fv2_s (dB (decide (c ∈ z.cps.toList))) fun W H v w Q S o o' q => ⟨c, z, str_v o, str_v o', q⟩
theorem fv_nsign {c : Nat} {z : Str} : FV2 (fun x y H Q => ∃ (c : Nat) (z : Str), x = .str ⟨#[c]⟩ ∧ y = .str z ∧ Q (.bl (!decide (c ∈ z.cps.toList))) H) (.d (.str ⟨#[c]⟩)) (.d (.str z)) (.d (.bool (!decide (c ∈ z.cps.toList)))) := fv2_s (dB (!decide (c ∈ z.cps.toList))) fun W H v w Q S o o' q => ⟨c, z, str_v o, str_v o', q⟩
theorem fv_notB {a b : Bool} : FV2 rNotB (.d (.bool a)) (.d (.bool b)) (.d (.bool (!decide (a = b)))) := fv2_s (dB (!decide (a = b))) fun W H v w Q S o o' q => ⟨a, b, bool_v o, bool_v o', q⟩
theorem fv_isB {a b : Bool} : FV2 rIsB (.d (.bool a)) (.d (.bool b)) (.d (.bool (decide (a = b)))) := fv2_s (dB (decide (a = b))) fun W H v w Q S o o' q => ⟨a, b, bool_v o, bool_v o', q⟩
theorem fv_lenS {z : Str} (h : z.length ≤ sizeLine) : FV (fun xs H Q => ∃ x, xs = [.str x] ∧ x.length ≤ sizeLine ∧ Q (.int x.length) H) [.d (.str z)] (.d (.int (z.length : Int))) := fv_s (dI (z.length : Int)) fun W H vs Q S o q => by
  match vs, o with
  | [v], o =>
    obtain rfl := str_v o.1
    exact ⟨z, rfl, h, q⟩
/-- t == (), xs == [] -/
theorem fv_eqET : FV2 rEqE (.d (.tuple xs)) (.d (.tuple [])) (.d (.bool xs.isEmpty)) := fv2_s (dB xs.isEmpty) fun W H v w Q S o o' q => by
  obtain ⟨a, us, rfl, e, dx⟩ := tup_v o
  obtain ⟨b, ws, rfl, e', dy⟩ := tup_v o'
  cases dy
  refine ⟨a, b, us, rfl, rfl, Or.inl ⟨S _ _ e, S _ _ e'⟩, ?_⟩
  have : us.isEmpty = xs.isEmpty := by cases dx <;> rfl
  rw [this]
  exact q
theorem fv_eqEL : FV2 rEqE (.d (.list xs)) (.d (.list [])) (.d (.bool xs.isEmpty)) := fv2_s (dB xs.isEmpty) fun W H v w Q S o o' q => by
  obtain ⟨a, us, rfl, e, dx⟩ := lst_v o
  obtain ⟨b, ws, rfl, e', dy⟩ := lst_v o'
  cases dy
  refine ⟨a, b, us, rfl, rfl, Or.inr ⟨S _ _ e, S _ _ e'⟩, ?_⟩
  have : us.isEmpty = xs.isEmpty := by cases dx <;> rfl
  rw [this]
  exact q
theorem fv_neET : FV2 rNeE (.d (.tuple xs)) (.d (.tuple [])) (.d (.bool (!xs.isEmpty))) := fv2_s (dB (!xs.isEmpty)) fun W H v w Q S o o' q => by
  obtain ⟨a, us, rfl, e, dx⟩ := tup_v o
  obtain ⟨b, ws, rfl, e', dy⟩ := tup_v o'
  cases dy
  refine ⟨a, b, us, rfl, rfl, S _ _ e, S _ _ e', ?_⟩
  have : us.isEmpty = xs.isEmpty := by cases dx <;> rfl
  rw [this]
  exact q
def rNeEL : R2 := fun x y H Q => ∃ a b xs, x = .ref a ∧ y = .ref b ∧ H a = some (.lst xs) ∧ H b = some (.lst []) ∧ Q (.bl (!xs.isEmpty)) H
theorem op_neEL {X : Cx} (hu : X.A.units + 1 < cLine) : OpR X (compareOp .NotEq) rNeEL := by
  intro pins s σ H x y v u Q I rx ry h
  obtain ⟨a, b, xs, rfl, rfl, ha, hb, q⟩ := h
  cases rx
  cases ry
  have fin : EP X pins σ Q (.bool (!xs.isEmpty)) s := ⟨.bl (!xs.isEmpty), H, I, rfl, q⟩
  obtain ⟨_, its, n, r, ho⟩ := I.hok _ _ ha
  obtain ⟨_, its2, n2, r2, ho2⟩ := I.hok _ _ hb
  cases r2
  cases r with
  | nil => exact SeqAt.RcNeAt.lists (e := fun _ => true) ⟨_, ho, rfl, _, rfl⟩ ⟨_, ho2, rfl, _, rfl⟩ rfl (by omega) (fun j h1 h2 => absurd h2 (by simp)) _ _ _ _ (by simpa using fin)
  | cons r t => exact SeqAt.RcNeAt.lists_lengths ⟨_, ho, rfl, _, rfl⟩ ⟨_, ho2, rfl, _, rfl⟩ (by simp) (by omega) _ _ _ _ (by simpa using fin)
theorem fv_neEL : FV2 rNeEL (.d (.list xs)) (.d (.list [])) (.d (.bool (!xs.isEmpty))) := fv2_s (dB (!xs.isEmpty)) fun W H v w Q S o o' q => by
  obtain ⟨a, us, rfl, e, dx⟩ := lst_v o
  obtain ⟨b, ws, rfl, e', dy⟩ := lst_v o'
  cases dy
  refine ⟨a, b, us, rfl, rfl, S _ _ e, S _ _ e', ?_⟩
  have : us.isEmpty = xs.isEmpty := by cases dx <;> rfl
  rw [this]
  exact q
theorem ev_dnew : Ev tDNewK ρ (.d (.dict [])) ρ := fun c A σ H Q R f q => fun p hp =>
  q _ A _ (R.up (Same.new hp)) f (vw_up (Same.new hp)) (.dic (kvs := []) (new_view R hp upd_same) .nil .nil)
/-- names.index(name): the first place -/
theorem eqV_str {a b : Str} : eqV (.str a) (.str b) = decide (a = b) := by
  show (a == b) = _
  by_cases h : a = b
  · subst h
    rw [decide_eq_true rfl]
    exact beq_self_eq_true _
  · rw [decide_eq_false h]
    exact beq_eq_false_iff_ne.mpr h
theorem ev_indexS {ns : List Str} {n : Str} {j : Nat} (h : Ev te ρ (.d (.list (ns.map .str))) ρ1) (g : Ev ta ρ1 (.d (.str n)) ρ1) (hj : ns[j]? = some n) (hno : ∀ m, m < j → ns[m]? ≠ some n) :
    Ev (tBM KF "list" (rIndex KF) te (tCons ta tNil)) ρ (.d (.int (j : Int))) ρ1 := fun c A σ H Q R f q =>
  h c A σ H _ R f fun v A1 H1 R1 f1 S1 o1 => by
    obtain ⟨a, us, rfl, e, dx⟩ := lst_v o1
    have hu : us = ns.map V.str := by
      clear h hj hno o1 e
      induction ns generalizing us with
      | nil => cases dx; rfl
      | cons b bs ih =>
        cases dx with
        | cons h t =>
          cases h
          rw [List.map_cons, ih _ t]
    subst hu
    refine ⟨Or.inl ⟨rfl, _, SqL.of (vw_sub _ _ e)⟩, g c A1 σ H1 _ R1 f1 fun w A2 H2 R2 f2 S2 o2 => ?_⟩
    obtain rfl := str_v o2
    refine ⟨a, ns.map V.str, .str n, j, .str n, rfl, rfl, SqL.of (vw_sub _ _ (S2 _ _ e)), rfl, ?_, by rw [List.getElem?_map, hj]; rfl, by rw [eqV_str]; simp, fun m z' hm hz => ?_, q _ A2 H2 R2 f2 (S1.trans S2) (.int _)⟩
    · rw [List.all_map]
      exact List.all_eq_true.mpr fun _ _ => rfl
    · rw [List.getElem?_map] at hz
      cases e1 : ns[m]? with
      | none => rw [e1] at hz; cases hz
      | some b =>
        rw [e1] at hz
        cases hz
        rw [eqV_str]
        exact decide_eq_false fun z => hno m hm (by rw [e1, z])
end
end OW
set_option Elab.async false
set_option linter.unusedVariables false
set_option linter.unusedSectionVars false
set_option maxRecDepth 100000
set_option maxHeartbeats 1000000
namespace OW
open PySem PySem.Spec PyProof.Rows L2 KA
variable [Tbs]
open PySem.SeqAt PySem.AutoSeq1 PySem.MeetsSeq
/-! ### any data == a text -/
theorem str_eq_declines_dict (b : Str) (u : Tok) (l : Addr) (c : Value) (dd : Option Addr) (es : Array DictEntry) (ep : Nat) (sl : Array (Option Value)) :
    Meets (Builtin.«str.__eq__» ⟨[.str b u, .ref l], []⟩) (fun _ R s => s.heap.get? l = some { cls := c, dict := dd, data := .dict es ep, slots := sl } ∧ R (.ok (.ret .notImplemented)) s) :=
  .of_wp fun prog w A R s h => by
    obtain ⟨hp, g, d, tk, os⟩ := s
    obtain ⟨hl, h⟩ := h
    wp_walk using wpAny_loadPart' hl, wpAny_load hl
    exact ⟨_, rfl, h⟩
def isS (d : PyData) (z : Str) : Bool := match d with | .str x => decide (x = z) | _ => false
def rEqDS : R2 := fun x y H Q => ∃ d z, Dn H x d ∧ y = .str z ∧ Q (.bl (isS d z)) H
theorem op_eqDS {X : Cx} (hu : X.A.units + 1 < cLine) : OpR X (compareOp .Eq) rEqDS := by
  intro pins s σ H x y v u Q I rx ry h
  obtain ⟨d, z, hd, rfl, q⟩ := h
  obtain ⟨tk, rfl⟩ := ry
  have hu' : X.A.units < cLine := by omega
  have fin : EP X pins σ Q (.bool (isS d z)) s := ⟨.bl (isS d z), H, I, rfl, q⟩
  cases hd with
  | non =>
    cases rx
    exact RcAt.none_str z tk _ _ _ _ fin
  | bl b =>
    cases rx
    exact RcAt.bool_str b z tk _ _ _ _ fin
  | int i =>
    obtain ⟨t, rfl⟩ := rx
    exact RcAt.int_str i t z tk _ _ _ _ fin
  | str x =>
    obtain ⟨t, rfl⟩ := rx
    refine RcAt.str_str x t z tk _ _ _ _ ?_
    have : (x == z) = isS (.str x) z := by
      show _ = decide (x = z)
      by_cases h : x = z
      · subst h
        rw [decide_eq_true rfl]
        exact beq_self_eq_true _
      · rw [decide_eq_false h]
        exact beq_eq_false_iff_ne.mpr h
    rw [this]
    exact fin
  | lst e r =>
    cases rx
    obtain ⟨_, its, n, rv, ho⟩ := I.hok _ _ e
    exact RcAt.list_str z tk ⟨_, ho, rfl, _, rfl⟩ hu' _ _ _ _ fin
  | tup e r =>
    cases rx
    obtain ⟨_, its, rv, o, ho, hc, n, hd⟩ := I.hok _ _ e
    exact RcAt.tuple_str z tk ⟨o, ho, hc, n, hd⟩ hu' _ _ _ _ fin
  | dic e r r' =>
    cases rx
    obtain ⟨_, _, vs, kv, dO⟩ := I.hok _ _ e
    obtain ⟨⟨cls, dd, data, sl⟩, es, ep, ho, ex, hd, c⟩ := id dO
    simp only at hd
    subst hd
    refine SeqAt.rc_eq_decline_or (k := false) dO.typeIs (typeIs_str s z tk) (by decide) F.sub_str_dict F.slot_dict_eq F.slot_str_eq_refl (fun Q' hq => ?_)
      (fun _ hq => call_meets F.slot_str_eq_refl (typeIs_str s z tk) F.entry_str_eq (F.args_str_eq_2 _ _) (str_eq_declines_dict z tk _ cls dd es ep sl) ⟨ho, hq⟩)
      (fun _ hq => wpAny_of_eq (rfl : isSame (.ref _) (.str z tk) = pure false) hq) (.inr hu') fin
    refine wpAny_call_entry F.slot_dict_eq dO.typeIs F.entry_dict_eq ?_ (F.args_dict_eq_2 _ _)
    show wpAny _ _ (Builtin.Dict.dictSlotArgs "__eq__" ⟨[.ref _, .str z tk], []⟩ >>= _) _ _ s
    refine wpAny_bind ?_
    unfold Builtin.Dict.dictSlotArgs
    refine wpAny_bind (wpAny_notOrdered_dict dO.typeIs ?_)
    show wpAny _ _ (pure (Value.ref _, Value.str z tk)) _ _ s
    refine wpAny_pure ?_
    refine wpAny_bind (wpAny_isInstance (T := "str") (typeIs_str s z tk) F.sub_str_dict ?_)
    show wpAny _ _ (rule _ >>= fun _ => ret Value.notImplemented) _ _ s
    refine wpAny_bind (wpAny_rule ?_)
    refine wpAny_pure ⟨_, rfl, ?_⟩
    exact hq
theorem fv_eqDS {x : PyData} {z : Str} : FV2 rEqDS (.d x) (.d (.str z)) (.d (.bool (isS x z))) := fv2_s (dB (isS x z)) fun W H v w Q S o o' q => by
  obtain rfl := str_v o'
  exact ⟨x, z, Dn.mono S o, rfl, q⟩
end OW
set_option Elab.async false
set_option linter.unusedVariables false
set_option linter.unusedSectionVars false
set_option maxRecDepth 100000
set_option maxHeartbeats 4000000
namespace OW
open PySem PySem.Spec PyProof.Rows L2 KA
variable [Tbs]
/-! ### a tuple so many times, also none or once -/
theorem tuple_mul1 (l : Addr) (items : Array Value) (n : Nat) (dd : Option Addr) (sl : Array (Option Value)) (u : Tok) :
    Meets (Builtin.«tuple.__mul__» ⟨[.ref l, .int 1 u], []⟩) (fun _ R s => s.heap.get? l = some { cls := .type "tuple", dict := dd, data := .seq items n, slots := sl } ∧ R (.ok (.ret (.ref l))) s) :=
  .of_wp fun prog w A R s h => by
    obtain ⟨hp, g, d, tk, os⟩ := s
    obtain ⟨hl, h⟩ := h
    have f1 := AutoSeq1.idx_int
    have c1 : (items.isEmpty || (1 : Int) == 1) = true := by rw [show ((1 : Int) == 1) = true from rfl, Bool.or_true]
    wp_walk using wpAny_loadPart' hl
    repeat (first
      | (refine wpAny_ite_false (decide_eq_false (by decide)) ?_; wp_walk using wpAny_loadPart' hl)
      | (refine wpAny_ite_true (decide_eq_true c1) ?_; wp_walk using wpAny_loadPart' hl))
    exact ⟨_, rfl, h⟩
theorem tuple_mul0 (l : Addr) (items : Array Value) (n : Nat) (dd : Option Addr) (sl : Array (Option Value)) (u : Tok) (hi : items.isEmpty = false) :
    Meets (Builtin.«tuple.__mul__» ⟨[.ref l, .int 0 u], []⟩) (fun _ R s => s.heap.get? l = some { cls := .type "tuple", dict := dd, data := .seq items n, slots := sl } ∧
      R (.ok (.ret (Value.ref s.heap.objs.size))) { s with heap := s.heap.push { cls := Value.type "tuple", data := Data.seq #[] }, toks := s.toks }) :=
  .of_wp fun prog w A R s h => by
    obtain ⟨hp, g, d, tk, os⟩ := s
    obtain ⟨hl, h⟩ := h
    have f1 := AutoSeq1.idx_int
    have c1 : (items.isEmpty || (0 : Int) == 1) = false := by rw [hi]; rfl
    have c2 : (decide ((0 : Int) ≤ 0) || items.isEmpty) = true := rfl
    wp_walk using wpAny_loadPart' hl
    repeat (first
      | (refine wpAny_ite_false (decide_eq_false (by decide)) ?_; wp_walk using wpAny_loadPart' hl)
      | (refine wpAny_ite_false (decide_eq_false (by rw [c1]; exact Bool.false_ne_true)) ?_; wp_walk using wpAny_loadPart' hl)
      | (refine wpAny_ite_true (decide_eq_true c2) ?_; wp_walk using wpAny_loadPart' hl))
    exact ⟨_, rfl, h⟩
def rRepA (K : PySem.W.Frag) : R2 := fun x y H Q => ∃ l k xs, x = .ref l ∧ y = .int k ∧ SqT K H l xs ∧ xs ≠ [] ∧ 0 ≤ k ∧ k ≤ 1000 ∧ xs.length ≤ 1000 ∧ (k = 1 → Q (.ref l) H) ∧ (k ≠ 1 → ∀ p, H p = none → Q (.ref p) (upd H p (.tup (List.replicate k.toNat xs).flatten)))
section
variable {X : Cx}
theorem op_repA : OpR X (binaryOp .Mult) (rRepA X.K) := by
  intro pins s σ H x y v u Q I rx ry h
  obtain ⟨l, k, xs, rfl, rfl, hT, hne, h1, h2, hz, q1, q2⟩ := h
  by_cases k2 : 2 ≤ k
  · exact op_repT pins s σ H _ _ v u Q I rx ry ⟨l, k, xs, rfl, rfl, hT, hne, k2, h2, hz, q2 (by omega)⟩
  cases rx
  obtain ⟨t, rfl⟩ := ry
  obtain ⟨its, r, ⟨⟨cls, dd, data, sl⟩, ho, hc, n, hd⟩, hs⟩ := I.tuple hT
  simp only at hc hd
  subst hc hd
  have hle : its.length = xs.length := r.length.symm
  have hn : its ≠ [] := fun e => hne (by
    rw [e] at hle
    exact List.eq_nil_of_length_eq_zero hle.symm)
  have hi : its.toArray.isEmpty = false := by
    cases its with
    | nil => exact absurd rfl hn
    | cons a b => rfl
  by_cases k1 : k = 1
  · subst k1
    refine wpAny_binaryOp_repeat_ref (T := "tuple") (U := "int") (by decide) ⟨_, ho, rfl⟩ (fun s' => typeIs_int s' 1 t) noFill_tuple_mul F.fills_int_mul F.slot_int_rmul repeat_tuple F.slot_int_index.lookup
      (call_meets F.slot_int_rmul (typeIs_int s 1 t) F.entry_int_rmul (F.args_int_rmul_2 _ _) (int_rmul_tuple 1 t l its.toArray n dd sl)
        ⟨ho, rfl, ⟨_, ho, rfl⟩, call_meets F.slot_tuple_mul ⟨_, ho, rfl⟩ F.entry_tuple_mul (F.args_tuple_mul_2 _ _) (tuple_mul1 l its.toArray n dd sl t) ⟨ho, ?_⟩⟩)
    exact ⟨.ref l, H, I, rfl, q1 rfl⟩
  · obtain rfl : k = 0 := by omega
    refine wpAny_binaryOp_repeat_ref (T := "tuple") (U := "int") (by decide) ⟨_, ho, rfl⟩ (fun s' => typeIs_int s' 0 t) noFill_tuple_mul F.fills_int_mul F.slot_int_rmul repeat_tuple F.slot_int_index.lookup
      (call_meets F.slot_int_rmul (typeIs_int s 0 t) F.entry_int_rmul (F.args_int_rmul_2 _ _) (int_rmul_tuple 0 t l its.toArray n dd sl)
        ⟨ho, rfl, ⟨_, ho, rfl⟩, call_meets F.slot_tuple_mul ⟨_, ho, rfl⟩ F.entry_tuple_mul (F.args_tuple_mul_2 _ _) (tuple_mul0 l its.toArray n dd sl t hi) ⟨ho, ?_⟩⟩)
    refine ⟨.ref s.heap.objs.size, _, I.laid (t' := s.toks) (o := .tup (List.replicate (0 : Int).toNat xs).flatten) (fun b ob q => Heap.get?_push_of_some _ q) (Nat.le_refl _) ?_, rfl, q2 (by decide) _ (I.hok.fresh (Nat.le_refl _))⟩
    exact ⟨by show 0 ≤ sizeLine; exact Nat.zero_le _, _, .nil, IsTup.new _ _⟩
end
section
variable {KF : PySem.W.Frag} {xs : List PyData}
theorem fv_repA {n : Int} (h : xs ≠ [] ∧ 0 ≤ n ∧ n ≤ 1000 ∧ xs.length ≤ 1000) : FV2 (rRepA KF) (.d (.tuple xs)) (.d (.int n)) (.d (.tuple (List.replicate n.toNat xs).flatten)) := fun W H v w Q S o o' q => by
  obtain rfl := int_v o'
  obtain ⟨a, vs, rfl, e, dx⟩ := tup_v o
  refine ⟨a, n, vs, rfl, rfl, SqT.of (S _ _ e), fun z => ?_, h.2.1, h.2.2.1, by rw [dx.length]; exact h.2.2.2, fun z => ?_, fun z p hp => ?_⟩
  · subst z
    cases dx
    exact h.1 rfl
  · subst z
    refine q _ _ (Same.refl _) fun W' S1 S2 => ?_
    have : (List.replicate (1 : Int).toNat xs).flatten = xs := by
      show xs ++ [] = xs
      rw [List.append_nil]
    rw [this]
    exact Dn.mono S1 o
  · refine q _ _ (Same.new hp) fun W' S' nw => .tup (nw _ _ hp upd_same) (DnAll.mono S' ?_)
    have : ∀ m : Nat, DnAll W (List.replicate m vs).flatten (List.replicate m xs).flatten := fun m => by
      induction m with
      | zero => exact .nil
      | succ m ih => exact dx.append ih
    exact this _
end
end OW
set_option Elab.async false
set_option linter.unusedVariables false
set_option linter.unusedSectionVars false
set_option maxRecDepth 100000
set_option maxHeartbeats 4000000
/-! ### a tuple, numbered -/
namespace OWT
open PySem
open PySem.Sem (wp)
open AutoSeq1 (wpAny_loadPart')
theorem enum_new_tup (t : Addr) (items : Array Value) (n : Nat) (dct : Option Addr) (sl : Array (Option Value)) :
    Meets (Builtin.«enumerate.__new__» ⟨[.type "enumerate", .ref t], []⟩) (fun _ R s => s.heap.get? t = some { cls := .type "tuple", dict := dct, data := .seq items n, slots := sl } ∧
      R (.ok (.ret (.ref (s.heap.push { cls := .type "tuple_iterator", data := .fields #[.ref t, .int 0 0] }).objs.size)))
        { s with heap := (s.heap.push { cls := .type "tuple_iterator", data := .fields #[.ref t, .int 0 0] }).push { cls := .type "enumerate", data := .fields #[.none, .bool false, .ref s.heap.objs.size, rawInt 0, .none, .none] } }) :=
  .of_wp fun prog w A R s h => by
    obtain ⟨hp, g, d, tk, os⟩ := s
    obtain ⟨ht, h⟩ := h
    have sub := sub_enumerate
    have isT : Heap.IsTuple (Shared.heap ⟨hp, g, d, tk, os⟩) t items := ⟨_, ht, rfl, n, rfl⟩
    wp_walk using wpAny_loadPart' ht
    refine wpAny_stack_any fun st => wpAny_pure ?_
    split
    · rename_i c _ _ _ _ _
      cases (c == Value.type "enumerate") <;> (wp_walk using wpAny_loadPart' ht, wpAny_pyIter_tuple isT; exact ⟨_, rfl, h⟩)
    · wp_walk using wpAny_loadPart' ht, wpAny_pyIter_tuple isT
      exact ⟨_, rfl, h⟩
section
variable {prog : Program} {w : World} {A : Around} {E : Value → Shared → Prop} {s : Shared}
theorem call_enum_tup {t : Addr} {items : Array Value} {Q : Value → Shared → Prop} (isT : s.heap.IsTuple t items)
    (h : ∀ h', IsEnum h' (s.heap.objs.size + 1) s.heap.objs.size 0 .none → h'.IsTupleIter s.heap.objs.size t 0 → h'.objs.size = s.heap.objs.size + 2 →
      (∀ b o, s.heap.get? b = some o → h'.get? b = some o) → Q (.ref (s.heap.objs.size + 1)) { s with heap := h' }) :
    wpAny (model prog w) A (call (.type "enumerate") [.ref t]) Q E s := by
  obtain ⟨⟨c, dct, dt, sl⟩, ht, hc, n, hd⟩ := isT
  obtain rfl : c = .type "tuple" := hc
  obtain rfl : dt = .seq items n := hd
  refine callType_new F.called_enumerate (by decide) (F.typeCall_enumerate_1 _) (F.newCall_enumerate_1 _) (fun obj => F.args_object_init_2 obj _) F.entry_enumerate_new (enum_new_tup t items n dct sl) ⟨ht, ?_⟩
  have hz : (s.heap.push { cls := .type "tuple_iterator", data := .fields #[.ref t, .int 0 0] }).objs.size = s.heap.objs.size + 1 := Heap.size_push ..
  show _ ∧ _
  rw [hz]
  have he : IsEnum ((s.heap.push { cls := .type "tuple_iterator", data := .fields #[.ref t, .int 0 0] }).push { cls := .type "enumerate", data := .fields #[.none, .bool false, .ref s.heap.objs.size, rawInt 0, .none, .none] }) (s.heap.objs.size + 1) s.heap.objs.size 0 .none := by
    have q := Heap.get?_push_size (s.heap.push { cls := .type "tuple_iterator", data := .fields #[.ref t, .int 0 0] }) (o := { cls := .type "enumerate", data := .fields #[.none, .bool false, .ref s.heap.objs.size, rawInt 0, .none, .none] }) rfl
    rw [hz] at q
    exact q
  exact ⟨⟨_, he, rfl⟩, h _ he ⟨_, Heap.get?_push_of_some _ (Heap.get?_push_size _ rfl), rfl, rfl⟩ (by rw [Heap.size_push, hz]) fun b o x => Heap.get?_push_of_some _ (Heap.get?_push_of_some _ x)⟩
theorem enum_tup_end {e it t : Addr} {i : Nat} {items : Array Value} {old : Value} {Q : Option Value → Shared → Prop} (hh : A.handled = none) (he : IsEnum s.heap e it i old) (hit : s.heap.IsTupleIter it t i) (isT : s.heap.IsTuple t items) (hx : items[i]? = none)
    (hQ : ∀ h', Heap.ExtBut it s.heap h' → Q none { s with heap := h' }) : wpAny (model prog w) A (pyNext (.ref e)) Q E s := by
  have isE : s.TypeIs (.ref e) "enumerate" := ⟨_, he, rfl⟩
  unfold pyNext
  refine wpAny_bind (wpAny_attempt (wpAny_callSpecial?_slot (name := Str.ofString "__next__") isE F.slot_enumerate_next (wpAny_call_entry F.slot_enumerate_next isE F.entry_enumerate_next ?_ (F.args_enumerate_next_1 _))))
  show wpAny _ _ (field (.ref e) 2 >>= _) _ _ s
  refine wpAny_bind (wpAny_field he rfl (x := .ref it) rfl (wpAny_bind (RZ.nextOf_tuple_end hh hit isT hx fun h' x he' hx' => ?_)))
  obtain ⟨o, ho, hc⟩ := hx'
  exact wpAny_bind (wpAny_isInstance (T := "StopIteration") (b := true) ⟨o, ho, hc⟩ isSubtype_stop (wpAny_pure (hQ _ he')))
end
end OWT
namespace OW
open PySem PySem.Spec PyProof.Rows L2 KA
variable [Tbs]
/-- the tuple at a, each item in a new pair -/
def Nut (K : PySem.W.Frag) (a : Addr) : It :=
  ⟨fun i H => ∃ (xs : List V) (x : V), SqT K H a xs ∧ xs[i]? = some x, fun i H v H' => ∃ T x, v = .ref T ∧ H T = none ∧ H' = upd H T (.tup [.int (i : Nat), x]) ∧ ∀ xs, SqT K H a xs → xs[i]? = some x, fun i H => ∃ xs : List V, SqT K H a xs ∧ xs.length ≤ i⟩
theorem turn_nut {P : Program} {w : World} {K : PySem.W.Frag} {elts : List Expr} {kk : Nat} {tpos : Pos} (a e it : Addr) :
    L2.Turn P w K (PySem.Expr.Tuple elts kk tpos) (Nut K a) [e, it] e (fun i h => (∃ old, IsEnum h e it ((i : Nat) : Int) old) ∧ h.IsTupleIter it a i ∧ e ≠ it) where
  mem := List.mem_cons_self
  obj := fun i h st b hb => by
    obtain ⟨⟨old, he⟩, ⟨o, ho, hc, hd⟩, _⟩ := st
    rcases List.mem_cons.mp hb with z | hb
    · exact z ▸ ⟨_, he, fun v q => nomatch q⟩
    · rw [List.mem_singleton.mp hb]
      exact ⟨o, ho, fun v q => by rw [hd] at q; cases q⟩
  keep := fun i h h' st k => ⟨st.1.imp fun old he => k e List.mem_cons_self _ he, st.2.1.at fun o q => k it (List.mem_cons_of_mem _ List.mem_cons_self) o q, st.2.2⟩
  item := by
    intro X hP hw hK hc i pins s σ H E I hf st hg
    subst hP hw hK
    obtain ⟨⟨old, he⟩, hit, hne⟩ := st
    obtain ⟨xs, x, hq, hx⟩ := hg
    obtain ⟨its, rv, p, hz⟩ := I.tuple hq
    obtain ⟨u, hu, ru⟩ := rv.get hx
    have pT : s.heap.IsTuple a its.toArray := p
    have hel : e < s.heap.objs.size := Heap.lt_size he
    have hil : it < s.heap.objs.size := Heap.lt_size hit.choose_spec.1
    have hea : e ≠ a := fun q => by
      obtain ⟨o, ho, hcl, _⟩ := pT
      rw [← q, he] at ho
      obtain rfl := Option.some.inj ho
      exact absurd (Value.type.inj hcl) (by decide)
    have hia : a ≠ it := fun q => by
      obtain ⟨o, ho, hcl, _⟩ := pT
      obtain ⟨o2, ho2, hcl2, _⟩ := hit
      rw [q, ho2] at ho
      obtain rfl := Option.some.inj ho
      exact absurd (Value.type.inj (hcl2.symm.trans hcl)) (by decide)
    have li : i < its.toArray.size := by rw [List.size_toArray]; exact (List.getElem?_eq_some_iff.mp hu).1
    refine wpAny_pyNext_enum_itemD (Draws.tuple (A := X.A.in1) (I.ok.hd hc) it a hia its.toArray) he ⟨hit, pT⟩ li hne (fun q => by
      rcases List.mem_cons.mp q with q | q
      · exact hne q
      · exact hea (List.mem_singleton.mp q)) fun x2 h' tk hx2 ho hit' hT hsz hk => ?_
    have ex2 : x2 = u := by
      have h2 : its.toArray[i]? = some x2 := hx2
      rw [List.getElem?_toArray, hu] at h2
      exact (Option.some.inj h2).symm
    subst ex2
    refine ⟨_, rfl, wpAny_letOwnedTupleGo_enum (s := { s with heap := h', toks := tk + 1 }) ho fun h'' he' sb => ?_⟩
    have hT2 : h''.get? s.heap.objs.size = some { cls := .type "tuple", data := .seq #[.int i tk, x2] } := (sb.2 _ (Nat.ne_of_gt hel)).trans hT
    have new : ObjOk X.prog X.w (upd H s.heap.objs.size (.tup [.int (i : Nat), x])) h'' s.heap.objs.size (.tup [.int (i : Nat), x]) :=
      ⟨by show 2 ≤ sizeLine; decide, [.int i tk, x2], .cons ⟨_, rfl⟩ (.cons ru .nil), ⟨_, hT2, rfl, _, rfl⟩⟩
    have keepE : ∀ b, b ∉ [e, it] → b ≠ e ∧ b ≠ it := fun b hb => ⟨fun z => hb (by simp [z]), fun z => hb (by simp [z])⟩
    have I1 : Inv X pins σ (upd H s.heap.objs.size (.tup [.int (i : Nat), x])) { s with heap := h'', toks := tk + 1 } :=
      I.turnedNew (ch := [e, it]) (fun b ob hb q => (sb.2 b (keepE b hb).1).trans (hk b ob (keepE b hb).1 (keepE b hb).2 q)) hf (Nat.le_refl _) new
    refine ⟨.ref s.heap.objs.size, _, I1, rfl, ⟨_, x, rfl, I.hok.fresh (Nat.le_refl _), rfl, fun ys hy => by rw [I.tuple_inj hy hq]; exact hx⟩, ⟨⟨x2, ?_⟩, hit'.1.at fun o q => (sb.2 it (Ne.symm hne)).trans q, hne⟩, fun b hb => ?_⟩
    · rw [show ((i + 1 : Nat) : Int) = (i : Int) + 1 by omega]
      exact he'
    · have hb' : b < s.heap.objs.size := by
        rcases List.mem_cons.mp hb with z | hb
        · exact z ▸ hel
        · rw [List.mem_singleton.mp hb]
          exact hil
      rw [upd_ne (Nat.ne_of_lt hb')]
      exact (hf b hb).1
  done := by
    intro X hP hw hK hc i pins s σ H E I hf st hg
    subst hP hw hK
    obtain ⟨⟨old, he⟩, hit, hne⟩ := st
    obtain ⟨xs, hq, hx⟩ := hg
    obtain ⟨its, rv, p, hz⟩ := I.tuple hq
    have pT : s.heap.IsTuple a its.toArray := p
    obtain ⟨f0, f1, f2, f3, f4, f5⟩ := hf it (by simp)
    have hl := rv.length
    exact OWT.enum_tup_end (I.ok.hd hc) he hit pT (by rw [List.getElem?_toArray]; exact List.getElem?_eq_none (by omega)) fun h' eb => ⟨rfl, I.turned (t' := s.toks) (fun b o hb q => eb b o hb q) f0 f1 f3 f4 f5⟩
  self := fun A i s Q E st h => st.1.elim fun _ he => wpAny_pyIter_enum he h
def iNut (K : PySem.W.Frag) (ta : TA) : TI := fun σ H R => ta σ H fun vs H1 => ∃ a xs, vs = [.ref a] ∧ SqT K H1 a xs ∧ R (Nut K a) H1
theorem pi_nut {X : Cx} {e : Expr} {ta : TA} {p pos tpos : Pos} {elts : List Expr} {kk : Nat} (hg : Gl X "enumerate") (hm : X.mg "enumerate" = none) (ha : PA X [e] ta) (hs : starEach [e] X.env = [(false, eval e X.env)] := by rfl) :
    PI X (.Tuple elts kk tpos) (.Call (.Name "enumerate" p) [e] [] pos) (iNut X.K ta) := by
  refine ⟨fun pins s σ H R I h => Call_ (ld_blt I hg hm boot_enumerate (PyProof.Rows.callWith_type1 (thn (ha.run pos pins s σ H _ I h) fun us s1 ⟨vs, H1, I1, r1, q1⟩ => ?_) hs rfl))⟩
  obtain ⟨a, xs, rfl, hq, q⟩ := q1
  cases r1 with
  | cons r rr =>
    cases rr
    cases r
    obtain ⟨its, rv, pt, hz⟩ := I1.tuple hq
    refine OWT.call_enum_tup (show s1.heap.IsTuple a its.toArray from pt) fun h' he hit hsz hk => wpAny_pyIter_enum he ?_
    have I2 : Inv X pins σ H1 { s1 with heap := h' } := I1.kept (t' := s1.toks) hk
    refine ⟨s1.heap.objs.size + 1, [s1.heap.objs.size + 1, s1.heap.objs.size], _, _, H1, rfl, I2, turn_nut a (s1.heap.objs.size + 1) s1.heap.objs.size, ⟨⟨.none, he⟩, hit, Nat.succ_ne_self _⟩, fun b hb => ?_, q⟩
    have hle : s1.heap.objs.size ≤ b := by
      rcases List.mem_cons.mp hb with z | hb
      · rw [z]
        exact Nat.le_succ _
      · rw [List.mem_singleton.mp hb]
        exact Nat.le_refl _
    exact I1.fpOk hle (I1.hok.fresh hle)
section
variable {ρ ρ1 : List Sl} {tr : TA} {xs : List PyData} {KF : PySem.W.Frag}
theorem fi_enumT (h : Eds tr ρ [.tuple xs] ρ1) : Fi (iNut KF tr) ρ (enumD 0 xs) ρ1 := fun c A σ H R R0 f k => h c A σ H _ R0 f fun vs A1 H1 R1 f1 S1 o1 => by
  obtain ⟨v, rfl, o⟩ := dn_one o1
  obtain ⟨a, vs, rfl, e, dx⟩ := tup_v o
  refine ⟨a, vs, rfl, SqT.of (vw_sub _ _ e), k _ _ _ R1 f1 S1 ⟨fun i x H2 ex S => ?_, fun H2 S => ?_⟩⟩
  · have lt : i < vs.length := by rw [dx.length, ← enumD_len 0 xs]; exact (List.getElem?_eq_some_iff.mp ex).1
    refine ⟨⟨vs, vs[i], SqT.of (S _ _ e), List.getElem?_eq_getElem lt⟩, fun v H3 ⟨T, y, q1, q2, q3, q4⟩ => ?_⟩
    subst q1 q3
    refine ⟨Same.new q2, fun W' S' nw => ?_⟩
    obtain ⟨x', e', dn⟩ := dn_at dx (q4 vs (SqT.of (S _ _ e)))
    obtain ⟨x2, e2, rfl⟩ := enumD_at ex
    obtain rfl : x2 = x' := Option.some.inj (e2.symm.trans e')
    rw [Nat.zero_add]
    exact .tup (nw _ _ q2 upd_same) (.cons (.int _) (.one (Dn.mono S' dn)))
  · exact ⟨vs, SqT.of (S _ _ e), by rw [dx.length, enumD_len]; exact Nat.le_refl _⟩
end
end OW
set_option Elab.async false
set_option linter.unusedVariables false
set_option linter.unusedSectionVars false
set_option maxRecDepth 100000
set_option maxHeartbeats 4000000
/-! ### a tuple and a list, walked together -/
namespace OWZ
open PySem
open PySem.Sem (wp)
def Z1 (h : Heap) (a : Addr) : Heap := h.push { cls := .type "tuple_iterator", data := .fields #[.ref a, .int 0 0] }
def Z2 (h : Heap) (a b : Addr) : Heap := (Z1 h a).push { cls := .type "list_iterator", data := .fields #[.ref b, .int 0 0] }
def Z3 (h : Heap) (a b : Addr) : Heap := (Z2 h a b).push { cls := .type "tuple", data := .seq #[.ref h.objs.size, .ref (Z1 h a).objs.size] }
def Z4 (h : Heap) (a b : Addr) : Heap := (Z3 h a b).push { cls := .type "tuple", data := .seq #[.none, .none] }
def Z5 (h : Heap) (a b : Addr) : Heap := (Z4 h a b).push { cls := .type "zip", data := .fields #[.none, .bool false, .bool false, .ref (Z2 h a b).objs.size, .ref (Z3 h a b).objs.size] }
theorem zip_new_mixed (a b : Addr) (xs ys : Array Value) :
    Meets (Builtin.«zip.__new__» ⟨[.type "zip", .ref a, .ref b], []⟩) (fun _ R s => s.heap.IsTuple a xs ∧ s.heap.IsList b ys ∧ R (.ok (.ret (.ref (Z4 s.heap a b).objs.size))) { s with heap := Z5 s.heap a b }) :=
  .of_wp fun prog w A R s h => by
    obtain ⟨hp, g, d, tk, os⟩ := s
    obtain ⟨ha, hb, h⟩ := h
    have sub := sub_zip
    have ta : Heap.IsTuple (Shared.heap ⟨hp, g, d, tk, os⟩) a xs := ha
    have lb : Heap.IsList (Shared.heap ⟨hp.push { cls := .type "tuple_iterator", data := .fields #[.ref a, .int 0 0] }, g, d, tk, os⟩) b ys := Heap.IsList.push hb _
    wp_walk using wpAny_pyIter_tuple ta, wpAny_pyIter_list lb
    exact ⟨_, rfl, h⟩
section
variable {prog : Program} {w : World} {A : Around} {E : Value → Shared → Prop} {s : Shared}
theorem call_zip_mixed {a b : Addr} {xs ys : Array Value} {Q : Value → Shared → Prop} (ha : s.heap.IsTuple a xs) (hb : s.heap.IsList b ys)
    (h : ∀ h', IsZip h' (s.heap.objs.size + 4) (s.heap.objs.size + 2) (s.heap.objs.size + 3) .none → IsTupOf2 h' (s.heap.objs.size + 2) (.ref s.heap.objs.size) (.ref (s.heap.objs.size + 1)) → IsTupOf2 h' (s.heap.objs.size + 3) .none .none →
      h'.IsTupleIter s.heap.objs.size a 0 → h'.IsListIter (s.heap.objs.size + 1) b 0 → (∀ c o, s.heap.get? c = some o → h'.get? c = some o) → Q (.ref (s.heap.objs.size + 4)) { s with heap := h' }) :
    wpAny (model prog w) A (call (.type "zip") [.ref a, .ref b]) Q E s := by
  refine callType_new F.called_zip (by decide) (F.typeCall_zip_2 _ _) (F.newCall_zip_2 _ _) (fun obj => F.args_object_init_3 obj _ _) F.entry_zip_new (zip_new_mixed a b xs ys) ⟨ha, hb, ?_⟩
  have n1 : (Z1 s.heap a).objs.size = s.heap.objs.size + 1 := Heap.size_push ..
  have n2 : (Z2 s.heap a b).objs.size = s.heap.objs.size + 2 := (Heap.size_push ..).trans (by rw [n1])
  have n3 : (Z3 s.heap a b).objs.size = s.heap.objs.size + 3 := (Heap.size_push ..).trans (by rw [n2])
  have n4 : (Z4 s.heap a b).objs.size = s.heap.objs.size + 4 := (Heap.size_push ..).trans (by rw [n3])
  have g5 : (Z5 s.heap a b).get? (Z4 s.heap a b).objs.size = some { cls := .type "zip", data := .fields #[.none, .bool false, .bool false, .ref (Z2 s.heap a b).objs.size, .ref (Z3 s.heap a b).objs.size] } := Heap.get?_push_size _ rfl
  have g4 : (Z5 s.heap a b).get? (Z3 s.heap a b).objs.size = some { cls := .type "tuple", data := .seq #[.none, .none] } := Heap.get?_push_of_some _ (Heap.get?_push_size _ rfl)
  have g3 : (Z5 s.heap a b).get? (Z2 s.heap a b).objs.size = some { cls := .type "tuple", data := .seq #[.ref s.heap.objs.size, .ref (Z1 s.heap a).objs.size] } := Heap.get?_push_of_some _ (Heap.get?_push_of_some _ (Heap.get?_push_size _ rfl))
  have g2 : (Z5 s.heap a b).get? (Z1 s.heap a).objs.size = some { cls := .type "list_iterator", data := .fields #[.ref b, .int 0 0] } := Heap.get?_push_of_some _ (Heap.get?_push_of_some _ (Heap.get?_push_of_some _ (Heap.get?_push_size _ rfl)))
  have g1 : (Z5 s.heap a b).get? s.heap.objs.size = some { cls := .type "tuple_iterator", data := .fields #[.ref a, .int 0 0] } := Heap.get?_push_of_some _ (Heap.get?_push_of_some _ (Heap.get?_push_of_some _ (Heap.get?_push_of_some _ (Heap.get?_push_size _ rfl))))
  rw [n2, n3, n4] at g5
  rw [n3] at g4
  rw [n1, n2] at g3
  rw [n1] at g2
  rw [n4]
  exact ⟨⟨_, g5, rfl⟩, h _ g5 g3 g4 ⟨_, g1, rfl, rfl⟩ ⟨_, g2, rfl, rfl⟩ fun c o x => Heap.get?_push_of_some _ (Heap.get?_push_of_some _ (Heap.get?_push_of_some _ (Heap.get?_push_of_some _ (Heap.get?_push_of_some _ x))))⟩
end
end OWZ
namespace OW
open PySem PySem.Spec PyProof.Rows L2 KA
variable [Tbs]
/-- the tuple at a and the list at b, the items in new pairs -/
def Pam (K : PySem.W.Frag) (a b : Addr) : It :=
  ⟨fun i H => ∃ (xs ys : List V) (x y : V), SqT K H a xs ∧ SqL K H b ys ∧ xs[i]? = some x ∧ ys[i]? = some y,
    fun i H v H' => ∃ T x y, v = .ref T ∧ H T = none ∧ H' = upd H T (.tup [x, y]) ∧ (∀ xs, SqT K H a xs → xs[i]? = some x) ∧ ∀ ys, SqL K H b ys → ys[i]? = some y,
    fun i H => ∃ xs ys : List V, SqT K H a xs ∧ SqL K H b ys ∧ i = min xs.length ys.length⟩
theorem turn_pam {P : Program} {w : World} {K : PySem.W.Frag} {elts : List PySem.Expr} {kk : Nat} {tpos : Pos} {a b z TI TO i1 i2 : Addr} (S : ZipSep2 z TI TO i1 i2 [i1, a] [i2, b]) (ha : a ≠ i1) (hb : b ≠ i2) :
    L2.Turn P w K (.Tuple elts kk tpos) (Pam K a b) [z, TI, TO, i1, i2] z (fun i h => IsZip h z TI TO .none ∧ IsTupOf2 h TI (.ref i1) (.ref i2) ∧ (∃ x y, IsTupOf2 h TO x y) ∧ h.IsTupleIter i1 a i ∧ h.IsListIter i2 b i) where
  mem := List.mem_cons_self
  obj := fun i h st c hc => by
    obtain ⟨hz, hTI, ⟨x, y, hTO⟩, ⟨o1, e1, _, d1⟩, ⟨o2, e2, _, d2⟩⟩ := st
    simp only [List.mem_cons, List.not_mem_nil, or_false] at hc
    rcases hc with rfl | rfl | rfl | rfl | rfl
    · exact ⟨_, hz, fun v q => nomatch q⟩
    · exact ⟨_, hTI, fun v q => nomatch q⟩
    · exact ⟨_, hTO, fun v q => nomatch q⟩
    · exact ⟨o1, e1, fun v q => by rw [d1] at q; cases q⟩
    · exact ⟨o2, e2, fun v q => by rw [d2] at q; cases q⟩
  keep := fun i h h' st k => ⟨k z (by simp) _ st.1, k TI (by simp) _ st.2.1, st.2.2.1.imp fun x y => y.imp fun _ e => k TO (by simp) _ e, st.2.2.2.1.at fun o q => k i1 (by simp) o q, st.2.2.2.2.at fun o q => k i2 (by simp) o q⟩
  item := by
    intro X hP hw hK hc i pins s σ H E I hf st hg
    subst hP hw hK
    obtain ⟨hz, hTI, ⟨x0, y0, hTO⟩, h1, h2⟩ := st
    obtain ⟨xs, ys, x, y, hqx, hqy, hx, hy⟩ := hg
    obtain ⟨its, rv, p, _⟩ := I.tuple hqx
    obtain ⟨its2, rv2, p2, _⟩ := I.list hqy
    obtain ⟨u, hu, ru⟩ := rv.get hx
    obtain ⟨u2, hu2, ru2⟩ := rv2.get hy
    have zl : z < s.heap.objs.size := Heap.lt_size hz
    have hh := I.ok.hd hc
    refine wpAny_pyNext_zipD2_item S (Draws.tuple (A := X.A.in1) hh i1 a ha its.toArray) (Draws.list (A := X.A.in1) hh i2 b hb its2.toArray) hz hTI hTO ⟨h1, p⟩ ⟨h2, p2.isList⟩ (by rw [List.size_toArray]; exact (List.getElem?_eq_some_iff.mp hu).1) (by rw [List.size_toArray]; exact (List.getElem?_eq_some_iff.mp hu2).1) fun w1 w2 h' tk q1 q2 z' TO' s1 s2 hT hsz hk => ?_
    have e1 : w1 = u := by
      have q1 : its.toArray[i]? = some w1 := q1
      rw [List.getElem?_toArray, hu] at q1
      exact (Option.some.inj q1).symm
    have e2 : w2 = u2 := by
      have q2 : its2.toArray[i]? = some w2 := q2
      rw [List.getElem?_toArray, hu2] at q2
      exact (Option.some.inj q2).symm
    subst e1 e2
    refine ⟨_, rfl, wpAny_letOwnedTupleGo_zip (s := { s with heap := h', toks := tk }) z' fun h'' z'' sb => ?_⟩
    have hT2 : h''.get? s.heap.objs.size = some { cls := .type "tuple", data := .seq #[w1, w2] } := (sb.2 _ (Nat.ne_of_gt zl)).trans hT
    have new : ObjOk X.prog X.w (upd H s.heap.objs.size (.tup [x, y])) h'' s.heap.objs.size (.tup [x, y]) := ⟨by show 2 ≤ sizeLine; decide, [w1, w2], .cons ru (.cons ru2 .nil), ⟨_, hT2, rfl, _, rfl⟩⟩
    have out : ∀ c, c ∉ [z, TI, TO, i1, i2] → c ≠ z ∧ c ≠ TO ∧ c ≠ i1 ∧ c ≠ i2 := fun c hc => ⟨fun q => hc (by simp [q]), fun q => hc (by simp [q]), fun q => hc (by simp [q]), fun q => hc (by simp [q])⟩
    have I1 : Inv X pins σ (upd H s.heap.objs.size (.tup [x, y])) { s with heap := h'', toks := tk } :=
      I.turnedNew (ch := [z, TI, TO, i1, i2]) (fun c o hb q => (sb.2 c (out c hb).1).trans (hk c o (out c hb).1 (out c hb).2.1 (out c hb).2.2.1 (out c hb).2.2.2 q)) hf (Nat.le_refl _) new
    have i1z : i1 ≠ z := fun q => S.zf1 (by rw [← q]; exact List.mem_cons_self)
    have i2z : i2 ≠ z := fun q => S.zf2 (by rw [← q]; exact List.mem_cons_self)
    refine ⟨.ref s.heap.objs.size, _, I1, rfl, ⟨_, x, y, rfl, I.hok.fresh (Nat.le_refl _), rfl, fun l hl => by rw [I.tuple_inj hl hqx]; exact hx, fun l hl => by rw [I.list_inj hl hqy]; exact hy⟩, ⟨z'', ?_, ⟨w1, w2, ?_⟩, ?_, ?_⟩, fun c hcm => ?_⟩
    · exact (sb.2 _ S.TIz).trans (hk _ _ S.TIz S.TITO S.TIi1 S.TIi2 hTI)
    · exact (sb.2 _ S.TOz).trans TO'
    · exact s1.1.at fun o q => (sb.2 _ i1z).trans q
    · exact s2.1.at fun o q => (sb.2 _ i2z).trans q
    · have hlt : c < s.heap.objs.size := by
        simp only [List.mem_cons, List.not_mem_nil, or_false] at hcm
        rcases hcm with rfl | rfl | rfl | rfl | rfl
        · exact zl
        · exact Heap.lt_size hTI
        · exact Heap.lt_size hTO
        · exact Heap.lt_size h1.choose_spec.1
        · exact Heap.lt_size h2.choose_spec.1
      rw [upd_ne (Nat.ne_of_lt hlt)]
      exact (hf c hcm).1
  done := by
    intro X hP hw hK hc i pins s σ H E I hf st hg
    subst hP hw hK
    obtain ⟨hz, hTI, ⟨x0, y0, hTO⟩, h1, h2⟩ := st
    obtain ⟨xs, ys, hqx, hqy, hend⟩ := hg
    obtain ⟨its, rv, p, _⟩ := I.tuple hqx
    obtain ⟨its2, rv2, p2, _⟩ := I.list hqy
    have l1 := rv.length
    have l2 := rv2.length
    have hh := I.ok.hd hc
    refine wpAny_pyNext_zipD2_end S (Draws.tuple (A := X.A.in1) hh i1 a ha its.toArray) (Draws.list (A := X.A.in1) hh i2 b hb its2.toArray) hz hTI hTO ⟨h1, p⟩ ⟨h2, p2.isList⟩ (by rw [List.size_toArray]; omega) (by rw [List.size_toArray]; omega) (by rw [List.size_toArray, List.size_toArray]; omega) fun h' tk hk => ⟨rfl, ?_⟩
    exact I.turnedL (t' := tk) (ch := [z, TI, TO, i1, i2]) (fun c o hb q => hk c o (fun q' => hb (by simp [q'])) (fun q' => hb (by simp [q'])) (fun q' => hb (by simp [q'])) (fun q' => hb (by simp [q'])) q) hf
  self := fun A i s Q E st h => wpAny_pyIter_zip st.1 h
theorem sep_at (n a b : Nat) (la : a < n) (lb : b < n) : ZipSep2 (n + 4) (n + 2) (n + 3) n (n + 1) [n, a] [n + 1, b] := by
  have no : ∀ {x y z : Nat}, y < x → z < x → x ∉ [y, z] := fun {x y z} h1 h2 h => by
    rcases List.mem_cons.mp h with h | h
    · exact absurd h (Nat.ne_of_gt h1)
    · exact absurd (List.mem_singleton.mp h) (Nat.ne_of_gt h2)
  refine ⟨Nat.ne_of_lt (by omega), Nat.ne_of_lt (by omega), Nat.ne_of_lt (by omega), Nat.ne_of_gt (by omega), List.mem_cons_self, no (by omega) (by omega), no (by omega) (by omega), Nat.ne_of_gt (by omega), List.mem_cons_self, no (by omega) (by omega), no (by omega) (by omega), fun h => ?_, no (by omega) (by omega)⟩
  rcases List.mem_cons.mp h with h | h
  · exact absurd h (Nat.ne_of_lt (by omega))
  · exact absurd (List.mem_singleton.mp h) (Nat.ne_of_gt (by omega))
def iPam (K : PySem.W.Frag) (ta : TA) : TI := fun σ H R => ta σ H fun vs H1 => ∃ a b xs ys, vs = [.ref a, .ref b] ∧ SqT K H1 a xs ∧ SqL K H1 b ys ∧ R (Pam K a b) H1
theorem pi_pam {X : Cx} {e e2 : PySem.Expr} {ta : TA} {p pos tpos : Pos} {elts : List PySem.Expr} {kk : Nat} (hg : Gl X "zip") (hm : X.mg "zip" = none) (ha : PA X [e, e2] ta)
    (hs : starEach [e, e2] X.env = (false, eval e X.env) :: starEach [e2] X.env := by rfl) (hpl : (backTo pos (starEach [e2] X.env)).any (·.1) = false := by rfl) :
    PI X (.Tuple elts kk tpos) (.Call (.Name "zip" p) [e, e2] [] pos) (iPam X.K ta) := by
  refine ⟨fun pins s σ H R I h => ?_⟩
  refine Call_ (ld_blt I hg hm PyProof.Rows.boot_zip (PyProof.Rows.callWith_type1 (thn (ha.run pos pins s σ H _ I h) fun us s1 ⟨vs, H1, I1, r1, q1⟩ => ?_) hs hpl))
  obtain ⟨a, b, xs, ys, rfl, hqx, hqy, q⟩ := q1
  cases r1 with
  | cons r rr =>
    cases rr with
    | cons r' rr =>
      cases rr
      cases r
      cases r'
      obtain ⟨its, rv, p1, _⟩ := I1.tuple hqx
      obtain ⟨its2, rv2, p2, _⟩ := I1.list hqy
      have la : a < s1.heap.objs.size := Heap.lt_size (show s1.heap.IsTuple a its.toArray from p1).choose_spec.1
      have lb : b < s1.heap.objs.size := p2.lt
      refine OWZ.call_zip_mixed (show s1.heap.IsTuple a its.toArray from p1) p2.isList fun h' hz hTI hTO h1 h2 hk => wpAny_pyIter_zip hz ?_
      have I2 : Inv X pins σ H1 { s1 with heap := h' } := I1.kept (t' := s1.toks) hk
      have S := sep_at s1.heap.objs.size a b la lb
      refine ⟨s1.heap.objs.size + 4, [s1.heap.objs.size + 4, s1.heap.objs.size + 2, s1.heap.objs.size + 3, s1.heap.objs.size, s1.heap.objs.size + 1], _, _, H1, rfl, I2, turn_pam S (Nat.ne_of_lt la) (Nat.ne_of_lt (Nat.lt_succ_of_lt lb)), ⟨hz, hTI, ⟨_, _, hTO⟩, h1, h2⟩, fun c hcm => ?_, q⟩
      have hle : s1.heap.objs.size ≤ c := by
        simp only [List.mem_cons, List.not_mem_nil, or_false] at hcm
        rcases hcm with z | z | z | z | z <;> rw [z] <;> first | exact Nat.le_add_right _ _ | exact Nat.le_refl _
      exact I1.fpOk hle (I1.hok.fresh hle)
section
variable {ρ ρ1 : List Sl} {tr : TA} {xs ys : List PyData} {KF : PySem.W.Frag}
theorem fi_pam (h : Eds tr ρ [.tuple xs, .list ys] ρ1) : Fi (iPam KF tr) ρ (zipD xs ys) ρ1 := fun c A σ H R R0 f k => h c A σ H _ R0 f fun vs A1 H1 R1 f1 S1 o1 => by
  obtain ⟨v, u, rfl, o, o'⟩ := dn_two o1
  obtain ⟨a, vs, rfl, e, dx⟩ := tup_v o
  obtain ⟨b, us, rfl, e', dy⟩ := lst_v o'
  refine ⟨a, b, vs, us, rfl, SqT.of (vw_sub _ _ e), SqL.of (vw_sub _ _ e'), k _ _ _ R1 f1 S1 ⟨fun i x H2 ex S => ?_, fun H2 S => ?_⟩⟩
  · obtain ⟨x1, y1, ex1, ey1, rfl⟩ := zipD_at ex
    have lt : i < vs.length := by rw [dx.length]; exact (List.getElem?_eq_some_iff.mp ex1).1
    have lt' : i < us.length := by rw [dy.length]; exact (List.getElem?_eq_some_iff.mp ey1).1
    refine ⟨⟨vs, us, vs[i], us[i], SqT.of (S _ _ e), SqL.of (S _ _ e'), List.getElem?_eq_getElem lt, List.getElem?_eq_getElem lt'⟩, fun v H3 ⟨T, x, y, q1, q2, q3, q4, q5⟩ => ?_⟩
    subst q1 q3
    refine ⟨Same.new q2, fun W' S' nw => ?_⟩
    obtain ⟨x', g1, d1⟩ := dn_at dx (q4 vs (SqT.of (S _ _ e)))
    obtain ⟨y', g2, d2⟩ := dn_at dy (q5 us (SqL.of (S _ _ e')))
    obtain rfl : x1 = x' := Option.some.inj (ex1.symm.trans g1)
    obtain rfl : y1 = y' := Option.some.inj (ey1.symm.trans g2)
    exact .tup (nw _ _ q2 upd_same) (.cons (Dn.mono S' d1) (.one (Dn.mono S' d2)))
  · exact ⟨vs, us, SqT.of (S _ _ e), SqL.of (S _ _ e'), by rw [dx.length, dy.length, zipD_len]⟩
end
end OW
set_option Elab.async false
set_option linter.unusedVariables false
set_option linter.unusedSectionVars false
set_option maxRecDepth 100000
set_option maxHeartbeats 1000000
namespace KA
open PySem PySem.Spec PyProof.Rows L2
open Sem (wp)
/-! ### del xs[-m:] -/
theorem drop_back (p : Nat → Bool) (a : Nat) : ∀ (xs : List Value) (j : Nat), (∀ k, j ≤ k → k < j + xs.length → p k = decide (a ≤ k)) → (xs.zipIdx j).filterMap (fun (x, k) => if p k then none else some x) = xs.take (a - j)
  | [], j, h => by simp
  | x :: xs, j, h => by
    have ih := drop_back p a xs (j + 1) fun k h1 h2 => h k (by omega) (by rw [List.length_cons]; omega)
    rw [List.zipIdx_cons, List.filterMap_cons]
    have hj := h j (Nat.le_refl _) (by rw [List.length_cons]; omega)
    by_cases c : a ≤ j
    · have e : p j = true := by rw [hj]; exact decide_eq_true c
      have e0 : a - j = 0 := by omega
      have e1 : a - (j + 1) = 0 := by omega
      rw [e1, List.take_zero] at ih
      simp only [e, if_true, e0, List.take_zero]
      exact ih
    · have e : p j = false := by rw [hj]; exact decide_eq_false c
      obtain ⟨m, hm⟩ : ∃ m, a - j = m + 1 := ⟨a - j - 1, by omega⟩
      have e1 : a - (j + 1) = m := by omega
      rw [e1] at ih
      simp only [e, Bool.false_eq_true, if_false, hm, List.take_succ_cons]
      rw [ih]
section
variable {prog : Program} {w : World} {A : Around} {E : Value → Shared → Prop} {s : Shared}
set_option maxRecDepth 100000 in
theorem delItem_back {l sl : Addr} {items : Array Value} {n m : Nat} {vl vu : Value} {Q : Unit → Shared → Prop}
    (e : s.heap.get? l = some { cls := .type "list", data := .seq items n })
    (hs : s.heap.IsSliceOf sl vl vu .none) (pl : IsPart vl (some (-(m : Int)))) (pu : IsPart vu none) (m0 : 0 < m) (hm : m ≤ items.size)
    (hsz : items.size ≤ sizeLine) (h : ∀ f : Array Value → Array Value, f items = (items.toList.take (items.size - m)).toArray → Q () { s with heap := s.heap.update l (Obj.mapSeq f) }) :
    wpAny (model prog w) A (delItem (.ref l) (.ref sl)) Q E s := by
  have hl : s.heap.IsList l items := PySem.IsL.isList e
  obtain ⟨os, hos, hcs, hds⟩ := id hs
  have hTs : s.TypeIs (.ref sl) "slice" := ⟨os, hos, hcs⟩
  have hstep : ¬ ((rawPart none == rawInt 0) = true) := Bool.false_ne_true
  refine PySem.wpAny_delItem_slot hl.typeIs (by decide) F.slot_list_delitem ?_
  refine PySem.wpAny_call_entry F.slot_list_delitem hl.typeIs F.entry_list_delitem ?_ (F.args_list_delitem_2 _ _)
  show wpAny _ _ (Builtin.List.listSubscript? (.ref sl) >>= _) _ _ s
  refine wpAny_bind ?_
  unfold Builtin.List.listSubscript?
  refine wpAny_bind (wpAny_specialOf hTs slice_no_index ?_)
  simp only [Option.isNone_none, if_true]
  refine wpAny_pure ?_
  show wpAny _ _ (typeOf (.ref sl) >>= _) _ _ s
  refine wpAny_bind (wpAny_typeOf hTs ?_)
  first
    | rw [if_neg (by decide)]
    | refine PySem.W.KFB.if_not (by decide) ?_
  rw [listSliceParts_eq]
  refine wpAny_bind (wpAny_bind (wpAny_field hos hds (x := .none) rfl (wpAny_bind (wpAny_listPart .none ?_))))
  rw [if_neg hstep]
  refine wpAny_bind (wpAny_field hos hds (x := vl) rfl (wpAny_bind (wpAny_listPart pl ?_)))
  refine wpAny_bind (wpAny_field hos hds (x := vu) rfl (wpAny_bind (wpAny_listPart pu (wpAny_pure ?_))))
  refine wpAny_bind (m := Builtin.List.listItems (.ref l)) ?_
  unfold Builtin.List.listItems
  refine wpAny_bind (wpAny_seqItems e rfl (wpAny_pure ?_))
  have hb : sliceBounds (some (-(m : Int))) none none items.size = (((items.size - m : Nat) : Int), (items.size : Int), 1) := by
    simp only [sliceBounds, Option.getD_none]
    have h1 : (-(m : Int)) < 0 := by omega
    simp only [h1, if_true, show (1 : Int) > 0 by decide]
    congr 1
    omega
  refine wpAny_bind (wpAny_of_eq ((sliceIndices_raw (some (-(m : Int))) none none items.size (by simp)).trans (congrArg (pure : Int × Int × Int → Sem (Int × Int × Int)) hb)) ?_)
  refine wpAny_bind (wpAny_rule ?_)
  show wpAny _ _ (updateSeq l _ >>= _) _ _ s
  refine wpAny_bind (wpAny_updateSeq (hz := hsz) (_hz' := ?hz) e rfl ?_)
  case hz =>
    rw [List.size_toArray]
    refine Nat.le_trans (List.length_filterMap_le _ _) ?_
    rw [List.length_zipIdx, Array.length_toList]
    exact Nat.le_succ_of_le hsz
  refine wpAny_bind (wpAny_letGo ?_)
  refine wpAny_pure ⟨.none, rfl, ?_⟩
  refine h _ ?_
  refine congrArg List.toArray ?_
  refine (drop_back _ (items.size - m) items.toList 0 fun k _ hk => ?_).trans (by rw [Nat.sub_zero])
  show (decide (((items.size - m : Nat) : Int) ≤ (k : Int)) && decide ((k : Int) < (items.size : Int)) && ((((k : Int) - ((items.size - m : Nat) : Int)) % 1) == 0)) = decide (items.size - m ≤ k)
  have e1 : (((k : Int) - ((items.size - m : Nat) : Int)) % 1 == 0) = true := by rw [Int.emod_one]; rfl
  have e2 : decide ((k : Int) < (items.size : Int)) = true := decide_eq_true (by rw [Nat.zero_add, Array.length_toList] at hk; omega)
  rw [e1, e2, Bool.and_true, Bool.and_true]
  by_cases c : items.size - m ≤ k
  · rw [decide_eq_true c, decide_eq_true (by omega)]
  · rw [decide_eq_false c, decide_eq_false (by omega)]

end
section
variable {X : Cx} {o : Expr} {lo' : Option Expr} {to : TE} {tl : TO} {p2 tpos pos : Pos}
theorem del_back {pins : List (Addr × Obj)} {s : Shared} {σ : L2.St} {H : Hp} {l sl : Addr} {xs : List V} {m : Nat} {vl vu : Value} {Q : Unit → Shared → Prop} (I : Inv X pins σ H s) (hH : H l = some (.lst xs)) (hs : s.heap.IsSliceOf sl vl vu .none) (pl : IsPart vl (some (-(m : Int)))) (pu : IsPart vu none)
    (m0 : 0 < m) (hm : m ≤ xs.length) (h : ∀ s', Inv X pins σ (upd H l (.lst (xs.take (xs.length - m)))) s' → Q () s') : wpAny (model X.prog X.w) X.A (delItem (.ref l) (.ref sl)) Q X.xe s := by
  obtain ⟨z, its, n, r, hl, e⟩ := I.lstM hH
  refine delItem_back (m := m) e hs pl pu m0 (by rw [List.size_toArray, ← hl]; exact hm) (by rw [List.size_toArray]; omega) fun f ef => h _ ?_
  refine I.lset (its' := its.take (its.length - m)) (t' := s.toks) hH e ?_ ?_ ?_
  · rw [ef, List.size_toArray]
  · rw [hl]
    exact r.take _
  · rw [List.length_take]
    omega
/-- del xs[lo:], lo behind from the end -/
def tDelBack (to : TE) (tl : TO) : TS := fun D σ H => to σ H fun x H1 => tl σ H1 fun lo H2 => ∃ (l : Addr) (xs : List V) (m : Nat), x = .ref l ∧ lo = some (-(m : Int)) ∧ H2 l = some (.lst xs) ∧ 0 < m ∧ m ≤ xs.length ∧ D.nx σ (upd H2 l (.lst (xs.take (xs.length - m))))
theorem ps_delBack (ho : PE X o to) (hl : PO X lo' tl) : PS X (.Delete [.Subscript o (.Slice lo' none none p2) tpos] pos) (tDelBack to tl) := by
  refine ⟨fun pins s σ H D I h => ?_⟩
  refine wpAny_Delete (wpAny_deleteEach_cons (wpAny_delete_Subscript (thn (ho.run pins s σ H _ I h) fun u s1 ⟨x, H1, I1, rx, q1⟩ => ?_)))
  refine wpAny_Slice (thn (hl.run pins s1 σ H1 _ I1 q1) fun vl s2 ⟨lo, H2, I2, pl, q2⟩ => thn ((po_none (X := X)).run pins s2 σ H2 (fun o H3 => o = none ∧ H3 = H2) I2 ⟨rfl, rfl⟩) fun vu s3 ⟨u', H3, I3, pu, e1, e2⟩ => ?_)
  subst e1
  subst e2
  rw [evalPart_none]
  refine wpAny_pure ?_
  obtain ⟨l, xs, m, rfl, rfl, hH, m0, hm, q3⟩ := q2
  cases (show u = Value.ref l from rx)
  have I4 : Inv X pins σ H3 { s3 with heap := s3.heap.push { cls := .type "slice", data := .fields #[vl, vu, .none] } } := I3.kept (t' := s3.toks) fun b ob q => Heap.get?_push_of_some _ q
  exact del_back I4 hH (Heap.IsSliceOf.new ..) pl pu m0 hm fun s4 I5 => wpAny_deleteEach_nil ⟨σ, _, I5, q3⟩
end
end KA
set_option Elab.async false
set_option linter.unusedVariables false
set_option linter.unusedSectionVars false
set_option maxRecDepth 100000
set_option maxHeartbeats 1000000
namespace OW
open PySem PySem.Spec PyProof.Rows L2 KA
variable [Tbs]
section
variable {ρ ρ1 : List Sl} {xs ys : List PyData} {k : Nat} {K : KK} {tl : TO}
/-- del xs[-m:] of an owned list -/
theorem sm_delBack {m : Nat} (h0 : ρ[k]? = some (.l ys)) (hl : Eo tl ρ (some (-(m : Int))) ρ1) (h1 : ρ1[k]? = some (.l xs)) (m0 : 0 < m) (hm : m ≤ xs.length) (q : K.nx (ρ1.set k (.l (xs.take (xs.length - m))))) : Sm (tDelBack (tVar k) tl) ρ K := fun c A σ H D R f dk => by
  obtain ⟨a, vs0, _, e1, _, _⟩ := R.sl k _ h0
  refine ⟨_, e1, hl c A σ H _ R f fun A1 H1 R1 f1 S1 => ?_⟩
  obtain ⟨b, vs, ea, e3, e4, dx⟩ := R1.sl k _ h1
  rw [e1] at e3
  cases e3
  have ln := dx.length
  refine ⟨a, vs, m, rfl, rfl, e4, m0, by omega, dk.nx _ _ _ _ q (R1.mut h1 ea ?_) f1⟩
  rw [ln]
  have e0 : cutV vs none (some ((xs.length - m : Nat) : Int)) = vs.take (xs.length - m) := by
    unfold cutV
    rw [HT.sIx_none, HT.sIx_nat, List.drop_zero, Nat.sub_zero, Nat.min_eq_left (by omega)]
  have e2 := OW.cutD_to (xs := xs) (n := xs.length - m) (by omega)
  rw [← e0, ← e2]
  exact dn_cut dx
end
end OW
set_option Elab.async false
set_option linter.unusedVariables false
set_option linter.unusedSectionVars false
set_option maxRecDepth 100000
set_option maxHeartbeats 1000000
namespace OW
open PySem PySem.Spec PyProof.Rows L2 KA
variable [Tbs]
/-! ### what is never reached; calls by the arguments' names -/
structure CalK (P : Program) (w : World) (K : PySem.W.Frag) (mg : Str → Option Value) (base : Heap) (k : Nat) (x : Str) (ks : List Str) (gV : List V → List V → List V) (sp : Sp) : Prop where
  ex : ∃ (f : Addr) (fd : FuncData) (ps : List Str) (g : List Value → List Value → List Value), FnOk P w K mg base CX0 k f fd ps sp ∧ mg x = some (.ref f) ∧ PySem.W.keepIn K (.ref f) = true ∧ KBinds K fd ps ks g gV
section
variable {X : Cx} {k j : Nat} {f : Addr} {fd : FuncData} {ps ks : List Str} {sp : Sp} {x : Str} {p pos : Pos} {kws : List Keyword} {tk : TA} {g : List Value → List Value → List Value} {gV : List V → List V → List V}
theorem pe_callK0 (F : FnOk X.prog X.w X.K X.mg X.base CX0 k f fd ps sp) (hr : Room k X.A) (hg : Gl X x) (hm : X.mg x = some (.ref f)) (hk : PySem.W.keepIn X.K (.ref f) = true) (hb : KBinds X.K fd ps ks g gV)
    (hkw : PK X kws tk) (hall : (backToKw pos (keywordEach kws X.env)).all (·.1.isSome) = true := by rfl) (hks : (backToKw pos (keywordEach kws X.env)).filterMap (·.1) = ks := by rfl)
    (hdb : (x == ("__debug__" : Str)) = false := by decide) (hpl : ((backTo pos (starEach [] X.env)).any (·.1) || (backToKw pos (keywordEach kws X.env)).any (·.1.isNone)) = false := by rfl) :
    PE X (.Call (.Name x p) [] kws pos) (tCallK sp gV C8.E0 tNil tk) := by
  refine ⟨fun pins s σ H Q I h => ?_⟩
  have h : tk σ H fun zs H2 => sp (gV [] zs) H2 Q C8.E0 := h
  refine wpAny_Call_Name_kw (ld_glob I hg hm ?_ hdb)
  refine PySem.W.callWith_KW0 (h₀ := X.base) I.ok.mod.kin hk hall (thn (hkw.run pos pins s σ H _ I h) fun ws s2 ⟨zs, H2, I2, rz, q2⟩ => ⟨I2.kIn, ?_⟩) hpl
  rw [hks]
  exact run_fnk (us := []) (vs := []) F hr hb pass0 I2 .nil rz q2
theorem pe_ck (c : CalK X.prog X.w X.K X.mg X.base k x ks gV sp) (hr : Room j X.A) (hk : k ≤ j) (hg : Gl X x)
    (hkw : PK X kws tk) (hall : (backToKw pos (keywordEach kws X.env)).all (·.1.isSome) = true := by rfl) (hks : (backToKw pos (keywordEach kws X.env)).filterMap (·.1) = ks := by rfl)
    (hdb : (x == ("__debug__" : Str)) = false := by decide) (hpl : ((backTo pos (starEach [] X.env)).any (·.1) || (backToKw pos (keywordEach kws X.env)).any (·.1.isNone)) = false := by rfl) :
    PE X (.Call (.Name x p) [] kws pos) (tCallK sp gV C8.E0 tNil tk) := by
  obtain ⟨f, fd, ps, g, F, hm, kp, b⟩ := c.ex
  exact pe_callK0 F (hr.mono hk) hg hm kp b hkw hall hks hdb hpl
theorem kb_of {K : PySem.W.Frag} {qual : Str} {st : Stmt} (F : Fun K x qual st f fd) (h : ∀ (kV doc pm : Value) (an : Option Addr) (cdv ct : Value) (us ws : List Value), (g us ws).length = ps.length → bindArgs (PySem.W.fnOf x qual (defArgs st) (defBody st) (defScope st) .none kV doc pm an cdv ct) ⟨us, ks.zip ws⟩ = pure (ps.zip (g us ws)))
    (rel : ∀ {vs : List V} {us : List Value} {zs : List V} {ws : List Value}, Vals vs us → Vals zs ws → Vals (gV vs zs) (g us ws)) : KBinds K fd ps ks g gV := by
  obtain ⟨oc, od, kV, doc, pm, an, cdv, ct, osl, rfl, lk, hcd⟩ := F.ex
  exact ⟨fun s us ws _ hl => .of_eq (h kV doc pm an cdv ct us ws hl), rel⟩
end
section
variable {ρ ρ' : List Sl} {tk : TA} {ss as : List Sl} {x : PyData} {gV : List V → List V → List V}
theorem ev_ck {n : Nat} {T : List Sl → (Rv → Prop) → Prop} {E : XK} (h : Es tk ρ ss ρ') (hgV : ∀ W vs, ArAll W vs ss → ArAll W (gV [] vs) as) (hn : as.length = n) (g : T as fun r => r = .d x) : Ev (tCallK (spD n T) gV E tNil tk) ρ (.d x) ρ' := fun c A σ H Q R f q =>
  h c A σ H _ R f fun vs A1 H1 R1 f1 S1 o1 => by
    refine ⟨zz c.Z A1, as, _, zz_ok R1, by rw [hz_eq]; exact hgV _ _ o1, hn, g, fun r v H' hr S o => ?_⟩
    · subst hr
      have o : Dn (hz (zz c.Z A1) H') v x := o
      rw [hz_eq] at o
      exact q v A1 H' (R1.upA S) f1 (S1.trans (vw_upA R1 S)) o
end
/-! the two orders that laws ask: f(a=..), f(b=.., a=..) -/
def g1 {α : Type} : List α → List α → List α
  | [], [a] => [a]
  | _, _ => []
def g21 {α : Type} : List α → List α → List α
  | [], [b, a] => [a, b]
  | _, _ => []
theorem g1_rel {vs : List V} {us : List Value} {zs : List V} {ws : List Value} (h : Vals vs us) (g : Vals zs ws) : Vals (g1 vs zs) (g1 us ws) := by
  cases h with
  | cons _ _ => exact .nil
  | nil => cases g with
    | nil => exact .nil
    | cons r t => cases t with
      | nil => exact .cons r .nil
      | cons _ _ => exact .nil
theorem g21_rel {vs : List V} {us : List Value} {zs : List V} {ws : List Value} (h : Vals vs us) (g : Vals zs ws) : Vals (g21 vs zs) (g21 us ws) := by
  cases h with
  | cons _ _ => exact .nil
  | nil => cases g with
    | nil => exact .nil
    | cons r t => cases t with
      | nil => exact .nil
      | cons r2 t2 => cases t2 with
        | nil => exact .cons r2 (.cons r .nil)
        | cons _ _ => exact .nil
theorem g1_ar {W : Hp} {vs : List V} {a : Sl} (h : ArAll W vs [a]) : ArAll W (g1 [] vs) [a] := by
  cases vs with
  | nil => exact h.elim
  | cons v vs => cases vs with
    | nil => exact h
    | cons _ _ => exact h.2.elim
theorem g21_ar {W : Hp} {vs : List V} {a b : Sl} (h : ArAll W vs [b, a]) : ArAll W (g21 [] vs) [a, b] := by
  cases vs with
  | nil => exact h.elim
  | cons v vs => cases vs with
    | nil => exact h.2.elim
    | cons w vs => cases vs with
      | nil => exact ⟨h.2.1, h.1, trivial⟩
      | cons _ _ => exact h.2.2.elim
end OW
set_option Elab.async false
set_option linter.unusedVariables false
set_option linter.unusedSectionVars false
set_option maxRecDepth 100000
set_option maxHeartbeats 1000000
/-! A try with several handlers of which the first one, with a name, takes whatever comes. -/
namespace KA
open PySem PySem.Spec PyProof.Rows L2
/-- the wish of the body: what comes is of the first handler's class -/
def wFirst (K : PySem.W.Frag) (c : Value) (i : Nat) (ts : Addr → Value → Option Addr → TS) (D : Ends) : WX := fun cls d σ H =>
  PySem.W.exmOne K cls c = some true ∧ ∀ a, H a = none → ts a cls d { nx := fun ρ G => D.nx (ρ.set i none) G, rt := D.rt, bk := fun ρ G => D.bk (ρ.set i none) G, ct := fun ρ G => D.ct (ρ.set i none) G } (σ.set i (some (.ref a))) H
section
variable {X : Cx} {x n : Str} {c : Value} {i : Nat} {body su : List Stmt} {b1 : Stmt} {np pos p3 : Pos} {more : List ExceptHandler} {tb : WX → TS} {ts : Addr → Value → Option Addr → TS}
theorem ps_try_first (stk : X.stack = X.env :: X.outer) (frm : X.env.frame = some X.env.locals) (nd : X.N.Nodup) (at_ : X.N[i]? = some n) (loc : X.env.kindOf n = some .local) (nm : Names X x c)
    (hb : ∀ (W : WX) (pn : List (Addr × Obj)) (xe : Value → Shared → Prop), Takes (X.tr pn xe) W → PassesOwn (model X.prog X.w) X.A X.env xe → PSs (X.tr pn xe) body (tb W))
    (hs : ∀ (a : Addr) (oe : Obj) (cls : Value) (d : Option Addr) (pn : List (Addr × Obj)), Zc cls d oe → (∃ vs, oe.data = .fields vs) → PSs (X.suite a ((a, oe) :: pn)) (b1 :: su) (ts a cls d)) :
    PS X (.Try body (.ExceptHandler (some (.Name x np)) (some n) (b1 :: su) p3 :: more) [] [] pos) (fun D σ H => tb (wFirst X.K c i ts D) D σ H) := by
  refine ⟨fun pins s0 σ0 H0 D I0 want => ?_⟩
  have okX := I0.ok
  have frames : X.A.frames = some (X.env :: X.outer) := by rw [okX.frames, stk]
  have here : Loc X.env.scope n := .inl loc
  refine wpAny_Try_except ?_
  refine wpAny_mono ((hb (wFirst X.K c i ts D) (X.pn ++ pins) (fun u t1 => wpAny (model X.prog X.w) X.A (noteFrame u X.env) (fun _ t2 => wpAny (model X.prog X.w) X.A (setFlight u none) (fun _ t3 =>
    wpAny (model X.prog X.w) X.A (handleBy u X.env (.ExceptHandler (some (.Name x np)) (some n) (b1 :: su) p3 :: more)) (SP X pins D) X.xe t3) X.xe t2) X.xe t1) (fun u t0 inAir => ?_) PassesOwn.looking).run [] s0 σ0 H0 D (I0.toTry _) want) (fun fl t1 ends => ?_) (fun u t1 z => z)
  · obtain ⟨a, B, sB, pinsB, σ1, H1, cls, d, rfl, JB, newB, up0, air, freeA, osE, bareG, isC, suite⟩ := inAir
    have J0 : Inv X pins σ1 H1 sB := JB.ofTry okX
    have air' : Sky B (X.env :: X.outer) a (Zc cls d) X.env.locals t0.heap := by rw [← stk]; exact air
    show wpAny (model X.prog X.w) X.A (noteFrame (.ref a) X.env) _ _ _
    refine Sky.land Zc.steady frames frm air' fun hA flA upA => ?_
    have JA : Inv X pins σ1 H1 { t0 with heap := hA } := J0.landed newB flA.1 (up0.trans upA) osE bareG
    obtain ⟨oA, vA, getA, zcA, datA⟩ := flA.there
    have offF : a ∉ frs (X.env :: X.outer) := fun mem => by
      obtain ⟨_, o1, get1, notF⟩ := flA.2.2.1.mem mem
      rw [getA] at get1
      cases get1
      exact notF _ datA
    have offL : a ≠ X.env.locals := fun z => offF (List.mem_filterMap.mpr ⟨X.env, List.mem_cons_self, by rw [frm, z]⟩)
    have offS : a ∉ X.fs := fun mem => by
      obtain ⟨en, hen, q⟩ := List.mem_filterMap.mp mem
      exact offF (List.mem_filterMap.mpr ⟨en, List.mem_cons_of_mem _ hen, q⟩)
    have SA := JA.suite getA datA freeA offL offS
    refine wpAny_handleBy_cons (codeAny_handlers_test ?_) (by intro q; cases q)
    have lookT : PySem.W.Looks (model X.prog X.w) hA (typeOf (.ref a)) cls := fun _ _ _ t keep q => wpAny_typeOf_ref (keep _ _ getA) (by rw [zcA.1]; exact q)
    have lookM := PySem.W.exm_one (M := model X.prog X.w) JA.kIn lookT isC
    have name : ∀ {Q E : Value → Shared → Prop}, Q c { t0 with heap := hA } → wpAny (model X.prog X.w) (X.A.mark (some (.ref a))) (eval (.Name x np) X.env) Q E { t0 with heap := hA } := fun {Q E} q => by
      obtain ⟨gl, dbg, own | ⟨none_, blt, nn⟩⟩ := nm
      · exact ld_glob (X := X.suite a ((a, oA) :: (X.pn ++ pins))) SA gl own q dbg
      · exact ld_blt (X := X.suite a ((a, oA) :: (X.pn ++ pins))) SA gl none_ blt q nn dbg
    refine name (lookM.here ?_)
    refine codeAny_handlers_suite_as ?_
    refine HandSPX.lands_againZ flA fun hC flC upC => ?_
    have JC : Inv X pins σ1 H1 { t0 with heap := hC } := J0.landed newB flC.1 ((up0.trans upA).trans upC) osE bareG
    obtain ⟨oC, vC, getC, zcC, datC⟩ := flC.there
    have SC := JC.suite getC datC freeA offL offS
    refine store_ok (X := X.suite a ((a, oC) :: (X.pn ++ pins))) (v := .ref a) SC nd at_ here rfl (fun t5 S5 => ?_) (.inr loc)
    refine wpAny_mono ((hs a oC cls d (X.pn ++ pins) zcC ⟨_, datC⟩).run [] t5 _ H1 _ S5 (suite a freeA)) (fun fl t6 ends => ?_) (fun _ _ z => False.elim z)
    have gone : ∀ {ρ : L2.St} {G : Hp} {Q : Shared → Prop}, Inv (X.suite a ((a, oC) :: (X.pn ++ pins))) [] ρ G t6 → (∀ t7, Inv X pins (ρ.set i none) G t7 → Q t7) →
        wpAny (model X.prog X.w) X.A (do bindName X.env n .none; unbindBehindTheSuite X.env n p3) (fun _ t7 => Q t7) X.xe t6 := fun {ρ G Q} S6 q => gone_ok (S6.unsuite okX) nd at_ loc q
    cases fl with
    | next =>
      obtain ⟨ρ, G, S6, q⟩ := ends
      exact gone S6 fun t7 J7 => ⟨_, _, J7, q⟩
    | brk =>
      obtain ⟨ρ, G, S6, q⟩ := ends
      exact gone S6 fun t7 J7 => ⟨_, _, J7, q⟩
    | cont =>
      obtain ⟨ρ, G, S6, q⟩ := ends
      exact gone S6 fun t7 J7 => ⟨_, _, J7, q⟩
    | ret u =>
      obtain ⟨v, ρ, G, S6, rv, q⟩ := ends
      exact gone S6 fun t7 J7 => ⟨_, _, _, J7, rv, q⟩
  · cases fl with
    | next =>
      obtain ⟨ρ, G, J, q⟩ := ends
      exact wpAny_execs_nil ⟨ρ, G, J.ofTry okX, q⟩
    | brk =>
      obtain ⟨ρ, G, J, q⟩ := ends
      exact ⟨ρ, G, J.ofTry okX, q⟩
    | cont =>
      obtain ⟨ρ, G, J, q⟩ := ends
      exact ⟨ρ, G, J.ofTry okX, q⟩
    | ret u =>
      obtain ⟨v, ρ, G, J, rv, q⟩ := ends
      exact ⟨v, ρ, G, J.ofTry okX, rv, q⟩
end
end KA
set_option Elab.async false
set_option linter.unusedVariables false
set_option linter.unusedSectionVars false
set_option maxRecDepth 100000
set_option maxHeartbeats 1000000
/-! A try with several handlers that have names; of those behind them nothing is said. -/
namespace KA
open PySem PySem.Spec PyProof.Rows L2
def asEnds (i : Nat) (D : Ends) : Ends := { nx := fun ρ G => D.nx (ρ.set i none) G, rt := D.rt, bk := fun ρ G => D.bk (ρ.set i none) G, ct := fun ρ G => D.ct (ρ.set i none) G }
def wAs (K : PySem.W.Frag) (D : Ends) : List (Value × Nat × (Addr → Value → Option Addr → TS)) → WX
  | [] => fun _ _ _ _ => False
  | (c, i, ts) :: r => fun cls d σ H => ∃ b, PySem.W.exmOne K cls c = some b ∧ (b = true → ∀ a, H a = none → ts a cls d (asEnds i D) (σ.set i (some (.ref a))) H) ∧ (b = false → wAs K D r cls d σ H)
def tTryAs (K : PySem.W.Frag) (l : List (Value × Nat × (Addr → Value → Option Addr → TS))) (tb : WX → TS) : TS := fun D σ H => tb (wAs K D l) D σ H
inductive HdsA (X : Cx) : List ExceptHandler → List (Value × Nat × (Addr → Value → Option Addr → TS)) → Prop
  | rest {hds : List ExceptHandler} : HdsA X hds []
  | cons {x n : Str} {c : Value} {i : Nat} {ts : Addr → Value → Option Addr → TS} {b1 : Stmt} {su : List Stmt} {np p3 : Pos} {hds : List ExceptHandler} {l : List (Value × Nat × (Addr → Value → Option Addr → TS))}
      (nm : Names X x c) (at_ : X.N[i]? = some n) (loc : X.env.kindOf n = some .local)
      (hs : ∀ (a : Addr) (oe : Obj) (cls : Value) (d : Option Addr) (pn : List (Addr × Obj)), Zc cls d oe → (∃ vs, oe.data = .fields vs) → PSs (X.suite a ((a, oe) :: pn)) (b1 :: su) (ts a cls d)) (r : HdsA X hds l) :
      HdsA X (.ExceptHandler (some (.Name x np)) (some n) (b1 :: su) p3 :: hds) ((c, i, ts) :: l)
section
variable {X : Cx} {body : List Stmt} {h0 : ExceptHandler} {hds : List ExceptHandler} {l : List (Value × Nat × (Addr → Value → Option Addr → TS))} {pos : Pos} {tb : WX → TS}
theorem ps_try_as (stk : X.stack = X.env :: X.outer) (frm : X.env.frame = some X.env.locals) (nd : X.N.Nodup)
    (hb : ∀ (W : WX) (pn : List (Addr × Obj)) (xe : Value → Shared → Prop), Takes (X.tr pn xe) W → PassesOwn (model X.prog X.w) X.A X.env xe → PSs (X.tr pn xe) body (tb W))
    (hh : HdsA X (h0 :: hds) l) : PS X (.Try body (h0 :: hds) [] [] pos) (tTryAs X.K l tb) := by
  refine ⟨fun pins s0 σ0 H0 D I0 want => ?_⟩
  have okX := I0.ok
  have frames : X.A.frames = some (X.env :: X.outer) := by rw [okX.frames, stk]
  refine wpAny_Try_except ?_
  refine wpAny_mono ((hb (wAs X.K D l) (X.pn ++ pins) (fun u t1 => wpAny (model X.prog X.w) X.A (noteFrame u X.env) (fun _ t2 => wpAny (model X.prog X.w) X.A (setFlight u none) (fun _ t3 =>
    wpAny (model X.prog X.w) X.A (handleBy u X.env (h0 :: hds)) (SP X pins D) X.xe t3) X.xe t2) X.xe t1) (fun u t0 inAir => ?_) PassesOwn.looking).run [] s0 σ0 H0 D (I0.toTry _) want) (fun fl t1 ends => ?_) (fun u t1 z => z)
  · obtain ⟨a, B, sB, pinsB, σ1, H1, cls, d, rfl, JB, newB, up0, air, freeA, osE, bareG, w⟩ := inAir
    have J0 : Inv X pins σ1 H1 sB := JB.ofTry okX
    have air' : Sky B (X.env :: X.outer) a (Zc cls d) X.env.locals t0.heap := by rw [← stk]; exact air
    show wpAny (model X.prog X.w) X.A (noteFrame (.ref a) X.env) _ _ _
    refine Sky.land Zc.steady frames frm air' fun hA flA upA => ?_
    have JA : Inv X pins σ1 H1 { t0 with heap := hA } := J0.landed newB flA.1 (up0.trans upA) osE bareG
    obtain ⟨oA, vA, getA, zcA, datA⟩ := flA.there
    have offF : a ∉ frs (X.env :: X.outer) := fun mem => by
      obtain ⟨_, o1, get1, notF⟩ := flA.2.2.1.mem mem
      rw [getA] at get1
      cases get1
      exact notF _ datA
    have offL : a ≠ X.env.locals := fun z => offF (List.mem_filterMap.mpr ⟨X.env, List.mem_cons_self, by rw [frm, z]⟩)
    have offS : a ∉ X.fs := fun mem => by
      obtain ⟨en, hen, q⟩ := List.mem_filterMap.mp mem
      exact offF (List.mem_filterMap.mpr ⟨en, List.mem_cons_of_mem _ hen, q⟩)
    have SA := JA.suite getA datA freeA offL offS
    have go : ∀ {hds' : List ExceptHandler} {l' : List (Value × Nat × (Addr → Value → Option Addr → TS))}, HdsA X hds' l' → wAs X.K D l' cls d σ1 H1 →
        wpAny (model X.prog X.w) X.A (handleBy (.ref a) X.env hds') (SP X pins D) X.xe { t0 with heap := hA } := by
      intro hds' l' hk
      induction hk with
      | rest =>
        intro w
        exact False.elim w
      | @cons x n c i ts b1 su np p3 hds2 l2 nm at_ loc hs r ih =>
        intro w
        obtain ⟨b, hb1, hyes, hno⟩ := w
        have here : Loc X.env.scope n := .inl loc
        refine wpAny_handleBy_cons (codeAny_handlers_test ?_) (by intro q; cases q)
        have lookT : PySem.W.Looks (model X.prog X.w) hA (typeOf (.ref a)) cls := fun _ _ _ t keep q => wpAny_typeOf_ref (keep _ _ getA) (by rw [zcA.1]; exact q)
        have lookM := PySem.W.exm_one (M := model X.prog X.w) JA.kIn lookT hb1
        have name : ∀ {Q E : Value → Shared → Prop}, Q c { t0 with heap := hA } → wpAny (model X.prog X.w) (X.A.mark (some (.ref a))) (eval (.Name x np) X.env) Q E { t0 with heap := hA } := fun {Q E} q => by
          obtain ⟨gl, dbg, own | ⟨none_, blt, nn⟩⟩ := nm
          · exact ld_glob (X := X.suite a ((a, oA) :: (X.pn ++ pins))) SA gl own q dbg
          · exact ld_blt (X := X.suite a ((a, oA) :: (X.pn ++ pins))) SA gl none_ blt q nn dbg
        refine name (lookM.here ?_)
        cases b with
        | false =>
          show wpAny _ X.A (handleBy (.ref a) X.env hds2) _ _ _
          exact ih (hno rfl)
        | true =>
          refine codeAny_handlers_suite_as ?_
          refine HandSPX.lands_againZ flA fun hC flC upC => ?_
          have JC : Inv X pins σ1 H1 { t0 with heap := hC } := J0.landed newB flC.1 ((up0.trans upA).trans upC) osE bareG
          obtain ⟨oC, vC, getC, zcC, datC⟩ := flC.there
          have SC := JC.suite getC datC freeA offL offS
          refine store_ok (X := X.suite a ((a, oC) :: (X.pn ++ pins))) (v := .ref a) SC nd at_ here rfl (fun t5 S5 => ?_) (.inr loc)
          refine wpAny_mono ((hs a oC cls d (X.pn ++ pins) zcC ⟨_, datC⟩).run [] t5 _ H1 _ S5 (hyes rfl a freeA)) (fun fl t6 ends => ?_) (fun _ _ z => False.elim z)
          have gone : ∀ {ρ : L2.St} {G : Hp} {Q : Shared → Prop}, Inv (X.suite a ((a, oC) :: (X.pn ++ pins))) [] ρ G t6 → (∀ t7, Inv X pins (ρ.set i none) G t7 → Q t7) →
              wpAny (model X.prog X.w) X.A (do bindName X.env n .none; unbindBehindTheSuite X.env n p3) (fun _ t7 => Q t7) X.xe t6 := fun {ρ G Q} S6 q => gone_ok (S6.unsuite okX) nd at_ loc q
          cases fl with
          | next =>
            obtain ⟨ρ, G, S6, q⟩ := ends
            exact gone S6 fun t7 J7 => ⟨_, _, J7, q⟩
          | brk =>
            obtain ⟨ρ, G, S6, q⟩ := ends
            exact gone S6 fun t7 J7 => ⟨_, _, J7, q⟩
          | cont =>
            obtain ⟨ρ, G, S6, q⟩ := ends
            exact gone S6 fun t7 J7 => ⟨_, _, J7, q⟩
          | ret u =>
            obtain ⟨v, ρ, G, S6, rv, q⟩ := ends
            exact gone S6 fun t7 J7 => ⟨_, _, _, J7, rv, q⟩
    exact go hh w
  · cases fl with
    | next =>
      obtain ⟨ρ, G, J, q⟩ := ends
      exact wpAny_execs_nil ⟨ρ, G, J.ofTry okX, q⟩
    | brk =>
      obtain ⟨ρ, G, J, q⟩ := ends
      exact ⟨ρ, G, J.ofTry okX, q⟩
    | cont =>
      obtain ⟨ρ, G, J, q⟩ := ends
      exact ⟨ρ, G, J.ofTry okX, q⟩
    | ret u =>
      obtain ⟨v, ρ, G, J, rv, q⟩ := ends
      exact ⟨v, ρ, G, J.ofTry okX, rv, q⟩
end
end KA
set_option Elab.async false
set_option linter.unusedVariables false
set_option linter.unusedSectionVars false
set_option maxRecDepth 100000
set_option maxHeartbeats 1000000
namespace OW
open PySem PySem.Spec PyProof.Rows L2 KA
variable [Tbs]
/-! ### refusals -/
def Re (W : WX) (te : TE) (ρ : List Sl) (C : Addr) (s : Sl) (ρ' : List Sl) : Prop := ∀ (c : Fr) (A : Am) (σ : L2.St) (H : Hp) (Q : VK), Rp c A ρ σ H → A fl = none →
  (∀ d v A' H', Rp c A' ρ' σ H' → A' fl = none → vw c.Z A' H' d = some (.xd [("found", v)]) → ArOk (vw c.Z A' H') v s → W (.ref C) (some d) σ H') → te σ H Q
def Rs (W : WX) (t : TS) (ρ : List Sl) (C : Addr) (s : Sl) (ρ' : List Sl) : Prop := ∀ (c : Fr) (A : Am) (σ : L2.St) (H : Hp) (D : Ends), Rp c A ρ σ H → A fl = none →
  (∀ d v A' σ' H', Rp c A' ρ' σ' H' → A' fl = none → vw c.Z A' H' d = some (.xd [("found", v)]) → ArOk (vw c.Z A' H') v s → W (.ref C) (some d) σ' H') → t D σ H
def spX (n : Nat) (T : List Sl → (Rv → Prop) → (Addr → Sl → Prop) → Prop) : Sp := fun vs H Q E => ∃ (Z : Addr → Prop) (as : List Sl) (K : Rv → Prop) (X : Addr → Sl → Prop), ZOk Z H ∧ ArAll (hz Z H) vs as ∧ as.length = n ∧ T as K X ∧
  (∀ r v H', K r → Aft Z H H' → RvOk Z H H' v r → Q v H') ∧ ∀ C s d v H', X C s → Aft Z H H' → hz Z H' d = some (.xd [("found", v)]) → ArOk (hz Z H') v s → E (.ref C) (some d) H'
section
variable {ρ ρ' ρ1 ρ2 : List Sl} {te ta tb : TE} {s s' : Sl} {x y : PyData} {i : Nat} {tr : TA} {xs : List PyData} {ss : List Sl} {t u : TS} {K : KK} {g : TG} {W : WX} {C : Addr} {E : L2.St → XK} {n : Nat} {T : List Sl → (Rv → Prop) → (Addr → Sl → Prop) → Prop} {KF : PySem.W.Frag}
theorem ev_callX (h : Es tr ρ ss ρ') (hn : ss.length = n) (g : T ss (fun r => r = .d x) fun _ _ => False) : Ev (tCallS (spX n T) E tr) ρ (.d x) ρ' := fun c A σ H Q R f q =>
  h c A σ H _ R f fun vs A1 H1 R1 f1 S1 o1 => by
    refine ⟨zz c.Z A1, ss, _, _, zz_ok R1, by rw [hz_eq]; exact o1, hn, g, fun r v H' hr S o => ?_, fun _ _ _ _ _ z => z.elim⟩
    subst hr
    have o : Dn (hz (zz c.Z A1) H') v x := o
    rw [hz_eq] at o
    exact q v A1 H' (R1.upA S) f1 (S1.trans (vw_upA R1 S)) o
theorem el_callX (h : Es tr ρ ss ρ') (hn : ss.length = n) (g : T ss (fun r => r = .l xs) fun _ _ => False) : El (tCallS (spX n T) E tr) ρ xs ρ' := fun c A σ H Q R f q =>
  h c A σ H _ R f fun vs A1 H1 R1 f1 S1 o1 => by
    refine ⟨zz c.Z A1, ss, _, _, zz_ok R1, by rw [hz_eq]; exact o1, hn, g, fun r v H' hr S o => ?_, fun _ _ _ _ _ z => z.elim⟩
    subst hr
    obtain ⟨a, us, rfl, n, e, dx⟩ := o
    rw [hz_eq] at dx
    refine q a us _ H' (R1.adopt S n e) aset_at (S1.trans ?_) e (DnAll.mono vw_adopt dx)
    exact fun b o z => vw_adopt (A := A1) b o (by rw [hid_ne (ne_of_none (vw_some z).2.2 n)]; exact vw_upA R1 S _ _ z)
theorem re_call (h : Es tr ρ ss ρ') (hn : ss.length = n) (g : T ss (fun _ => False) fun C' s' => C' = C ∧ s' = s) : Re W (tCallS (spX n T) (fun σ => WE W σ) tr) ρ C s ρ' := fun c A σ H Q R f q =>
  h c A σ H _ R f fun vs A1 H1 R1 f1 S1 o1 => by
    refine ⟨zz c.Z A1, ss, _, _, zz_ok R1, by rw [hz_eq]; exact o1, hn, g, fun _ _ _ z => z.elim, fun C' s' d v H' z S e o => ?_⟩
    obtain ⟨rfl, rfl⟩ := z
    rw [hz_eq] at e o
    exact q d v A1 H' (R1.upA S) f1 e o
theorem rs_seq (h : Sm t ρ { nx := fun ρ1 => Rs W u ρ1 C s ρ', rt := fun _ _ => False }) : Rs W (tSeq t u) ρ C s ρ' := fun c A σ H D R f q =>
  h c A σ H { D with nx := u D } R f ⟨fun ρ1 A1 σ1 H1 hk R1 f1 => hk c A1 σ1 H1 D R1 f1 q, fun _ _ _ _ _ _ z => z.elim, fun _ _ _ _ z => z.elim, fun _ _ _ _ z => z.elim⟩
theorem rs_seq1 (h : Rs W t ρ C s ρ') : Rs W (tSeq t u) ρ C s ρ' := fun c A σ H D R f q => h c A σ H { D with nx := u D } R f q
theorem rs_drop (h : Re W te ρ C s ρ') : Rs W (tDrop te) ρ C s ρ' := fun c A σ H D R f q => h c A σ H _ R f fun d v A1 H1 R1 f1 e o => q d v A1 σ H1 R1 f1 e o
theorem rs_ret (h : Re W te ρ C s ρ') : Rs W (tRet te) ρ C s ρ' := fun c A σ H D R f q => h c A σ H _ R f fun d v A1 H1 R1 f1 e o => q d v A1 σ H1 R1 f1 e o
theorem rs_asg (h : Re W te ρ C s ρ') : Rs W (tAsg te g) ρ C s ρ' := fun c A σ H D R f q => h c A σ H _ R f fun d v A1 H1 R1 f1 e o => q d v A1 σ H1 R1 f1 e o
theorem rs_if {tt : TT} {b : Bool} (h : Et tt ρ b ρ1) (h1 : b = true → Rs W t ρ1 C s ρ') (h2 : b = false → Rs W u ρ1 C s ρ') : Rs W (tIfS tt t u) ρ C s ρ' := fun c A σ H D R f q =>
  h c A σ H _ R f fun A1 H1 R1 f1 S1 => by
    cases b with
    | true => exact h1 rfl c A1 σ H1 D R1 f1 q
    | false => exact h2 rfl c A1 σ H1 D R1 f1 q
theorem re_op1 {r : R2} (h : Re W ta ρ C s ρ') : Re W (tOp r ta tb) ρ C s ρ' := fun c A σ H Q R f q => h c A σ H _ R f q
theorem re_tup {ta : TA} (h : ∀ (c : Fr) (A : Am) (σ : L2.St) (H : Hp) (Q : List V → Hp → Prop), Rp c A ρ σ H → A fl = none → (∀ d v A' H', Rp c A' ρ' σ H' → A' fl = none → vw c.Z A' H' d = some (.xd [("found", v)]) → ArOk (vw c.Z A' H') v s → W (.ref C) (some d) σ H') → ta σ H Q) : Re W (tTup ta) ρ C s ρ' :=
  fun c A σ H Q R f q => h c A σ H _ R f q
/-- a display's second thing is refused -/
theorem re_tup2 {v : V} (h : Re W te ρ C s ρ') : Re W (tTup (tCons (tC v) (tCons te tNil))) ρ C s ρ' := fun c A σ H Q R f q => h c A σ H _ R f q
/-- raise C(e), C a refusal of the program -/
def spErr (C : Addr) : Sp := fun vs H Q _ => ∃ a v, vs = [.ref a, v] ∧ H a = some (exo a C none) ∧ ∀ dx, H dx = none → dx ≠ a → Q .non (upd (upd H dx (exd dx [("found", v)])) a (exo a C (some dx)))
theorem gone_same {H : Hp} {a d : Addr} {u e u' x : HO} (ha : H a = none) (hd : H d = none) : Same H (upd (del (upd (upd (upd H a u) d e) a u') a) d x) := fun b o z => by
  have na : b ≠ a := ne_of_none z ha
  have nd : b ≠ d := ne_of_none z hd
  rw [upd_ne nd, del_ne na, upd_ne na, upd_ne nd, upd_ne na]
  exact z
theorem rs_raise (h : Ev te ρ s ρ') : Rs W (fun _ σ H => tMkO C (spErr C) [] (tCons te tNil) σ H fun cls d H' => W cls d σ H') ρ C s ρ' := fun c A σ H D R f q =>
  h c A σ H _ R f fun v A1 H1 R1 f1 S1 o1 => by
    refine ⟨(by show 1 ≤ 1000; decide), fun a ha => ⟨a, v, rfl, upd_same, fun dx hdx ne => ⟨rfl, dx, [("found", v)], upd_same, ?_, ?_, ?_⟩⟩⟩
    · rw [upd_ne ne, upd_same]
    · rw [upd_ne ne] at hdx
      exact hdx
    · rw [upd_ne ne] at hdx
      have S := gone_same (u := exo a C none) (e := exd dx [("found", v)]) (u' := exo a C (some dx)) (x := .xd [("found", v)]) ha hdx
      exact q dx v A1 σ _ (R1.up S) f1 (new_view R1 hdx upd_same) (o1.mono (vw_up S))
/-! a try -/
def excMo (a d : Addr) (s : Sl) : Mo := ⟨fun u W => u = .ref a ∧ ∃ v, W d = some (.xd [("found", v)]) ∧ ArOk W v s, fun S ⟨e, v, h, o⟩ => ⟨e, v, S _ _ h, o.mono S⟩⟩
theorem ev_found {a d : Addr} (h : ρ[i]? = some (.p (excMo a d s))) : Ev (tXf a (.ref C) (some d) C "found" (tVar i)) ρ s ρ := fun c A σ H Q R f q => by
  obtain ⟨_, u, e, eu, v, ed, o⟩ := R.sl i _ h
  subst eu
  exact ⟨_, e, rfl, rfl, d, _, v, rfl, vw_sub _ _ ed, rfl, q v A H R f (Same.refl _) o⟩
theorem sm_try {l : List (Value × Nat × (Addr → Value → Option Addr → TS))} {tb : WX → TS} (h : ∀ W, Sm (tb W) ρ K) : Sm (tTryAs KF l tb) ρ K := fun c A σ H D R f dk => h _ c A σ H D R f dk
/-- which handler takes it -/
inductive Takes1 (KF : PySem.W.Frag) (C : Addr) : List (Value × Nat × (Addr → Value → Option Addr → TS)) → Nat → (Addr → Value → Option Addr → TS) → Prop
  | here {c : Value} {i : Nat} {ts : Addr → Value → Option Addr → TS} {r : List (Value × Nat × (Addr → Value → Option Addr → TS))} : PySem.W.exmOne KF (.ref C) c = some true → Takes1 KF C ((c, i, ts) :: r) i ts
  | next {c : Value} {i j : Nat} {ts ts' : Addr → Value → Option Addr → TS} {r : List (Value × Nat × (Addr → Value → Option Addr → TS))} : PySem.W.exmOne KF (.ref C) c = some false → Takes1 KF C r j ts' → Takes1 KF C ((c, i, ts) :: r) j ts'
theorem sm_tryX {l : List (Value × Nat × (Addr → Value → Option Addr → TS))} {tb : WX → TS} {ts : Addr → Value → Option Addr → TS} (h : ∀ W, Rs W (tb W) ρ C s ρ') (ht : Takes1 KF C l i ts) (i0 : i ≠ 0 := by decide) (i1 : i ≠ fl := by decide)
    (hs : ∀ a d, Sm (ts a (.ref C) (some d)) (ρ'.set i (.p (excMo a d s))) { nx := fun _ => False, rt := K.rt }) : Sm (tTryAs KF l tb) ρ K := fun c A σ H D R f dk => by
  refine h (wAs KF D l) c A σ H D R f fun d v A' σ' H' R' f' e o => ?_
  induction ht with
  | @here c0 i0' ts0 r0 hx =>
    refine ⟨true, hx, (fun _ a ha => ?_), (fun z => by cases z)⟩
    refine hs a d c _ _ H' _ (R'.set (s := .p (excMo a d s)) (v := .ref a) i0 ⟨rfl, _, rfl, rfl, v, e, o⟩) (by rw [aset_ne i1.symm]; exact f') ⟨fun _ _ _ _ z => z.elim, fun r ρ v A σ H k => dk.rt r ρ v A σ H k, fun _ _ _ _ z => z.elim, fun _ _ _ _ z => z.elim⟩
  | @next c0 i0' j0 ts0 ts1 r0 hx _ ih => exact ⟨false, hx, (fun z => by cases z), fun _ => ih i0 i1 hs⟩
end
section
variable {P : Program} {w : World} {K : PySem.W.Frag} {mg : Str → Option Value} {base : Heap}
theorem fn_x {x qual : Str} {st : Stmt} {f : Addr} {fd : FuncData} {N ps : List Str} {k n : Nat} {T : List Sl → (Rv → Prop) → (Addr → Sl → Prop) → Prop} (F : Fun K x qual st f fd) (S : FnScope N ps (defScope st)) (hn : ps.length = n := by rfl) (hN : n + N.length < fl := by decide)
    (body : ∀ (cdv : Value) (A : Around) (outer : List Env) (s : Shared) (H : Hp) (E : XK), Room k (A.deeper (envOfC qual (defScope st) s.heap.objs.size f cdv)) →
      ∃ t, PSs (cxOf (L2.CX P w) P w K mg base N qual (defScope st) f cdv A outer s H E) (defBody st) t ∧ ∀ as Kr X, as.length = n → T as Kr X →
        Sm t (as ++ uns (N.length - n)) { nx := fun _ => Kr (.d .none), rt := fun r _ => Kr r } ∨ ∃ C s ρ', X C s ∧ Rs (fun cls d _ H => E cls d H) t (as ++ uns (N.length - n)) C s ρ') :
    FnOk P w K mg base (L2.CX P w) (k + 1) f fd ps (spX n T) := by
  refine F.okX S (fun vs H Q E h => ?_) (fun cdv A outer s H vs Q E hr h => ?_)
  · obtain ⟨Z, as, Kr, X, hZ, ha, hl, _⟩ := h
    rw [ha.length, hl, hn]
  · obtain ⟨Z, as, Kr, X, hZ, ha, hl, hT, go, bad⟩ := h
    obtain ⟨t, ht, hb⟩ := body cdv A outer s H E hr
    have same : ∀ {A' : Am} {ρ' : List Sl} {σ' : L2.St} {H' : Hp}, Rp ⟨Z, none, H, hz Z H⟩ A' ρ' σ' H' → Aft Z H H' := rp_aft
    have start := rp_start (N := N) (vs := vs) hN hZ ha hl
    rcases hb as Kr X hl hT with hb | ⟨C, s, ρ', hX, hb⟩
    · refine ⟨t, ht, hb ⟨Z, none, H, hz Z H⟩ _ _ H _ start rfl ?_⟩
      refine ⟨fun ρ' A' σ' H' hk R f => go _ _ _ hk (same R) .non, fun r ρ' v A' σ' H' hk R o => go r v H' hk (same R) ?_, fun _ _ _ _ h => h.elim, fun _ _ _ _ h => h.elim⟩
      exact rv_out (fun b o e nz _ => R.old _ _ (hz_mk nz e)) (fun b z => Or.inl z) R.inj R.off R.bor o
    · refine ⟨t, ht, hb ⟨Z, none, H, hz Z H⟩ _ _ H _ start rfl fun d v A' σ' H' R' f' e o => bad C s d v H' hX (same R') (vw_hz _ _ e) (o.mono vw_hz)⟩
end
end OW
set_option Elab.async false
set_option linter.unusedVariables false
set_option linter.unusedSectionVars false
set_option maxRecDepth 100000
set_option maxHeartbeats 2000000
namespace OW
open PySem PySem.Spec PyProof.Rows L2 KA NdefX LamX
variable [Tbs]
/-! ### a def that is handed a def made in another def's body -/
abbrev SpS := List Env → Shared → Sp
structure FnOkS (P : Program) (w : World) (K : PySem.W.Frag) (mg : Str → Option Value) (base : Heap) (k : Nat) (f : Addr) (fd : FuncData) (ps : List Str) (sp : SpS) : Prop where
  len : ∀ o s vs H Q E, sp o s vs H Q E → vs.length = ps.length
  run : ∀ (A : Around) (outer : List Env) (s : Shared) (H : Hp) (args : Args) (us : List Value) (vs : List V) (Q : VK) (E : XK), Room k A → Env0 P w K mg base A outer s H → BindsTo s fd args (ps.zip us) → Vals vs us → sp outer s vs H Q E →
    codeAny (model P w) A (.call (.ref f) args) (CR CX0 outer P w H s Q E) s
section
variable {P : Program} {w : World} {K : PySem.W.Frag} {mg : Str → Option Value} {base : Heap} {k : Nat}
theorem fnS {x qual : Str} {st : Stmt} {f : Addr} {fd : FuncData} {N ps : List Str} {sp : SpS} (F : Fun K x qual st f fd) (S : FnScope N ps (defScope st)) (len : ∀ o s vs H Q E, sp o s vs H Q E → vs.length = ps.length)
    (body : ∀ (cdv : Value) (A : Around) (outer : List Env) (s : Shared) (H : Hp) (vs : List V) (Q : VK) (E : XK), Room k (A.deeper (envOfC qual (defScope st) s.heap.objs.size f cdv)) → sp outer s vs H Q E →
      ∃ t, PSs (cxOf CX0 P w K mg base N qual (defScope st) f cdv A outer s H E).nox (defBody st) t ∧ t { nx := fun _ H' => Q .non H', rt := Q } (start N vs) H) : FnOkS P w K mg base (k + 1) f fd ps sp :=
  ⟨len, fun A outer s H args us vs Q E hr e0 bt rv h => enter F S hr e0 bt rv (len _ _ _ _ _ _ h) fun cdv => let ⟨t, h1, h2⟩ := body cdv A outer s H vs Q E (hr.deeper _) h; ⟨t, h1.nox, h2⟩⟩
/-- of data and such a def -/
def spDS (n : Nat) (T : List Env → Shared → Hp → List Sl → (Rv → Prop) → Prop) : SpS := fun o s vs H Q E => spD n (T o s H) vs H Q E
theorem fn_dS {x qual : Str} {st : Stmt} {f : Addr} {fd : FuncData} {N ps : List Str} {n : Nat} {T : List Env → Shared → Hp → List Sl → (Rv → Prop) → Prop} (F : Fun K x qual st f fd) (S : FnScope N ps (defScope st)) (hn : ps.length = n := by rfl) (hN : n + N.length < fl := by decide)
    (body : ∀ (cdv : Value) (A : Around) (outer : List Env) (s : Shared) (H : Hp) (E : XK) (as : List Sl) (Kr : Rv → Prop), Room k (A.deeper (envOfC qual (defScope st) s.heap.objs.size f cdv)) → as.length = n → T outer s H as Kr →
      ∃ t, PSs (cxOf CX0 P w K mg base N qual (defScope st) f cdv A outer s H E).nox (defBody st) t ∧ Sm t (as ++ uns (N.length - n)) { nx := fun _ => Kr (.d .none), rt := fun r _ => Kr r }) :
    FnOkS P w K mg base (k + 1) f fd ps (spDS n T) := by
  refine fnS F S (fun o s vs H Q E h => ?_) (fun cdv A outer s H vs Q E hr h => ?_)
  · obtain ⟨Z, as, Kr, hZ, ha, hl, _⟩ := h
    rw [ha.length, hl, hn]
  · obtain ⟨Z, as, Kr, hZ, ha, hl, hT, go⟩ := h
    obtain ⟨t, ht, hb⟩ := body cdv A outer s H E as Kr hr hl hT
    refine ⟨t, ht, hb ⟨Z, none, H, hz Z H⟩ _ _ H _ (rp_start hN hZ ha hl) rfl ?_⟩
    have same : ∀ {A' : Am} {ρ' : List Sl} {σ' : L2.St} {H' : Hp}, Rp ⟨Z, none, H, hz Z H⟩ A' ρ' σ' H' → Aft Z H H' := rp_aft
    refine ⟨fun ρ' A' σ' H' hk R f => go _ _ _ hk (same R) .non, fun r ρ' v A' σ' H' hk R o => go r v H' hk (same R) ?_, fun _ _ _ _ h => h.elim, fun _ _ _ _ h => h.elim⟩
    exact rv_out (fun b o e nz _ => R.old _ _ (hz_mk nz e)) (fun b z => Or.inl z) R.inj R.off R.bor o
end
/-- the i-th slot holds the made def f, whose cells hold ws -/
def tHeld (f : Addr) (F : NF) (i : Nat) (sp : Sp) (t : TA) : TE := fun σ H Q => σ[i]? = some (some (.ref f)) ∧ H f = some (FnO f F) ∧ t σ H fun vs H1 => H1 f = some (FnO f F) ∧ H1 F.c = some (CodeO F.c F.qual) ∧ sp vs H1 Q E0
section
variable {X : Cx} {k i : Nat} {f : Addr} {F : NF} {ps fr : List Str} {ws : List (Option V)} {sp : List (Option V) → Sp} {x : Str} {e : Expr} {es : List Expr} {t : TA} {p pos : Pos}
theorem pe_held (Fn : NOk X.prog X.w X.K X.mg X.base CX0 k f F ps fr sp) (C : CellsAt F.cl fr ws X.s_0.heap X.H_0) (nf : ∀ y c, F.cl.lookup y = some c → c ∉ X.fs) (hx : X.ex = []) (hr : Room k X.A) (hN : X.N[i]? = some x) (hv : Vis X.env.scope x) (ha : PA X (e :: es) t)
    (hd : (x == ("__debug__" : Str)) = false := by decide) (hcd : (x == ("__classdict__" : Str)) = false := by decide)
    (he : starEach (e :: es) X.env = (false, eval e X.env) :: starEach es X.env := by rfl) (hpl : (backTo pos (starEach es X.env)).any (·.1) = false := by rfl) :
    PE X (.Call (.Name x p) (e :: es) [] pos) (tHeld f F i (sp ws) t) := by
  refine ⟨fun pins s σ H Q I h => ?_⟩
  obtain ⟨hs, hf, ht⟩ := h
  refine wpAny_Call_Name_kw (thn ((pe_var (pos := p) hN hv hd hcd).run pins s σ H (fun v H1 => v = .ref f ∧ H1 = H) I ⟨.ref f, hs, rfl, rfl⟩) fun u s1 ⟨v, H1, I1, r1, q1⟩ => ?_)
  obtain ⟨rfl, rfl⟩ := q1
  obtain rfl : u = Value.ref f := r1
  refine PySem.W.callWith_F (first := []) (fnAt_of I1 hf) (thn (ha.run pos pins s1 σ _ _ I1 ht) fun us s2 ⟨vs, H2, I2, r, h1, hc, q⟩ => ⟨fnAt_of I2 h1, ?_⟩) he hpl
  show wpAny _ _ (call (.ref f) us) _ _ _
  have C2 := C.later nf (fun y c _ z => by rw [hx] at z; cases z) I2
  refine wpAny_call (codeAny_mono (Fn.run X.A X.stack s2 H2 us vs _ Q E0 hr I2.env0 h1 hc C2 r q) fun r s' hq => ?_)
  cases r with
  | error e => exact hq.elim
  | ok fl =>
    cases fl with
    | ret u => exact I2.after hq
    | next => exact False.elim hq
    | brk => exact False.elim hq
    | cont => exact False.elim hq
end
end OW
set_option Elab.async false
set_option linter.unusedVariables false
set_option linter.unusedSectionVars false
set_option maxRecDepth 100000
set_option maxHeartbeats 2000000
namespace OW
open PySem PySem.Spec PyProof.Rows L2 KA NdefX LamX
variable [Tbs]
/-! ### the made def: its promise, how it is made, and the call that hands it on -/
/-- of data, in a frame whose cells hold ws0, which stand for cs -/
def spN (n : Nat) (ws0 : List V) (cs : List Sl) (T : List Sl → (Rv → Prop) → Prop) : List (Option V) → Sp := fun ws vs H Q _ => ws = ws0.map some ∧ ∃ (Z : Addr → Prop) (as : List Sl) (K : Rv → Prop), ZOk Z H ∧ ArAll (hz Z H) vs as ∧ ArAll (hz Z H) ws0 cs ∧ as.length = n ∧ T as K ∧
  ∀ r v H', K r → Aft Z H H' → RvOk Z H H' v r → Q v H'
/-- the slot of such a def -/
def madeMo (f : Addr) (F : NF) (ws0 : List V) (cs : List Sl) : Mo := ⟨fun v W => v = .ref f ∧ W f = some (FnO f F) ∧ W F.c = some (CodeO F.c F.qual) ∧ ArAll W ws0 cs, fun S ⟨a, b, g, d⟩ => ⟨a, S _ _ b, S _ _ g, d.mono S⟩⟩
section
variable {ρ ρ' : List Sl} {tr : TA} {ss cs : List Sl} {x : PyData} {f : Addr} {F : NF} {i n : Nat} {ws0 : List V}
theorem ev_made {T : List Sl → (Rv → Prop) → Prop} (h0 : ρ[i]? = some (.p (madeMo f F ws0 cs))) (h : Es tr ρ ss ρ') (h1 : ρ'[i]? = some (.p (madeMo f F ws0 cs))) (hn : ss.length = n) (g : T ss fun r => r = .d x) : Ev (tHeld f F i (spN n ws0 cs T (ws0.map some)) tr) ρ (.d x) ρ' := fun c A σ H Q R fA q => by
  obtain ⟨_, v, e1, rfl, e2, _⟩ := R.sl i _ h0
  refine ⟨e1, vw_sub _ _ e2, h c A σ H _ R fA fun vs A1 H1 R1 f1 S1 o1 => ?_⟩
  obtain ⟨_, v', e3, e4, e5, ec, e6⟩ := R1.sl i _ h1
  refine ⟨vw_sub _ _ e5, vw_sub _ _ ec, rfl, zz c.Z A1, ss, _, zz_ok R1, by rw [hz_eq]; exact o1, by rw [hz_eq]; exact e6, hn, g, fun r v H' hr S o => ?_⟩
  · subst hr
    have o : Dn (hz (zz c.Z A1) H') v x := o
    rw [hz_eq] at o
    exact q v A1 H' (R1.upA S) f1 (S1.trans (vw_upA R1 S)) o
end
section
variable {P : Program} {w : World} {K : PySem.W.Frag} {mg : Str → Option Value} {base : Heap} {k : Nat}
theorem fn_n {F : NF} {f : Addr} {N ps fr : List Str} {n m : Nat} {ws0 : List V} {cs : List Sl} {T : List Sl → (Rv → Prop) → Prop} (S : NScope N ps fr F.scope) (hb : ∀ (doc pm ctv : Value) (us : List Value), us.length = ps.length → bindArgs (F.fd doc pm ctv) ⟨us, []⟩ = pure (ps.zip us))
    (hn : ps.length = n) (hm : cs.length = m) (hN : n + m + N.length < fl)
    (body : ∀ (A : Around) (outer : List Env) (s : Shared) (H : Hp) (E : XK), Room k (A.deeper (envF F f s.heap.objs.size)) → ∃ t, PSs (ncx CX0 P w K mg base N F f A outer s H E).nox F.body t ∧ ∀ as Kr, as.length = n → T as Kr → Sm t ((as ++ cs) ++ uns (N.length - (n + m))) { nx := fun _ => Kr (.d .none), rt := fun r _ => Kr r }) :
    NOk P w K mg base CX0 (k + 1) f F ps fr (spN n ws0 cs T) := by
  refine nok_of S hb (fun ws vs H Q E h => ?_) (fun A outer s H vs ws Q E hr hf hcd hl h => ?_)
  · obtain ⟨_, Z, as, Kr, hZ, ha, hc, hl, _⟩ := h
    rw [ha.length, hl, hn]
  · obtain ⟨rfl, Z, as, Kr, hZ, ha, hc, hl, hT, go⟩ := h
    obtain ⟨t, ht, hbd⟩ := body A outer s H E hr
    refine ⟨t, ht.nox, ?_⟩
    have e0 : startF N vs (ws0.map some) = L2.start N (vs ++ ws0) := by
      unfold startF L2.start
      rw [List.map_append, List.append_assoc, List.length_append, List.length_map, Nat.sub_sub]
    rw [e0]
    refine hbd as Kr hl hT ⟨Z, none, H, hz Z H⟩ _ _ H _ (rp_start hN hZ (ha.append hc) (by rw [List.length_append, hl, hm])) rfl ?_
    have same : ∀ {A' : Am} {ρ' : List Sl} {σ' : L2.St} {H' : Hp}, Rp ⟨Z, none, H, hz Z H⟩ A' ρ' σ' H' → Aft Z H H' := rp_aft
    refine ⟨fun ρ' A' σ' H' hk R f => go _ _ _ hk (same R) .non, fun r ρ' v A' σ' H' hk R o => go r v H' hk (same R) ?_, fun _ _ _ _ h => h.elim, fun _ _ _ _ h => h.elim⟩
    exact rv_out (fun b o e nz _ => R.old _ _ (hz_mk nz e)) (fun b z => Or.inl z) R.inj R.off R.bor o
end
/-- just this value, which stands for x -/
def exactMo (v0 : V) (x : PyData) : Mo := ⟨fun v W => v = v0 ∧ Dn W v x, fun S ⟨a, b⟩ => ⟨a, Dn.mono S b⟩⟩
section
variable {c : Fr} {A : Am} {ρ : List Sl} {σ : L2.St} {H : Hp}
theorem Rp.exact {j : Nat} {x : PyData} (R : Rp c A ρ σ H) (h : ρ[j]? = some (.d x)) : ∃ v, σ[j]? = some (some v) ∧ Dn (vw c.Z A H) v x ∧ Rp c A (ρ.set j (.p (exactMo v x))) σ H := by
  obtain ⟨e0, v, e1, d1⟩ := R.sl j _ h
  refine ⟨v, e1, d1, by rw [List.length_set]; exact R.len, by rw [List.length_set]; exact R.sz, R.inj, R.off, R.live, R.keep, R.old, R.bor, fun i s hi => ?_, R.tz, R.tb⟩
  by_cases q : i = j
  · subst q
    rw [List.getElem?_set_self (List.getElem?_eq_some_iff.mp h).1] at hi
    obtain rfl := Option.some.inj hi
    exact ⟨e0, v, e1, rfl, d1⟩
  · rw [List.getElem?_set_ne (Ne.symm q)] at hi
    exact R.sl i s hi
end
/-! a def statement within a def: its table may grow -/
/-- the slot i holds the new function; Z: what is hidden -/
def tNdefT (i : Nat) (mk : Addr → NF) : TS := fun D σ H => ∃ Z, ZOk Z H ∧ ∀ (f cc : Addr) (H1 : Hp), Aft Z H H1 → H f = none → H1 f = some (FnO f (mk cc)) → hz Z H1 cc = some (CodeO cc (mk cc).qual) → D.nx (σ.set i (some (.ref f))) H1
section
variable {X : Cx}
theorem made_new {Z : Addr → Prop} {H : Hp} {f cc : Addr} {F : NF} {q : Str} (zo : ZOk Z H) (nf : H f = none) (hc : hz Z H cc = some (CodeO cc q)) : Aft Z H (upd H f (FnO f F)) ∧ hz Z (upd H f (FnO f F)) cc = some (CodeO cc q) := by
  refine ⟨Aft.of (Same.new nf) zo.tb, ?_⟩
  obtain ⟨z1, z2⟩ := hz_some hc
  exact hz_mk z1 (by rw [upd_ne (ne_of_none z2 nf)]; exact z2)
theorem code_no {cc : Addr} {q : Str} {ps : Array Value} (h : HO.tbl ps = CodeO cc q) : False := by
  unfold CodeO at h
  cases h
/-- the table tells a code object more -/
theorem made_code {Z : Addr → Prop} {H : Hp} {P cc : Addr} {ps : Array Value} {nm : Nat → Nat → Str} {pos : Pos} (zo : ZOk Z H) (hm : (P, nm) ∈ Tbs.T) (hu : ∀ p ∈ Tbs.T, p.1 = P → p.2 = nm) (eP : H P = some (.tbl ps)) (tr : TriplesOk ps.toList)
    (al : ∀ (pos : Pos) (cv : Value), codeAmong pos ps.toList = some cv → ∃ c, cv = .ref c ∧ hz Z H c = some (CodeO c (nm pos.line pos.col))) (nc : H cc = none) :
    ZOk Z (upd (upd H P (.tbl (ps ++ #[rawInt pos.line, rawInt pos.col, .ref cc]))) cc (CodeO cc (nm pos.line pos.col))) ∧ Aft Z H (upd (upd H P (.tbl (ps ++ #[rawInt pos.line, rawInt pos.col, .ref cc]))) cc (CodeO cc (nm pos.line pos.col))) ∧
      hz Z (upd (upd H P (.tbl (ps ++ #[rawInt pos.line, rawInt pos.col, .ref cc]))) cc (CodeO cc (nm pos.line pos.col))) cc = some (CodeO cc (nm pos.line pos.col)) := by
  have tP : tabA P := ⟨_, hm, rfl⟩
  have nPc : P ≠ cc := ne_of_none eP nc
  have nZ : ¬ Z cc := fun z => zo.there _ z nc
  have kp : ∀ b o, H b = some o → b ≠ P → upd (upd H P (.tbl (ps ++ #[rawInt pos.line, rawInt pos.col, .ref cc]))) cc (CodeO cc (nm pos.line pos.col)) b = some o := fun b o e n => by
    rw [upd_ne (ne_of_none e nc), upd_ne n]
    exact e
  have kc : ∀ c q, hz Z H c = some (CodeO c q) → hz Z (upd (upd H P (.tbl (ps ++ #[rawInt pos.line, rawInt pos.col, .ref cc]))) cc (CodeO cc (nm pos.line pos.col))) c = some (CodeO c q) := fun c q e => by
    obtain ⟨z1, z2⟩ := hz_some e
    refine hz_mk z1 (kp _ _ z2 fun z => ?_)
    rw [z, eP] at z2
    exact code_no (Option.some.inj z2)
  have at_ : hz Z (upd (upd H P (.tbl (ps ++ #[rawInt pos.line, rawInt pos.col, .ref cc]))) cc (CodeO cc (nm pos.line pos.col))) cc = some (CodeO cc (nm pos.line pos.col)) := hz_mk nZ upd_same
  have tb : Tb (hz Z (upd (upd H P (.tbl (ps ++ #[rawInt pos.line, rawInt pos.col, .ref cc]))) cc (CodeO cc (nm pos.line pos.col)))) (upd (upd H P (.tbl (ps ++ #[rawInt pos.line, rawInt pos.col, .ref cc]))) cc (CodeO cc (nm pos.line pos.col))) := fun p hp => by
    by_cases q : p.1 = P
    · have e2 : (ps ++ #[rawInt pos.line, rawInt pos.col, Value.ref cc]).toList = ps.toList ++ [rawInt pos.line, rawInt pos.col, .ref cc] := by simp
      rw [hu p hp q, q]
      refine ⟨_, by rw [upd_ne nPc, upd_same], by rw [e2]; exact PySem.TriplesOk_snoc _ _ _ _ tr, fun pp cv h => ?_⟩
      rw [e2] at h
      rcases among_app2 _ tr h with z | ⟨z, z1, z2⟩
      · obtain ⟨c, g1, g2⟩ := al pp cv z
        exact ⟨c, g1, kc _ _ g2⟩
      · rw [← z1, ← z2]
        exact ⟨cc, z, at_⟩
    · obtain ⟨qs, g1, g2, g3⟩ := zo.tb p hp
      refine ⟨qs, kp _ _ g1 q, g2, fun pp cv h => ?_⟩
      obtain ⟨c, k1, k2⟩ := g3 pp cv h
      exact ⟨c, k1, kc _ _ k2⟩
  refine ⟨⟨fun b z => ?_, zo.tz, tb⟩, ⟨fun b o e t => kp b o e fun z => t (z ▸ tP), tb⟩, at_⟩
  by_cases q : b = P
  · rw [q, upd_ne nPc, upd_same]
    simp
  · obtain ⟨o, e⟩ := Option.ne_none_iff_exists'.mp (zo.there b z)
    rw [kp b o e q]
    simp
theorem Aft.trans {Z : Addr → Prop} {H H1 H2 : Hp} (a : Aft Z H H1) (b : Aft Z H1 H2) : Aft Z H H2 := ⟨fun c o e t => b.same c o (a.same c o e t) t, b.tb⟩
theorem ps_ndefT {st : Stmt} {nm : Nat → Nat → Str} {c P : Addr} {name : Str} {pos : Pos} {i : Nat} (hst : st = .FunctionDef name (C8.fnArgs st) (C8.fnBody st) [] none [] (C8.fnScope st) none name pos) (B : TabB X.base X.mg c P) (hc : X.env.code = .ref c) (hm : (P, nm) ∈ Tbs.T) (hu : ∀ p ∈ Tbs.T, p.1 = P → p.2 = nm) (hn : nm pos.line pos.col = X.env.qual ++ name)
    (hcap : ∀ y ∈ (C8.fnScope st).names, y.2 = .free → X.env.scope.names.lookup y.1 = some .cell ∨ X.env.scope.names.lookup y.1 = some .free) (hd0 : (C8.fnArgs st).defaults = []) (hk0 : (C8.fnArgs st).kw_defaults = []) (han : annTrees (C8.fnArgs st) none X.env = [])
    (nd : X.N.Nodup) (hi : X.N[i]? = some name) (lo : Loc X.env.scope name) (hf : X.fn name = true ∨ X.env.scope.names.lookup name = some .local) :
    PS X st (tNdefT i (NF.of st name (X.env.qual ++ name) (cloFrom X.env.cells (C8.fnScope st).names []))) := by
  refine ⟨fun pins s σ H D I ⟨Z, zo, go⟩ => ?_⟩
  have hq : qualnameIn X.env name name = X.env.qual ++ name := by
    have kk : X.env.kindOf name = some .local ∨ X.env.kindOf name = some .cell := lo
    unfold qualnameIn
    rcases kk with kk | kk <;> rw [kk] <;> first | rfl | exact if_neg (by decide)
  have cap : ∀ y ∈ (C8.fnScope st).names, y.2 = .free → ∃ a, X.env.cells.lookup y.1 = some a := fun y hy e => (hcap y hy e).elim (fun z => I.ok.has y.1 (.inl z)) fun z => I.ok.has y.1 (.inr z)
  have bP : s.heap.BuiltinsAt X.mg P := B.bm.keeps I.bk
  obtain ⟨ps, eP, tr, al⟩ := zo.tb _ hm
  have gP : s.heap.get? P = some { cls := .none, data := .fields ps } := I.hok P _ eP
  have fin : ∀ (f cc : Addr) (H1 : Hp) (s1 : Shared), Inv X pins σ H1 s1 → Aft Z H H1 → H f = none → H1 f = some (FnO f (NF.of st name (X.env.qual ++ name) (cloFrom X.env.cells (C8.fnScope st).names []) cc)) → hz Z H1 cc = some (CodeO cc (X.env.qual ++ name)) →
      wpAny (model X.prog X.w) X.A (storeName X.env name (.ref f)) (fun _ s2 => SP X pins D .next s2) X.xe s1 := fun f cc H1 s1 I1 af f0 f1 c1 =>
    store_ok I1 nd hi lo (v := .ref f) rfl (fun s2 J => ⟨_, H1, J, go f cc H1 af f0 f1 c1⟩) hf
  rw [hst]
  refine PySem.W.nestDef_K hd0 hk0 han ?_
  rw [hq]
  cases hh : codeAmong pos ps.toList with
  | some cv =>
    obtain ⟨cc, rfl, hcc⟩ := al pos cv hh
    have hcc : hz Z H cc = some (CodeO cc (nm pos.line pos.col)) := hcc
    rw [hn] at hcc
    refine PySem.W.makeFunction_hit (mg := X.mg) (c := c) (P := P) (ps := ps) (closure_ok cap) I.ok.glob (I.mod.glob.keeps I.bk) hc (B.code.keeps I.bk) gP tr hh bP fun ctv doc h' tk hx _ => ?_
    have I1 : Inv X pins σ H { s with heap := h', toks := tk } := I.kept hx
    have f0 : H h'.objs.size = none := I1.hok.fresh (Nat.le_refl _)
    obtain ⟨a1, a2⟩ := made_new (F := NF.of st name (X.env.qual ++ name) (cloFrom X.env.cells (C8.fnScope st).names []) cc) zo f0 hcc
    exact fin _ cc _ _ (inv_fn (F := NF.of st name (X.env.qual ++ name) (cloFrom X.env.cells (C8.fnScope st).names []) cc) (t' := tk) (doc := doc) (pm := (X.mg "__name__").getD .none) (ctv := ctv) I1 rfl) a1 f0 upd_same a2
  | none =>
    refine PySem.W.makeFunction_K (mg := X.mg) (c := c) (P := P) (ps := ps) (closure_ok cap) I.ok.glob (I.mod.glob.keeps I.bk) hc (B.code.keeps I.bk) gP tr hh B.gP bP fun cc ctv doc h' tk hx hge hlt hrec htb => ?_
    obtain ⟨c2, oc, vs, t, e2, hoc, hd, hv⟩ := hrec
    cases e2
    have nC : H cc = none := I.hok.fresh hge
    obtain ⟨z1, z2, z3⟩ := made_code (pos := pos) zo hm hu eP tr al nC
    rw [hn] at z1 z2 z3
    have I1 := inv_table (t' := tk) (more := #[rawInt pos.line, rawInt pos.col, .ref cc]) (h' := h') I eP (fun b o hb e => hx b o hb e) htb hge ⟨oc, vs, t, hoc, hd, hv⟩
    have f0 := I1.hok.fresh (Nat.le_refl _)
    obtain ⟨a1, a2⟩ := made_new (F := NF.of st name (X.env.qual ++ name) (cloFrom X.env.cells (C8.fnScope st).names []) cc) z1 f0 z3
    exact fin _ cc _ _ (inv_fn (F := NF.of st name (X.env.qual ++ name) (cloFrom X.env.cells (C8.fnScope st).names []) cc) (t' := tk) (doc := doc) (pm := (X.mg "__name__").getD .none) (ctv := ctv) I1 rfl) (z2.trans a1) (I.hok.fresh (Nat.le_trans hge (Nat.le_of_lt hlt))) upd_same a2
end
section
variable {ρ : List Sl} {K : KK}
/-- def f(..): ..: two slots are captured -/
theorem sm_ndef {mk : Addr → NF} {i j1 j2 : Nat} {x1 x2 : PyData} (h1 : ρ[j1]? = some (.d x1)) (h2 : ρ[j2]? = some (.d x2)) (hq : ∀ c, (mk c).c = c) (q : ∀ f cc v1 v2, K.nx (((ρ.set j1 (.p (exactMo v1 x1))).set j2 (.p (exactMo v2 x2))).set i (.p (madeMo f (mk cc) [v1, v2] [.d x1, .d x2])))) (i0 : i ≠ 0 := by decide) (hf : fl ≠ i := by decide) (jj : j1 ≠ j2 := by decide) : Sm (tNdefT i mk) ρ K := fun c A σ H D R fA dk => by
  obtain ⟨v1, e1, d1, R1⟩ := R.exact h1
  obtain ⟨v2, e2, d2, R2⟩ := R1.exact (j := j2) (x := x2) (by rw [List.getElem?_set_ne jj]; exact h2)
  refine ⟨zz c.Z A, zz_ok R2, fun f cc H1 af f0 f1 c1 => ?_⟩
  have R3 := R2.upA af
  have W1 := vw_upA R af
  rw [hz_eq] at c1
  exact dk.nx _ _ _ _ (q f cc v1 v2) (R3.set i0 (s := .p (madeMo f (mk cc) [v1, v2] [.d x1, .d x2])) ⟨rfl, _, rfl, rfl, new_view R f0 f1, by rw [hq cc]; exact c1, Dn.mono W1 d1, Dn.mono W1 d2, trivial⟩) (by rw [aset_ne hf]; exact fA)
end
/-! the call that hands it on -/
/-- what is known of the handed def where it is called -/
structure Handed (s : Shared) (H : Hp) (outer : List Env) (F : NF) (fr : List Str) (ws0 : List V) : Prop where
  cells : CellsAt F.cl fr (ws0.map some) s.heap H
  off : ∀ y c, F.cl.lookup y = some c → c ∉ frs outer
/-- T tells of the arguments, the made def among them; L: that it is handed -/
def spHand (n : Nat) (T : NF → List Str → List V → List Sl → (Rv → Prop) → Prop) : SpS := spDS n fun o s H as Kr => ∃ F fr ws0, Handed s H o F fr ws0 ∧ T F fr ws0 as Kr
def tHand (n : Nat) (cl : List (Str × Addr)) (fr : List Str) (js : List Nat) (T : NF → List Str → List V → List Sl → (Rv → Prop) → Prop) (t : TA) : TE := fun σ H Q => t σ H fun vs H1 => ∃ F ws0, F.cl = cl ∧ js.map (slotAt σ) = ws0.map some ∧ spD n (fun as Kr => T F fr ws0 as Kr) vs H1 Q E0
theorem frs_off {X : Cx} {pins : List (Addr × Obj)} {σ : L2.St} {H : Hp} {s : Shared} (I : Inv X pins σ H s) (hfn : ∀ y, X.fn y = true) {y : Str} {c : Addr} (h : X.env.cells.lookup y = some c) : c ∉ frs X.stack := by
  have nfs : c ∉ X.fs := fun hb => by
    obtain ⟨_, o, ho, _⟩ := I.ok.funs.mem hb
    exact absurd (Nat.lt_of_lt_of_le (Heap.lt_size ho) (I.ok.cab y c (hfn y) h)) (Nat.lt_irrefl _)
  rcases I.ok.stk with e | ⟨e, hfr⟩
  · rw [e]
    exact nfs
  · rw [e]
    unfold frs
    rw [List.filterMap_cons, hfr]
    intro m
    rcases List.mem_cons.mp m with m | m
    · exact I.cne y c h m
    · exact nfs m
section
variable {X : Cx} {k j n : Nat} {f : Addr} {fd : FuncData} {ps fr : List Str} {js : List Nat} {cl : List (Str × Addr)} {T : NF → List Str → List V → List Sl → (Rv → Prop) → Prop} {x : Str} {e : Expr} {es : List Expr} {t : TA} {p pos : Pos}
theorem pe_hand (Fn : FnOkS X.prog X.w X.K X.mg X.base k f fd ps (spHand n T)) (cp : X.Ok → Caps X cl fr js) (hfn : ∀ y, X.fn y = true) (hr : Room j X.A) (hkj : k ≤ j) (hg : Gl X x) (hm : X.mg x = some (.ref f)) (hk : PySem.W.keepIn X.K (.ref f) = true) (hb : Binds X.K fd ps [])
    (ha : PA X (e :: es) t) (hdb : (x == ("__debug__" : Str)) = false := by decide) (he : starEach (e :: es) X.env = (false, eval e X.env) :: starEach es X.env := by rfl) (hpl : (backTo pos (starEach es X.env)).any (·.1) = false := by rfl) :
    PE X (.Call (.Name x p) (e :: es) [] pos) (tHand n cl fr js T t) := by
  refine ⟨fun pins s σ H Q I h => ?_⟩
  refine wpAny_Call_Name_kw (ld_glob I hg hm ?_ hdb)
  refine PySem.W.callWith_K (h₀ := X.base) I.ok.mod.kin hk (thn (ha.run pos pins s σ H _ I h) fun us s1 ⟨vs, H1, I1, r, F, ws0, hcl, hws, q⟩ => ⟨I1.kIn, ?_⟩) he hpl
  obtain ⟨Z, as, Kr, hZ, har, hl, hT, go⟩ := q
  have cap := cp I1.ok
  have C := cells_of I1 cap
  rw [hws] at C
  have q2 : spHand n T X.stack s1 vs H1 Q E0 := ⟨Z, as, Kr, hZ, har, hl, ⟨F, fr, ws0, ⟨by rw [hcl]; exact C, fun y c h => frs_off I1 hfn (cap.sub y c (by rw [← hcl]; exact h))⟩, hT⟩, go⟩
  have lv := Fn.len _ _ _ _ _ _ q2
  have lu : us.length = ps.length := by rw [← r.length]; exact lv
  have bt := hb s1 us I1.kIn (by rw [List.length_append]; exact lu)
  rw [List.append_nil] at bt
  show wpAny _ _ (call (.ref f) us) _ _ _
  refine wpAny_call (codeAny_mono (Fn.run X.A X.stack s1 H1 ⟨us, []⟩ us vs Q E0 (hr.mono hkj) I1.env0 bt r q2) fun r s' hq => ?_)
  cases r with
  | error e => exact hq.elim
  | ok fl =>
    cases fl with
    | ret u => exact I1.after hq
    | next => exact False.elim hq
    | brk => exact False.elim hq
    | cont => exact False.elim hq
end
section
variable {ρ ρ' : List Sl} {tr : TA} {ss : List Sl} {x : PyData} {f : Addr} {F : NF} {n j1 j2 : Nat} {fr : List Str} {x1 x2 : PyData} {v1 v2 : V}
theorem ev_hand {T : NF → List Str → List V → List Sl → (Rv → Prop) → Prop} (h : Es tr ρ ss ρ) (h1 : ρ[j1]? = some (.p (exactMo v1 x1))) (h2 : ρ[j2]? = some (.p (exactMo v2 x2))) (hn : ss.length = n) (g : T F fr [v1, v2] ss fun r => r = .d x) {cl : List (Str × Addr)} (hcl : F.cl = cl := by rfl) : Ev (tHand n cl fr [j1, j2] T tr) ρ (.d x) ρ := fun c A σ H Q R fA q =>
  h c A σ H _ R fA fun vs A1 H1 R1 f1 S1 o1 => by
    obtain ⟨_, u1, e1, rfl, _⟩ := R.sl j1 _ h1
    obtain ⟨_, u2, e2, rfl, _⟩ := R.sl j2 _ h2
    refine ⟨F, [u1, u2], hcl, ?_, zz c.Z A1, ss, _, zz_ok R1, by rw [hz_eq]; exact o1, hn, g, fun r v H' hr S o => ?_⟩
    · show [NdefX.slotAt σ j1, NdefX.slotAt σ j2] = [some u1, some u2]
      unfold NdefX.slotAt
      rw [e1, e2]
    · subst hr
      have o : Dn (hz (zz c.Z A1) H') v x := o
      rw [hz_eq] at o
      exact q v A1 H' (R1.upA S) f1 (S1.trans (vw_upA R1 S)) o
end
end OW
set_option Elab.async false
set_option linter.unusedVariables false
set_option linter.unusedSectionVars false
set_option maxRecDepth 100000
set_option maxHeartbeats 2000000
namespace OW
open PySem PySem.Spec PyProof.Rows L2 KA NdefX LamX
variable [Tbs]
/-! ### a def that makes a def: its code object is known -/
structure FunC (K : PySem.W.Frag) (x qual : Str) (st : Stmt) (f : Addr) (fd : FuncData) (c : Addr) : Prop where
  ex : ∃ (oc : Value) (od : Option Addr) (kV doc pm : Value) (an : Option Addr) (ct : Value) (osl : Array (Option Value)),
    fd = PySem.W.fnOf x qual (defArgs st) (defBody st) (defScope st) .none kV doc pm an (.ref c) ct ∧ K.lookup f = some ⟨oc, od, .func fd, osl⟩ ∧ PySem.W.codeIn K (.ref c) qual = true
  kp : PySem.W.keepIn K (.ref f) = true
theorem FunC.fn {K : PySem.W.Frag} {x qual : Str} {st : Stmt} {f : Addr} {fd : FuncData} {c : Addr} (F : FunC K x qual st f fd c) : Fun K x qual st f fd := by
  obtain ⟨oc, od, kV, doc, pm, an, ct, osl, e, l, q⟩ := F.ex
  exact ⟨⟨oc, od, kV, doc, pm, an, _, ct, osl, e, l, q⟩, F.kp⟩
/-- its table -/
structure Tabd (base : Heap) (mg : Str → Option Value) (c P : Addr) (q : Str) : Prop where
  tb : TabB base mg c P
  mem : (P, fun _ _ => q) ∈ Tbs.T
  one : ∀ p ∈ Tbs.T, p.1 = P → p.2 = fun _ _ => q
section
variable {P : Program} {w : World} {K : PySem.W.Frag} {mg : Str → Option Value} {base : Heap}
theorem fn_dC {x qual : Str} {st : Stmt} {f c : Addr} {fd : FuncData} {N ps : List Str} {k n : Nat} {T : List Sl → (Rv → Prop) → Prop} (F : FunC K x qual st f fd c) (S : FnScope N ps (defScope st)) (hn : ps.length = n := by rfl) (hN : n + N.length < fl := by decide)
    (body : ∀ (A : Around) (outer : List Env) (s : Shared) (H : Hp) (E : XK), Room k (A.deeper (envOfC qual (defScope st) s.heap.objs.size f (.ref c))) →
      ∃ t, PSs (cxOf CX0 P w K mg base N qual (defScope st) f (.ref c) A outer s H E).nox (defBody st) t ∧ ∀ as Kr, as.length = n → T as Kr → Sm t (as ++ uns (N.length - n)) { nx := fun _ => Kr (.d .none), rt := fun r _ => Kr r }) :
    FnOk P w K mg base CX0 (k + 1) f fd ps (spD n T) := by
  obtain ⟨oc, od, kV, doc, pm, an, ct, osl, rfl, lk, hcd⟩ := F.ex
  refine fn_of lk hcd S (fun vs H Q E h => ?_) fun A outer s H vs Q E hr h => ?_
  · obtain ⟨Z, as, Kr, hZ, ha, hl, _⟩ := h
    rw [ha.length, hl, hn]
  · obtain ⟨Z, as, Kr, hZ, ha, hl, hT, go⟩ := h
    obtain ⟨t, ht, hb⟩ := body A outer s H E hr
    refine ⟨t, ht.nox, hb as Kr hl hT ⟨Z, none, H, hz Z H⟩ _ _ H _ (rp_start hN hZ ha hl) rfl ?_⟩
    refine ⟨fun ρ' A' σ' H' hk R f => go _ _ _ hk (rp_aft R) .non, fun r ρ' v A' σ' H' hk R o => go r v H' hk (rp_aft R) ?_, fun _ _ _ _ h => h.elim, fun _ _ _ _ h => h.elim⟩
    exact rv_out (fun b o e nz _ => R.old _ _ (hz_mk nz e)) (fun b z => Or.inl z) R.inj R.off R.bor o
structure CalS (P : Program) (w : World) (K : PySem.W.Frag) (mg : Str → Option Value) (base : Heap) (k : Nat) (x : Str) (n : Nat) (T : NF → List Str → List V → List Sl → (Rv → Prop) → Prop) : Prop where
  ex : ∃ (f : Addr) (fd : FuncData) (ps : List Str), FnOkS P w K mg base k f fd ps (spHand n T) ∧ mg x = some (.ref f) ∧ PySem.W.keepIn K (.ref f) = true ∧ Binds K fd ps []
end
section
variable {X : Cx}
theorem ps_nd {st : Stmt} {q : Str} {c P : Addr} {name : Str} {pos : Pos} {i : Nat} (D : Tabd X.base X.mg c P q) (hst : st = .FunctionDef name (C8.fnArgs st) (C8.fnBody st) [] none [] (C8.fnScope st) none name pos) (hc : X.env.code = .ref c) (hn : q = X.env.qual ++ name)
    (hcap : ∀ y ∈ (C8.fnScope st).names, y.2 = .free → X.env.scope.names.lookup y.1 = some .cell ∨ X.env.scope.names.lookup y.1 = some .free) (hd0 : (C8.fnArgs st).defaults = []) (hk0 : (C8.fnArgs st).kw_defaults = []) (han : annTrees (C8.fnArgs st) none X.env = [])
    (nd : X.N.Nodup) (hi : X.N[i]? = some name) (lo : Loc X.env.scope name) (hf : X.fn name = true ∨ X.env.scope.names.lookup name = some .local) :
    PS X st (tNdefT i (NF.of st name (X.env.qual ++ name) (cloFrom X.env.cells (C8.fnScope st).names []))) := ps_ndefT hst D.tb hc D.mem D.one hn hcap hd0 hk0 han nd hi lo hf
theorem pe_hs {k j n : Nat} {fr : List Str} {js : List Nat} {cl : List (Str × Addr)} {T : NF → List Str → List V → List Sl → (Rv → Prop) → Prop} {x : Str} {e : Expr} {es : List Expr} {t : TA} {p pos : Pos} (c : CalS X.prog X.w X.K X.mg X.base k x n T) (cp : X.Ok → Caps X cl fr js) (hfn : ∀ y, X.fn y = true) (hr : Room j X.A) (hkj : k ≤ j) (hg : Gl X x)
    (ha : PA X (e :: es) t) (hdb : (x == ("__debug__" : Str)) = false := by decide) (he : starEach (e :: es) X.env = (false, eval e X.env) :: starEach es X.env := by rfl) (hpl : (backTo pos (starEach es X.env)).any (·.1) = false := by rfl) :
    PE X (.Call (.Name x p) (e :: es) [] pos) (tHand n cl fr js T t) := by
  obtain ⟨f, fd, ps, Fn, hm, hk, hb⟩ := c.ex
  exact pe_hand Fn cp hfn hr hkj hg hm hk hb ha hdb he hpl
end
end OW
set_option Elab.async false
set_option linter.unusedVariables false
set_option linter.unusedSectionVars false
set_option maxRecDepth 100000
set_option maxHeartbeats 2000000
namespace OW
open PySem PySem.Spec PyProof.Rows L2 KA
variable [Tbs]
/-- a thing that is this data, whatever else is known of it -/
inductive Isd : Sl → PyData → Prop
  | d (x : PyData) : Isd (.d x) x
  | p (P : Mo) (x : PyData) (h : ∀ W v, P.P v W → Dn W v x) : Isd (.p P) x
section
variable {ρ ρ' ρ1 ρ2 : List Sl} {te : TE} {s : Sl} {x : PyData} {i : Nat} {ta tr : TA} {ss : List Sl}
theorem Isd.dn {W : Hp} {v : V} (h : Isd s x) (o : ArOk W v s) : Dn W v x := by
  cases h with
  | d => exact o
  | p P _ k => exact k W v o
theorem ev_varI (h : ρ[i]? = some s) (is : Isd s x) : Ev (tVar i) ρ s ρ := by
  cases is with
  | d => exact ev_var h
  | p P => exact ev_varp h
theorem Ev.as (h : Ev te ρ s ρ') (is : Isd s x) : Ev te ρ (.d x) ρ' := fun c A σ H Q R f q => h c A σ H Q R f fun v A1 H1 R1 f1 S1 o1 => q v A1 H1 R1 f1 S1 (is.dn o1)
theorem ev_varD (h : ρ[i]? = some s) (is : Isd s x) : Ev (tVar i) ρ (.d x) ρ := (ev_varI h is).as is
end
section
variable {ρ ρ' ρ1 ρ2 : List Sl} {te ta tb : TE} {s s' : Sl} {x y : PyData} {i : Nat} {tr : TA} {ss : List Sl} {K' : KK}
theorem sm_augI {f : Int → Int → Int} {m n : Int} (h0 : ρ[i]? = some (.d (.int m))) (h : Ev te ρ (.d (.int n)) ρ1) (k : K'.nx (ρ1.set i (.d (.int (f m n))))) (i0 : i ≠ 0 := by decide) (i1 : i ≠ fl := by decide) : Sm (tAug i te (ipI f)) ρ K' := fun c A σ H D R f' dk => by
  obtain ⟨_, v, e, dn⟩ := R.sl i _ h0
  obtain rfl := int_v dn
  refine ⟨_, e, h c A σ H _ R f' fun w A1 H1 R1 f1 S1 o1 => ?_⟩
  obtain rfl := int_v o1
  exact ⟨m, n, rfl, rfl, dk.nx _ _ _ _ k (R1.set (s := .d (.int (f m n))) (v := .int (f m n)) i0 ⟨rfl, _, rfl, .int _⟩) (by rw [aset_ne i1.symm]; exact f1)⟩
end
structure NoX (K : PySem.W.Frag) (mg : Str → Option Value) (nm qual : Str) (st : Stmt) (C U fI : Addr) (fdI : FuncData) : Prop where
  oex : OexC K C
  up : UpC K U
  gU : mg "PaperError" = some (.ref U)
  gC : mg nm = some (.ref C)
  iC : PySem.W.findIn K (.ref C) "__init__" = some (some (.ref fI))
  tI : PySem.W.typeIn K (.ref fI) = some (.type "function")
  noF : PySem.W.findIn K (.ref C) "found" = some none
  fn : Fun K "__init__" qual st fI fdI
  b : Binds K fdI ["self", "found"] []
  xf : XfC K C
  te : PySem.W.exmOne K (.ref C) (.ref C) = some true
/-- a def that refuses, by its name -/
structure CalX (P : Program) (w : World) (K : PySem.W.Frag) (mg : Str → Option Value) (base : Heap) (k : Nat) (x : Str) (ps : List Str) (sp : Sp) : Prop where
  ex : ∃ (f : Addr) (fd : FuncData), FnOk P w K mg base (L2.CX P w) k f fd ps sp ∧ mg x = some (.ref f) ∧ PySem.W.keepIn K (.ref f) = true ∧ Binds K fd ps []
theorem pe_x {X : Cx} {j k : Nat} {x : Str} {ps : List Str} {sp : Sp} {W : WX} {e : Expr} {es : List Expr} {t : TA} {p pos : Pos} (c : CalX X.prog X.w X.K X.mg X.base k x ps sp) (tk : Takes X W) (hr : Room j X.A) (hk : k ≤ j) (hg : Gl X x) (ha : PA X (e :: es) t)
    (hdb : (x == ("__debug__" : Str)) = false := by decide) (he : starEach (e :: es) X.env = (false, eval e X.env) :: starEach es X.env := by rfl) (hpl : (backTo pos (starEach es X.env)).any (·.1) = false := by rfl) : PE X (.Call (.Name x p) (e :: es) [] pos) (tCallS sp (fun σ => WE W σ) t) := by
  obtain ⟨f, fd, F, m, kp, b⟩ := c.ex
  exact pe_callS F (hr.mono hk) hg m kp b (fun σ => passAt tk σ) ha hdb he hpl
/-! ### a call of what an expression gives, a def that may refuse -/
structure HeldX (P : Program) (w : World) (K : PySem.W.Frag) (mg : Str → Option Value) (base : Heap) (k : Nat) (f : Addr) (sp : Sp) : Prop where
  ex : ∃ (fd : FuncData) (ps : List Str), FnOk P w K mg base (L2.CX P w) k f fd ps sp ∧ PySem.W.keepIn K (.ref f) = true ∧ Binds K fd ps []
def tCallV (P : Program) (w : World) (K : PySem.W.Frag) (mg : Str → Option Value) (base : Heap) (k : Nat) (W : WX) (to : TE) (t : TA) : TE := fun σ H Q => to σ H fun x H1 => ∃ f sp, x = .ref f ∧ HeldX P w K mg base k f sp ∧ t σ H1 fun vs H2 => sp vs H2 Q (WE W σ)
theorem pe_callV {X : Cx} {P : Program} {w : World} {K : PySem.W.Frag} {mg : Str → Option Value} {base : Heap} (e1 : X.prog = P) (e2 : X.w = w) (e3 : X.K = K) (e4 : X.mg = mg) (e5 : X.base = base) {j k : Nat} {W : WX} {o e : Expr} {es : List Expr} {to : TE} {t : TA} {pos : Pos} (ho : PE X o to) (tk : Takes X W) (hr : Room j X.A) (hk : k ≤ j) (ha : PA X (e :: es) t)
    (he : eval (.Call o (e :: es) [] pos) X.env = (do callWith pos (← eval o X.env) [] (backTo pos (starEach (e :: es) X.env)) (backToKw pos (keywordEach [] X.env))) := by rfl)
    (hst : starEach (e :: es) X.env = (false, eval e X.env) :: starEach es X.env := by rfl) (hpl : (backTo pos (starEach es X.env)).any (·.1) = false := by rfl) : PE X (.Call o (e :: es) [] pos) (tCallV P w K mg base k W to t) := by
  subst e1 e2 e3 e4 e5
  refine ⟨fun pins s σ H Q I h => ?_⟩
  refine Call_ (thn (ho.run pins s σ H _ I h) fun u s1 ⟨x, H1, I1, rx, f, sp, ex, hf, q⟩ => ?_) he
  subst ex
  cases rx
  obtain ⟨fd, ps, F, kp, b⟩ := hf.ex
  refine PySem.W.callWith_K (h₀ := X.base) I1.ok.mod.kin kp (thn (ha.run pos pins s1 σ H1 _ I1 q) fun us s2 ⟨vs, H2, I2, r, q2⟩ => ⟨I2.kIn, ?_⟩) hst hpl
  exact run_fnS F (hr.mono hk) b (passAt tk σ) I2 r q2
theorem pe_ixK {X : Cx} {K : PySem.W.Frag} (e3 : X.K = K) {a b : Expr} {ta tb : TE} {pos : Pos} (ha : PE X a ta) (hb : PE X b tb) (hs : PlainIx b) : PE X (.Subscript a b pos) (tOp (rIxL K) ta tb) := by
  subst e3
  exact pe_ix ix_list ha hb hs
section
variable {ρ ρ' ρ1 ρ2 : List Sl} {te ta tb ti : TE} {s s' : Sl} {x y : PyData} {i : Nat} {tr : TA} {xs : List PyData} {ss : List Sl} {W : WX} {C : Addr} {n k : Nat} {T : List Sl → (Rv → Prop) → (Addr → Sl → Prop) → Prop} {KF : PySem.W.Frag}
  {P : Program} {w : World} {K : PySem.W.Frag} {mg : Str → Option Value} {base : Heap} {f : Addr}
theorem re_callV (h0 : Ev ta ρ (.p (isV (.ref f))) ρ1) (hf : HeldX P w K mg base k f (spX n T)) (h : Es tr ρ1 ss ρ') (hn : ss.length = n) (g : T ss (fun _ => False) fun C' s' => C' = C ∧ s' = s) : Re W (tCallV P w K mg base k W ta tr) ρ C s ρ' := fun c A σ H Q R f' q =>
  h0 c A σ H _ R f' fun v A1 H1 R1 f1 S1 o1 => by
    obtain rfl := isv_v o1
    exact ⟨f, _, rfl, hf, re_call (W := W) h hn g c A1 σ H1 Q R1 f1 fun d v A2 H2 R2 f2 e o => q d v A2 H2 R2 f2 e o⟩
/-- one of two written values -/
theorem ev_pick2 {a b : V} {z : Int} {v : V} (hi : Ev ti ρ (.d (.int z)) ρ') (e : atI [a, b] z = some v) : Ev (tOp (rIxL KF) (tLst (tCons (tC a) (tCons (tC b) tNil))) ti) ρ (.p (isV v)) ρ' := fun c A σ H Q R f q => by
  refine ⟨(by show 2 ≤ sizeLine; rw [sizeLine_eq]; decide), fun l hl => ?_⟩
  have R1 := R.up (Same.new (o := .lst [a, b]) hl)
  refine hi c A σ _ _ R1 f fun u A2 H2 R2 f2 S2 o2 => ?_
  obtain rfl := int_v o2
  have el : H2 l = some (.lst [a, b]) := vw_sub _ _ (S2 _ _ (new_view R hl upd_same))
  exact ⟨l, _, z, v, rfl, rfl, SqL.of el, e, q v A2 H2 R2 f2 ((vw_up (Same.new hl)).trans S2) rfl⟩
theorem fv_eqE : FV2 rEqE (.d (.tuple xs)) (.d (.tuple [])) (.d (.bool xs.isEmpty)) := fv2_s (dB xs.isEmpty) fun W H v w Q S o o' q => by
  obtain ⟨a, vs, rfl, e, dx⟩ := tup_v o
  obtain ⟨b, ws, rfl, e', dy⟩ := tup_v o'
  cases dy
  refine ⟨a, b, vs, rfl, rfl, Or.inl ⟨S _ _ e, S _ _ e'⟩, ?_⟩
  have : vs.isEmpty = xs.isEmpty := by cases dx <;> rfl
  rw [this]
  exact q
/-- a pair of a word and a thing -/
def pairMo (x : Str) (s : Sl) : Mo := ⟨fun u W => ∃ t v, u = .ref t ∧ W t = some (.tup [.str x, v]) ∧ ArOk W v s, fun S ⟨t, v, e, h, o⟩ => ⟨t, v, e, S _ _ h, o.mono S⟩⟩
theorem pair_isd {z : Str} (h : Isd s x) : Isd (.p (pairMo z s)) (.tuple [.str z, x]) := .p _ _ fun W v ⟨t, u, e, h1, o⟩ => by
  subst e
  exact .tup h1 (.cons (.str _) (.one (h.dn o)))
theorem ev_pair {z : Str} (h : Ev te ρ s ρ') : Ev (tTup (tCons (tC (.str z)) (tCons te tNil))) ρ (.p (pairMo z s)) ρ' := fun c A σ H Q R f q =>
  h c A σ H _ R f fun v A1 H1 R1 f1 S1 o1 => ⟨(by show 2 ≤ sizeLine; rw [sizeLine_eq]; decide), fun a ha =>
    q _ A1 _ (R1.up (Same.new ha)) f1 (S1.trans (vw_up (Same.new ha))) ⟨a, v, rfl, new_view R1 ha upd_same, o1.mono (vw_up (Same.new ha))⟩⟩
end
/-! ### a list whose address is known: it is handed in, told back, and changed -/
def idMo (v : V) (x : PyData) : Mo := ⟨fun u W => u = v ∧ Dn W u x, fun S ⟨e, h⟩ => ⟨e, Dn.mono S h⟩⟩
theorem idMo_isd {v : V} {x : PyData} : Isd (.p (idMo v x)) x := .p _ _ fun W u h => h.2
section
variable {c : Fr} {A : Am} {ρ ρ' ρ1 ρ2 : List Sl} {σ : L2.St} {H H' : Hp} {te ta tb ti : TE} {s s' : Sl} {x y : PyData} {i j k m : Nat} {tr : TA} {xs ys : List PyData} {ss : List Sl} {K : KK} {a : Addr} {KF : PySem.W.Frag}
/-- the list is data for as long as it is lent -/
theorem Rp.lent (R : Rp c A ρ σ H) (h : ρ[i]? = some (.la a xs)) : ∃ Z : Addr → Prop, ZOk Z H ∧ Same (vw c.Z A H) (hz Z H) ∧ Dn (hz Z H) (.ref a) (.list xs) ∧ ¬ Z a ∧
    (∀ (H' : Hp) b o, b ≠ a → hz Z H' b = some o → vw c.Z A H' b = some o) := by
  obtain ⟨vs, e, e1, e2, dx⟩ := R.sl i _ h
  have na : ¬ zz c.Z (aset A i none) a := by
    rintro (z | ⟨j, z⟩)
    · exact R.off _ _ e z
    · by_cases q : j = i
      · rw [q, aset_at] at z
        cases z
      · rw [aset_ne q] at z
        exact q (R.inj _ _ _ z e)
  have S : Same (vw c.Z A H) (hz (zz c.Z (aset A i none)) H) := by
    rw [hz_eq]
    exact vw_land
  refine ⟨zz c.Z (aset A i none), ⟨?_, fun b t => Or.inl (R.tz b t), ?_⟩, S, .lst (hz_mk na e2) (DnAll.mono S dx), na, fun H' b o nb z => ?_⟩
  · rintro b (z | ⟨j, z⟩)
    · exact R.there z
    · by_cases q : j = i
      · rw [q, aset_at] at z
        cases z
      · rw [aset_ne q] at z
        exact R.live _ _ z
  · rw [hz_eq] at S ⊢
    exact R.tb.mono S fun _ _ => rfl
  · rw [hz_eq] at z
    obtain ⟨h1, h2, h3⟩ := vw_some z
    refine vw_mk h1 (fun j w => ?_) h3
    by_cases q : j = i
    · rw [q, e] at w
      exact nb (Option.some.inj w).symm
    · exact h2 j (by rw [aset_ne q]; exact w)
theorem Rp.vwLent (R : Rp c A ρ σ H) {Z : Addr → Prop} (SS : Aft Z H H') : Same (vw c.Z A H) (vw c.Z A H') := fun b o e => by
  obtain ⟨h1, h2, h3⟩ := vw_some e
  exact vw_mk h1 h2 (SS.same b o h3 fun t => h1 (R.tz b t))
theorem Rp.upLent (R : Rp c A ρ σ H) {Z : Addr → Prop} {vs : List V} (e : A i = some a) (eH : H a = some (.lst vs)) (back : ∀ (H' : Hp) b o, b ≠ a → hz Z H' b = some o → vw c.Z A H' b = some o) (SS : Aft Z H H') : Rp c A ρ σ H' := by
  refine R.upA ⟨SS.same, ?_⟩
  rw [hz_eq]
  intro p hp
  obtain ⟨ps, g1, g2, g3⟩ := SS.tb p hp
  refine ⟨ps, g1, g2, fun pos cv h => ?_⟩
  obtain ⟨cc, k1, k2⟩ := g3 pos cv h
  refine ⟨cc, k1, back H' cc _ (fun q => ?_) k2⟩
  have k3 := (hz_some k2).2
  rw [q, SS.same _ _ eH (R.nt e)] at k3
  have k4 := Option.some.inj k3
  unfold LamX.CodeO at k4
  cases k4
theorem evp_lend4 {T : List Sl → (Rv → Prop) → Prop} {E : XK} {i1 i2 i3 i4 : Nat} {x1 x2 x4 : PyData} {P : Mo} (h1 : ρ[i1]? = some (.d x1)) (h2 : ρ[i2]? = some (.d x2)) (h3 : ρ[i3]? = some (.la a xs)) (h4 : ρ[i4]? = some (.d x4))
    (g : ∀ v2 v4, ∃ S : Mo, T [.d x1, .p (idMo v2 x2), .p (idMo (.ref a) (.list xs)), .p (idMo v4 x4)] (fun r => r = .p S) ∧ ∀ u (W W1 : Hp), (∀ b o, b ≠ a → W1 b = some o → W b = some o) → (∃ vs, W1 a = some (.lst vs)) → Dn W v2 x2 → Dn W v4 x4 → S.P u W1 → P.P u W) :
    Ev (tCall (spD 4 T) [] E (tCons (tVar i1) (tCons (tVar i2) (tCons (tVar i3) (tCons (tVar i4) tNil))))) ρ (.p P) ρ := fun c A σ H Q R f q => by
  obtain ⟨_, v1, e1, d1⟩ := R.sl _ _ h1
  obtain ⟨_, v2, e2, d2⟩ := R.sl _ _ h2
  obtain ⟨vs3, e3', e3, eH, d3⟩ := R.sl _ _ h3
  obtain ⟨_, v4, e4, d4⟩ := R.sl _ _ h4
  obtain ⟨Z, hZ, S0, da, na, back⟩ := R.lent h3
  obtain ⟨S, hT, conv⟩ := g v2 v4
  refine ⟨v1, e1, v2, e2, .ref a, e3, v4, e4, Z, _, _, hZ, ?_, rfl, hT, fun r v H' hr SS o => ?_⟩
  · exact ⟨Dn.mono S0 d1, ⟨rfl, Dn.mono S0 d2⟩, ⟨rfl, da⟩, ⟨rfl, Dn.mono S0 d4⟩, trivial⟩
  · subst hr
    have o : S.P v (hz Z H') := o
    have R' := R.upLent e3' eH back SS
    have up := R.vwLent SS
    exact q v A H' R' f up (conv v _ _ (back H') ⟨vs3, hz_mk na (SS.same _ _ eH (R.nt e3'))⟩ (Dn.mono up d2) (Dn.mono up d4) o)
/-- such a list changes -/
theorem Rp.mutA (R : Rp c A ρ σ H) {vs : List V} (h : ρ[i]? = some (.la a ys)) (dx : DnAll (vw c.Z A H) vs xs) : Rp c A (ρ.set i (.la a xs)) σ (upd H a (.lst vs)) := by
  obtain ⟨vs', e, e2, e3, _⟩ := R.sl i _ h
  have hv : vw c.Z A (upd H a (.lst vs)) = vw c.Z A H := vw_mut e
  refine ⟨by rw [List.length_set, R.len], by rw [List.length_set]; exact R.sz, R.inj, R.off, ?_, ?_, ?_, R.bor, ?_, R.tz, by rw [hv]; exact R.tb.mono (Same.refl _) (R.tb.upd_ (R.nt e))⟩
  · intro j b z
    by_cases q : b = a
    · rw [q, upd_same]
      simp
    · rw [upd_ne q]
      exact R.live _ _ z
  · intro b z t
    have nb : b ≠ a := fun q => R.off _ _ e (q ▸ z)
    rw [upd_ne nb]
    exact R.keep b z t
  · rw [hv]
    exact R.old
  · intro j t z
    rw [hv]
    by_cases q : j = i
    · subst q
      have lt := (List.getElem?_eq_some_iff.mp h).1
      rw [List.getElem?_set_self lt] at z
      cases z
      exact ⟨vs, e, e2, upd_same, dx⟩
    · rw [List.getElem?_set_ne (Ne.symm q)] at z
      refine (R.sl j t z).mono (Same.refl _) fun b ws e' hb => ?_
      have nb : b ≠ a := fun eb => q (R.inj _ _ _ e' (eb ▸ e))
      rw [upd_ne nb]
      exact hb
theorem sm_appA {n : Int} (h0 : ρ[k]? = some (.la a xs)) (len : xs.length < sizeLine) (q : K.nx (ρ.set k (.la a (xs ++ [.int n])))) : Sm (tDrop (tBM KF "list" rAppend (tVar k) (tCons (tC (.int n)) tNil))) ρ K := fun c A σ H D R f dk => by
  obtain ⟨vs, e, e1, e2, dx⟩ := R.sl k _ h0
  exact ⟨_, e1, Or.inl ⟨rfl, vs, SqL.of e2⟩, a, vs, .int n, rfl, rfl, e2, by rw [dx.length]; exact len, dk.nx _ _ _ _ q (R.mutA h0 (dx.snoc (.int n))) f⟩
/-- a slot that is kept for a new list -/
theorem Rp.keepA (R : Rp c A ρ σ H) {vs : List V} (i0 : i ≠ 0) (hi : i < ρ.length) (e : A fl = some a) (ha : H a = some (.lst vs)) (dx : DnAll (vw c.Z A H) vs xs) : Rp c (aset (aset A i (some a)) fl none) (ρ.set i (.wa a xs)) σ H := by
  have B := R.setL i0 hi e ha dx
  have ne : i ≠ fl := by have := R.sz; omega
  refine ⟨by have := B.len; rw [List.length_set, List.length_set] at this; rw [List.length_set]; exact this, by have := B.sz; rw [List.length_set] at this ⊢; exact this, B.inj, B.off, B.live, B.keep, B.old, B.bor, (fun j t z => ?_), B.tz, B.tb⟩
  by_cases q : j = i
  · subst q
    rw [List.getElem?_set_self hi] at z
    cases z
    obtain ⟨a', vs', e1, e2, e3, d⟩ := B.sl j (.l xs) (List.getElem?_set_self hi)
    rw [aset_ne ne, aset_at] at e1
    cases e1
    rw [ha] at e3
    cases e3
    exact ⟨vs, by rw [aset_ne ne, aset_at], ha, d⟩
  · rw [List.getElem?_set_ne (Ne.symm q)] at z
    have := B.sl j t (by rw [List.getElem?_set_ne (Ne.symm q)]; exact z)
    rw [List.getElem?_set_ne (Ne.symm q)] at this
    exact this
/-- it gets it -/
theorem Rp.fillA (R : Rp c A ρ σ H) (h : ρ[i]? = some (.wa a xs)) : Rp c A (ρ.set i (.la a xs)) (σ.set i (some (.ref a))) H := by
  obtain ⟨vs, e, e2, dx⟩ := R.sl i _ h
  have lt := (List.getElem?_eq_some_iff.mp h).1
  refine ⟨by rw [List.length_set, List.length_set, R.len], by rw [List.length_set]; exact R.sz, R.inj, R.off, R.live, R.keep, R.old, R.bor, (fun j t z => ?_), R.tz, R.tb⟩
  by_cases q : j = i
  · subst q
    rw [List.getElem?_set_self lt] at z
    cases z
    rw [List.getElem?_set_self (by rw [R.len]; exact lt)]
    exact ⟨vs, e, rfl, e2, dx⟩
  · rw [List.getElem?_set_ne (Ne.symm q)] at z ⊢
    exact R.sl j t z
/-- a display with a new list at place k, for which slot i is kept -/
def Ew (ta : TA) (ρ : List Sl) (i k m : Nat) (xs : List PyData) : Prop := ∀ (c : Fr) (A : Am) (σ : L2.St) (H : Hp) (Q : List V → Hp → Prop), Rp c A ρ σ H → A fl = none →
  (∀ a vs A' H', Rp c A' (ρ.set i (.wa a xs)) σ H' → A' fl = none → vs.length = m → vs[k]? = some (.ref a) → Q vs H') → ta σ H Q
theorem ew_skip (h : Ev te ρ (.d x) ρ) (g : Ew tr ρ i k m xs) : Ew (tCons te tr) ρ i (k + 1) (m + 1) xs := fun c A σ H Q R f q =>
  h c A σ H _ R f fun v A1 H1 R1 f1 _ _ => g c A1 σ H1 _ R1 f1 fun a vs A2 H2 R2 f2 l e => q a (v :: vs) A2 H2 R2 f2 (by rw [List.length_cons, l]) e
theorem ew_here (h : El te ρ xs ρ) (g : ∀ a, Eds tr (ρ.set i (.wa a xs)) ys (ρ.set i (.wa a xs))) (i0 : i ≠ 0 := by decide) (hi : i < ρ.length := by simp [uns]) : Ew (tCons te tr) ρ i 0 (ys.length + 1) xs := fun c A σ H Q R f q =>
  h c A σ H _ R f fun a vs A1 H1 R1 f1 _ e dx => g a c _ σ H1 _ (R1.keepA i0 hi f1 e dx) aset_at fun us A2 H2 R2 f2 _ du => q a _ A2 H2 R2 f2 (by rw [List.length_cons, du.length]) rfl
def lstMo (m k : Nat) (a : Addr) : Mo := ⟨fun u W => ∃ b vs, u = .ref b ∧ W b = some (.lst vs) ∧ vs.length = m ∧ vs[k]? = some (.ref a), fun S ⟨b, vs, e, h, r⟩ => ⟨b, vs, e, S _ _ h, r⟩⟩
theorem sm_lstA (h : Ew tr ρ i k m xs) (len : m ≤ sizeLine) (q : ∀ a, K.nx ((ρ.set i (.wa a xs)).set j (.p (lstMo m k a)))) (j0 : j ≠ 0 := by decide) (j1 : j ≠ fl := by decide) : Sm (tAsg (tLst tr) (gName j)) ρ K := fun c A σ H D R f dk =>
  h c A σ H _ R f fun a vs A1 H1 R1 f1 l e => ⟨by rw [l]; exact len, fun b hb => by
    have R2 := R1.up (Same.new (o := .lst vs) hb)
    exact dk.nx _ _ _ _ (q a) (R2.set (v := .ref b) j0 ⟨rfl, _, rfl, b, vs, rfl, new_view R1 hb upd_same, l, e⟩) (by rw [aset_ne j1.symm]; exact f1)⟩
/-- it is picked of that display and one more -/
theorem sm_pickA {z : Int} (h5 : ρ[j]? = some (.p (lstMo m k a))) (he : El te ρ ys ρ) (hi : Ev ti ρ (.d (.int z)) ρ1) (h6 : ρ1[i]? = some (.wa a xs)) (ez : z = (k : Int)) (len : m + ys.length ≤ sizeLine) (q : K.nx (ρ1.set i (.la a xs))) :
    Sm (tAsg (tOp (rIxL KF) (tOp rCat (tVar j) te) ti) (gName i)) ρ K := fun c A σ H D R f dk => by
  obtain ⟨_, u, e, b, vs, eu, eb, l, ek⟩ := R.sl j _ h5
  subst eu
  refine ⟨_, e, he c A σ H _ R f fun b2 us A1 H1 R1 f1 S1 e1 du => ?_⟩
  refine ⟨b, b2, vs, us, rfl, rfl, vw_sub _ _ (S1 _ _ eb), e1, by rw [l, du.length]; exact len, fun p hp => ?_⟩
  have R2 := R1.land.up (Same.new (o := .lst (vs ++ us)) hp)
  refine hi c _ σ _ _ R2 aset_at fun w A3 H3 R3 f3 S3 o3 => ?_
  obtain rfl := int_v o3
  have ep : H3 p = some (.lst (vs ++ us)) := vw_sub _ _ (S3 _ _ (new_view R1.land hp upd_same))
  have lt : k < vs.length := (List.getElem?_eq_some_iff.mp ek).1
  have at' : (vs ++ us)[k]? = some (.ref a) := by rw [List.getElem?_append_left lt]; exact ek
  refine ⟨p, _, z, .ref a, rfl, rfl, SqL.of ep, ?_, dk.nx _ _ _ _ q (R3.fillA h6) f3⟩
  subst ez
  exact at_of rfl at'
/-! what is only looked at -/
def Pr (te : TE) (σ : L2.St) (H : Hp) (s : Sl) : Prop := ∀ H1, Same H H1 → ∀ Q : VK, (∀ v H2, Same H1 H2 → ArOk H2 v s → Q v H2) → te σ H1 Q
def Prs (ta : TA) (σ : L2.St) (H : Hp) (ss : List Sl) : Prop := ∀ H1, Same H H1 → ∀ Q : List V → Hp → Prop, (∀ vs H2, Same H1 H2 → ArAll H2 vs ss → Q vs H2) → ta σ H1 Q
theorem pr_var {v : V} (e : σ[i]? = some (some v)) (h : ArOk H v s) : Pr (tVar i) σ H s := fun H1 S Q q => ⟨v, e, q v H1 (Same.refl _) (h.mono S)⟩
theorem pr_c {v : V} (h : ∀ W, ArOk W v s) : Pr (tC v) σ H s := fun H1 S Q q => q v H1 (Same.refl _) (h _)
theorem prs_nil : Prs tNil σ H [] := fun H1 S Q q => q [] H1 (Same.refl _) trivial
theorem prs_cons (h : Pr te σ H s) (g : Prs tr σ H ss) : Prs (tCons te tr) σ H (s :: ss) := fun H1 S Q q => h H1 S _ fun v H2 S2 o => g H2 (S.trans S2) _ fun vs H3 S3 os => q _ H3 (S2.trans S3) ⟨o.mono S3, os⟩
theorem pr_fn {r : List V → Hp → VK → Prop} (h : Prs tr σ H ss) (g : FV r ss s) : Pr (tCB r tr) σ H s := fun H1 S Q q => h H1 S _ fun vs H2 S2 os => g H2 H2 vs Q (Same.refl _) os fun u H3 S3 o => q u H3 (S2.trans S3) (o H3 S3 fun _ _ _ e => e)
theorem pr_op {r : R2} {t : Sl} (h : Pr ta σ H s) (h' : Pr tb σ H s') (g : FV2 r s s' t) : Pr (tOp r ta tb) σ H t := fun H1 S Q q => h H1 S _ fun v H2 S2 o => h' H2 (S.trans S2) _ fun w H3 S3 o' => g H3 H3 v w Q (Same.refl _) (o.mono S3) o' fun u H4 S4 o2 => q u H4 ((S2.trans S3).trans S4) (o2 H4 S4 fun _ _ _ e => e)
theorem pr_pair {z : Str} (h : Pr te σ H (.d x)) : Pr (tTup (tCons (tC (.str z)) (tCons te tNil))) σ H (.d (.tuple [.str z, x])) := fun H1 S Q q => h H1 S _ fun v H2 S2 o => ⟨(by show 2 ≤ sizeLine; rw [sizeLine_eq]; decide), fun b hb => q _ _ (S2.trans (Same.new hb)) (.tup upd_same (.cons (.str _) (.one (Dn.mono (Same.new hb) o))))⟩
theorem et_pr {b : Bool} (h : ∀ (c : Fr) (A : Am) (σ : L2.St) (H : Hp), Rp c A ρ σ H → Pr te σ H (.d (.bool b))) : Et (tTest te) ρ b ρ := fun c A σ H Q R f q =>
  h c A σ H R H (Same.refl _) _ fun v H2 S o => ⟨b, bool_v o, q A H2 (R.up S) f (vw_up S)⟩
theorem et_prB {b : Bool} (h : ∀ (c : Fr) (A : Am) (σ : L2.St) (H : Hp), Rp c A ρ σ H → Pr te σ H (.d (.bool b))) : Et (tB te) ρ b ρ := fun c A σ H Q R f q =>
  h c A σ H R H (Same.refl _) _ fun v H2 S o => ⟨b, bool_v o, q A H2 (R.up S) f (vw_up S)⟩
/-- how such a list stands in the whole heap -/
theorem Rp.fullA (R : Rp c A ρ σ H) (h : ρ[i]? = some (.la a xs)) : σ[i]? = some (some (.ref a)) ∧ Dn H (.ref a) (.list xs) := by
  obtain ⟨vs, e, e1, e2, dx⟩ := R.sl i _ h
  exact ⟨e1, .lst e2 (DnAll.mono vw_sub dx)⟩
end
end OW
namespace KA
open PySem PySem.Spec PyProof.Rows L2
/-- a call of a def that is promised where nothing is being shown -/
theorem pe_callG {X : Cx} {k : Nat} {f : Addr} {fd : FuncData} {ps : List Str} {sp : Sp} {x : Str} {p pos : Pos} {e : Expr} {es : List Expr} {t : TA} (F : FnG X.prog X.w X.K X.mg X.base CX0 k f fd ps sp) (quiet : X.A.guards = some []) (room : Room k X.A) (glob : Gl X x) (is : X.mg x = some (.ref f))
    (kept : PySem.W.keepIn X.K (.ref f) = true) (bind : Binds X.K fd ps []) (args : PA X (e :: es) t) (nd : (x == ("__debug__" : Str)) = false := by decide) (st : starEach (e :: es) X.env = (false, eval e X.env) :: starEach es X.env := by rfl) (plain : (backTo pos (starEach es X.env)).any (·.1) = false := by rfl) :
    PE X (.Call (.Name x p) (e :: es) [] pos) (tCall sp [] C8.E0 t) := by
  refine ⟨fun pins s σ H Q I want => ?_⟩
  refine wpAny_Call_Name_kw (ld_glob I glob is ?_ nd)
  refine PySem.W.callWith_K (h₀ := X.base) I.ok.mod.kin kept (thn (args.run pos pins s σ H _ I want) ?_) st plain
  rintro us t1 ⟨vs, G, J, rv, q⟩
  rw [List.append_nil] at q
  have many : us.length = ps.length := by rw [← rv.length]; exact F.len _ _ _ _ q
  have bt := bind t1 us J.kIn (by rw [List.append_nil]; exact many)
  rw [List.append_nil] at bt
  refine ⟨J.kIn, wpAny_call (codeAny_mono (F.run X.A X.stack t1 G ⟨us, []⟩ us vs Q _ quiet room J.env0 bt rv q) fun r t2 z => ?_)⟩
  cases r with
  | error er => exact False.elim z
  | ok fl =>
    cases fl with
    | ret u => exact J.after z
    | next => exact False.elim z
    | brk => exact False.elim z
    | cont => exact False.elim z
end KA
namespace OW
open PySem PySem.Spec PyProof.Rows L2 KA
variable [Tbs]
section
variable {P : Program} {w : World} {K : PySem.W.Frag} {mg : Str → Option Value} {base : Heap}
theorem fn_bG {x qual : Str} {st : Stmt} {f : Addr} {fd : FuncData} {N ps : List Str} {k n : Nat} {T : List PyData → List Sl → (Rv → List PyData → Prop) → Prop} (F : Fun K x qual st f fd) (S : FnScope N ps (defScope st)) (hn : ps.length = n + 1 := by rfl) (hN : n + 1 + N.length < fl := by decide)
    (body : ∀ (cdv : Value) (A : Around) (outer : List Env) (s : Shared) (H : Hp) (E : XK), A.guards = some [] → Room k (A.deeper (envOfC qual (defScope st) s.heap.objs.size f cdv)) →
      ∃ t, PSs (cxOf CX0 P w K mg base N qual (defScope st) f cdv A outer s H E) (defBody st) t ∧ ∀ ct as Kr, as.length = n → T ct as Kr →
        Sm t (.l ct :: (as ++ uns (N.length - (n + 1)))) { nx := fun ρ => ∃ c', ρ[0]? = some (.l c') ∧ Kr (.d .none) c', rt := fun r ρ => ∃ c', ρ[0]? = some (.l c') ∧ Kr r c' }) :
    FnG P w K mg base CX0 (k + 1) f fd ps (spB n T) := by
  refine fnG F S (fun vs H Q E h => ?_) (fun cdv A outer s H vs Q E g hr h => ?_)
  · obtain ⟨Z, p, cs, ct, ws, as, Kr, rfl, hp, hZ, ep, dc, ha, hl, _⟩ := h
    rw [List.length_cons, ha.length, hl, hn]
  · obtain ⟨Z, p, cs, ct, ws, as, Kr, rfl, hp, hZ, ep, dc, ha, hl, hT, go⟩ := h
    obtain ⟨t, ht, hb⟩ := body cdv A outer s H E g hr
    refine ⟨t, ht, hb ct as Kr hl hT ⟨fun a => Z a ∧ a ≠ p, some p, H, hz Z H⟩ _ _ H _ (rp_startB hN hp hZ ep dc ha hl) rfl ?_⟩
    have fin : ∀ {A' : Am} {ρ' : List Sl} {σ' : L2.St} {H' : Hp} {c' : List PyData} {r : Rv} {v : V}, Rp ⟨fun a => Z a ∧ a ≠ p, some p, H, hz Z H⟩ A' ρ' σ' H' → ρ'[0]? = some (.l c') → Kr r c' → RvAt ⟨fun a => Z a ∧ a ≠ p, some p, H, hz Z H⟩ A' H' v r → Q v H' := by
      intro A' ρ' σ' H' c' r v R h0 hk o
      obtain ⟨a, cs', e1, e2, e3, dc'⟩ := R.sl 0 _ h0
      have := R.bor p rfl
      rw [e1] at this
      cases this
      have up : Same (vw (fun b => Z b ∧ b ≠ p) A' H') (hz Z H') := fun b u e => by
        obtain ⟨h1, h2, h3⟩ := vw_some e
        refine hz_mk (fun z => h1 ⟨z, fun q => h2 0 (by rw [q]; exact e1)⟩) h3
      refine go r c' cs' v H' hk e3 (DnAll.mono up dc') ⟨fun b z n t => (R.keep b ⟨z, n⟩ t).2, R.tb.mono up fun _ _ => rfl⟩ (fun b u e => up _ _ (R.old _ _ e)) ?_
      refine rv_out (fun b u e nz _ => R.old _ _ (hz_mk nz e)) (fun b z => ?_) R.inj R.off R.bor o
      by_cases q : b = p
      · exact Or.inr ⟨0, by decide, by rw [q]; exact e1⟩
      · exact Or.inl ⟨z, q⟩
    refine ⟨fun ρ' A' σ' H' hk R f => ?_, fun r ρ' v A' σ' H' hk R o => ?_, fun _ _ _ _ h => h.elim, fun _ _ _ _ h => h.elim⟩
    · obtain ⟨c', h0, hk⟩ := hk
      exact fin R h0 hk ⟨f, .non⟩
    · obtain ⟨c', h0, hk⟩ := hk
      exact fin R h0 hk o
end
end OW
set_option Elab.async false
set_option linter.unusedVariables false
set_option linter.unusedSectionVars false
set_option maxRecDepth 100000
set_option maxHeartbeats 2000000
/-! the code tables of this row -/
noncomputable instance : OW.Tbs := ⟨[(148, fun _ _ => "raised_by.<locals>.turn"), (155, fun _ _ => "given_at.<locals>.turn")]⟩
namespace KP
open PySem PySem.Spec PyProof.Rows L2 KA OW
/-! ### terms taken apart -/
abbrev sPartsOf : Stmt := top 7
abbrev nPartsOf : List Str := ["term"]
theorem scPartsOf : FnScope nPartsOf ["term"] (defScope sPartsOf) := ⟨rfl, rfl, rfl, by decide +kernel, rfl, by decide +kernel, by decide +kernel⟩
abbrev sPassed : Stmt := top 8
abbrev nPassed : List Str := ["word", "at"]
theorem scPassed : FnScope nPassed ["word", "at"] (defScope sPassed) := ⟨rfl, rfl, rfl, by decide +kernel, rfl, by decide +kernel, by decide +kernel⟩
abbrev sInnerTerms : Stmt := top 9
abbrev nInnerTerms : List Str := ["term", "found", "waiting", "part", "above", "below", "at"]
theorem scInnerTerms : FnScope nInnerTerms ["term"] (defScope sInnerTerms) := ⟨rfl, rfl, rfl, by decide +kernel, rfl, by decide +kernel, by decide +kernel⟩
abbrev sAllSpots : Stmt := top 10
abbrev nAllSpots : List Str := ["term", "found", "waiting", "part", "spot", "below", "at"]
theorem scAllSpots : FnScope nAllSpots ["term"] (defScope sAllSpots) := ⟨rfl, rfl, rfl, by decide +kernel, rfl, by decide +kernel, by decide +kernel⟩
def partsD : PyData → List PyData
  | .tuple (.str wd :: ds) => if (parts wd).isSome = true then ds else []
  | _ => []
def passD (wd : Str) (i : Int) : Int := if i = 1 ∧ (wd = "all" ∨ wd = "fun") then 1 else 0
def wdD : PyData → Str
  | .tuple (.str wd :: _) => wd
  | _ => ""
def spotT (p : List Nat) : PyData := .tuple (p.map fun i : Nat => .int (i : Int))
/-- a part: its spot, it, how many binders stand above it -/
abbrev Row3 := List Nat × PyData × Int
mutual
def wk : PyData → List Nat → Int → List Row3
  | .tuple (.str w :: ds), p, u => (p, .tuple (.str w :: ds), u) :: (if (parts w).isSome = true then wkL ds w p u 0 else [])
  | d, p, u => [(p, d, u)]
def wkL : List PyData → Str → List Nat → Int → Nat → List Row3
  | [], _, _, _, _ => []
  | d :: ds, w, p, u, i => wk d (p ++ [i]) (u + passD w (i : Int)) ++ wkL ds w p u (i + 1)
end
def push3 : List PyData → Str → List Nat → Int → Nat → List Row3
  | [], _, _, _, _ => []
  | e :: es, w, p, u, i => (p ++ [i], e, u + passD w (i : Int)) :: push3 es w p u (i + 1)
theorem tm_shape {d : PyData} (h : tm d = true) : ∃ wd ds, d = .tuple (.str wd :: ds) := by
  cases hT : isTupD d with
  | false =>
    rw [isTup_false hT] at h
    cases h
  | true =>
    obtain ⟨ds, rfl⟩ : ∃ ds, d = .tuple ds := by cases d <;> first | exact ⟨_, rfl⟩ | cases hT
    cases ds with
    | nil => simp [tm] at h
    | cons e ds =>
      cases hS : isStrD e with
      | false =>
        rw [isStr_false hS] at h
        cases h
      | true =>
        obtain ⟨wd, rfl⟩ : ∃ wd, e = .str wd := by cases e <;> first | exact ⟨_, rfl⟩ | cases hS
        exact ⟨wd, ds, rfl⟩
theorem parts_tm {d : PyData} (h : tm d = true) : tmAll (partsD d) = true := by
  obtain ⟨wd, ds, rfl⟩ := tm_shape h
  show tmAll (if (parts wd).isSome = true then ds else []) = true
  cases hp : parts wd with
  | none => rfl
  | some n =>
    rw [tm_parts hp] at h
    simp only [Bool.and_eq_true] at h
    exact h.2
theorem tmAll_mem : ∀ {ds : List PyData} {d : PyData}, tmAll ds = true → d ∈ ds → tm d = true
  | e :: ds, d, f, h => by
    have : tm e = true ∧ tmAll ds = true := by simpa only [tmAll, Bool.and_eq_true] using f
    rcases List.mem_cons.mp h with rfl | h
    · exact this.1
    · exact tmAll_mem this.2 h
theorem wk_eq {d : PyData} (h : tm d = true) (p : List Nat) (u : Int) : wk d p u = (p, d, u) :: wkL (partsD d) (wdD d) p u 0 := by
  obtain ⟨wd, ds, rfl⟩ := tm_shape h
  show (p, PyData.tuple (.str wd :: ds), u) :: (if (parts wd).isSome = true then wkL ds wd p u 0 else []) = _ :: wkL (if (parts wd).isSome = true then ds else []) wd p u 0
  split <;> rfl
theorem wkL_push : ∀ (ds : List PyData) (w : Str) (p : List Nat) (u : Int) (i : Nat), wkL ds w p u i = (push3 ds w p u i).flatMap fun q => wk q.2.1 q.1 q.2.2
  | [], _, _, _, _ => rfl
  | d :: ds, w, p, u, i => by
    show wk d (p ++ [i]) _ ++ wkL ds w p u (i + 1) = _
    rw [wkL_push ds w p u (i + 1)]
    rfl
theorem push3_len : ∀ (ds : List PyData) (w : Str) (p : List Nat) (u : Int) (i : Nat), (push3 ds w p u i).length = ds.length
  | [], _, _, _, _ => rfl
  | _ :: ds, w, p, u, i => congrArg (· + 1) (push3_len ds w p u (i + 1))
theorem push3_at : ∀ {ds : List PyData} {w : Str} {p : List Nat} {u : Int} {i k : Nat} {e : PyData}, ds[k]? = some e → (push3 ds w p u i)[k]? = some (p ++ [i + k], e, u + passD w ((i + k : Nat) : Int))
  | d :: ds, w, p, u, i, 0, e, h => by
    cases h
    rfl
  | d :: ds, w, p, u, i, k + 1, e, h => by
    have := push3_at (w := w) (p := p) (u := u) (i := i + 1) (k := k) (ds := ds) h
    show (push3 ds w p u (i + 1))[k]? = _
    rw [this, show i + 1 + k = i + (k + 1) by omega]
theorem push3_mem : ∀ {ds : List PyData} {w : Str} {p : List Nat} {u : Int} {i : Nat} {q : Row3}, q ∈ push3 ds w p u i → q.2.1 ∈ ds
  | d :: ds, w, p, u, i, q, h => by
    rcases List.mem_cons.mp h with rfl | h
    · exact List.mem_cons_self
    · exact List.mem_cons_of_mem _ (push3_mem h)
theorem push3_plen : ∀ {ds : List PyData} {w : Str} {p : List Nat} {u : Int} {i : Nat} {q : Row3}, q ∈ push3 ds w p u i → q.1.length = p.length + 1
  | d :: ds, w, p, u, i, q, h => by
    rcases List.mem_cons.mp h with rfl | h
    · show (p ++ [i]).length = p.length + 1
      rw [List.length_append, List.length_singleton]
    · exact push3_plen h
theorem mem_nodes : ∀ {ds : List PyData} {d : PyData}, d ∈ ds → nodes d ≤ nodesAll ds
  | e :: ds, d, h => by
    show nodes d ≤ nodes e + nodesAll ds
    rcases List.mem_cons.mp h with rfl | h
    · omega
    · have := mem_nodes h
      omega
def load3 (ps : List Row3) : Nat := (ps.map fun q => nodes q.2.1).sum
theorem load3_append (a b : List Row3) : load3 (a ++ b) = load3 a + load3 b := by unfold load3; rw [List.map_append, List.sum_append]
theorem load3_rev (a : List Row3) : load3 a.reverse = load3 a := by
  unfold load3
  rw [List.map_reverse, List.sum_reverse]
theorem load3_push : ∀ (ds : List PyData) (w : Str) (p : List Nat) (u : Int) (i : Nat), load3 (push3 ds w p u i) = nodesAll ds
  | [], _, _, _, _ => rfl
  | d :: ds, w, p, u, i => by
    show nodes d + load3 (push3 ds w p u (i + 1)) = nodes d + nodesAll ds
    rw [load3_push ds w p u (i + 1)]
theorem load3_len (ps : List Row3) : ps.length ≤ load3 ps := by
  induction ps with
  | nil => exact Nat.le_refl _
  | cons q ps ih =>
    have := nodes_pos q.2.1
    show ps.length + 1 ≤ nodes q.2.1 + load3 ps
    omega
theorem parts_nodes {d : PyData} (h : tm d = true) : nodesAll (partsD d) + 1 ≤ nodes d := by
  obtain ⟨wd, ds, rfl⟩ := tm_shape h
  show nodesAll (if (parts wd).isSome = true then ds else []) + 1 ≤ nodesAll (.str wd :: ds) + 1
  have e : nodesAll (.str wd :: ds) = 1 + nodesAll ds := rfl
  split
  · omega
  · show 0 + 1 ≤ _
    omega
theorem parts_depth {d e : PyData} (h : e ∈ partsD d) (t : tm d = true) : e.depth < d.depth := by
  obtain ⟨wd, ds, rfl⟩ := tm_shape t
  have m : e ∈ ds := by
    have h : e ∈ (if (parts wd).isSome = true then ds else []) := h
    split at h
    · exact h
    · cases h
  have le : ∀ {es : List PyData}, e ∈ es → e.depth ≤ PyData.depthAll es := by
    intro es
    induction es with
    | nil => intro h; cases h
    | cons a es ih =>
      intro h
      show e.depth ≤ max a.depth (PyData.depthAll es)
      rcases List.mem_cons.mp h with rfl | h
      · exact Nat.le_max_left _ _
      · exact Nat.le_trans (ih h) (Nat.le_max_right _ _)
  have h2 : e.depth ≤ PyData.depthAll (.str wd :: ds) := le (List.mem_cons_of_mem _ m)
  show e.depth < PyData.depthAll (.str wd :: ds) + 1
  omega
section
variable {P : Program} {w : World} {K : PySem.W.Frag} {mg : Str → Option Value} {base : Heap}
theorem fv_parted {a : Addr} {z : Str} (pn : ∀ z, ∃ r, PySem.W.nsIn K a z = some r ∧ RelO ((parts z).map fun n => V.int (n : Int)) r) :
    FV2 (fun x y H Q => ∃ (z : Str) (r : Option Value), x = .str z ∧ y = .ref a ∧ PySem.W.nsIn K a z = some r ∧ Q (.bl r.isSome) H) (.d (.str z)) (.p (isV (.ref a))) (.d (.bool (parts z).isSome)) := by
  obtain ⟨r, h1, h2⟩ := pn z
  have e : r.isSome = (parts z).isSome := by
    cases hp : parts z with
    | none =>
      rw [hp] at h2
      cases r with
      | none => rfl
      | some u => exact h2.elim
    | some n =>
      rw [hp] at h2
      cases r with
      | none => exact h2.elim
      | some u => rfl
  exact fv2_s (dB (parts z).isSome) fun W H v u Q S o o' q => ⟨z, r, str_v o, isv_v o', h1, by rw [e]; exact q⟩
def tPartsOf : List Sl → (Rv → Prop) → Prop := fun as Kr => ∃ wd ds, as = [.d (.tuple (.str wd :: ds))] ∧ Kr (.d (.tuple (partsD (.tuple (.str wd :: ds)))))
theorem ok_partsof {f : Addr} {fd : FuncData} (F : Fun K "parts_of" "parts_of" sPartsOf f fd) (T : Txt K w mg) : FnOk P w K mg base CX0 1 f fd ["term"] (spD 1 tPartsOf) := by
  obtain ⟨pa, es, en, pm, PD, pn⟩ := T.parted
  refine fn_d F scPartsOf (body := fun cdv A outer s H E hr => ⟨_, pss_cons (ps_if (pt_cmpR (op_in_kd PD) (pe_ix ix_tup (pv 0) pe_int (fun _ _ => rfl)) (pe_glob (v := .ref pa) rfl pm rfl) rfl) (pss_one (ps_ret (pe_slice sl_tupA (pv 0) (po_some pe_int) po_none))) pss_nil) (pss_one (ps_ret (pe_tup pa_nil))), ?_⟩)
  rintro as Kr _ ⟨wd, ds, rfl, k⟩
  have e0 : partsD (.tuple (.str wd :: ds)) = if (parts wd).isSome = true then ds else [] := rfl
  rw [e0] at k
  refine sm_seq (sm_if (et_test (ev_op (ev_op (ev_var rfl) ev_int (fv_ixT at0)) ev_cv (fv_parted pn))) (fun h => sm_ret (ev_slA (ev_var rfl) (eo_some ev_int) eo_none) ?_) fun h => sm_next (sm_ret (ev_tup eds_nil) ?_))
  · rw [if_pos h] at k
    rw [show (1 : Int) = ((1 : Nat) : Int) from rfl, cutD_from']
    exact k
  · rw [if_neg (by rw [h]; decide)] at k
    exact k
def tPassed : List Sl → (Rv → Prop) → Prop := fun as Kr => ∃ wd i, as = [.d (.str wd), .d (.int i)] ∧ Kr (.d (.int (passD wd i)))
theorem ok_passed {f : Addr} {fd : FuncData} (F : Fun K "passed" "passed" sPassed f fd) : FnOk P w K mg base CX0 1 f fd ["word", "at"] (spD 2 tPassed) := by
  refine fn_d F scPassed (body := fun cdv A outer s H E hr => ⟨_, pss_cons (ps_if (PW.pt (pw_and (pt_cmpR op_eq (pv 1) pe_int (nomark _)) (pw_and1 (pt_cmpR op_in_seq (pv 0) (pe_tup (pa_cons pe_str (pa_cons pe_str pa_nil))) rfl)))) (pss_one (ps_ret pe_int)) pss_nil) (pss_one (ps_ret pe_int)), ?_⟩)
  rintro as Kr _ ⟨wd, i, rfl, k⟩
  refine sm_seq (sm_if (et_and (et_test (ev_op (ev_var rfl) ev_int fv_eqI)) fun _ => et_test (ev_op (ev_var rfl) (ev_tup (eds_cons ev_str (eds_cons ev_str eds_nil))) (fv_inT (bs := ["all", "fun"])))) (fun h => sm_ret ev_int ?_) fun h => sm_next (sm_ret ev_int ?_))
  · have e : passD wd i = 1 := by
      simp only [Bool.and_eq_true, decide_eq_true_eq, List.any_cons, List.any_nil, Bool.or_false, Bool.or_eq_true, beq_iff_eq] at h
      exact if_pos ⟨h.1, h.2.imp Eq.symm Eq.symm⟩
    rw [e] at k
    exact k
  · have e : passD wd i = 0 := by
      refine if_neg fun z => ?_
      have : (decide (i = 1) && (["all", "fun"] : List Str).any fun b => b == wd) = true := by
        simp only [Bool.and_eq_true, decide_eq_true_eq, List.any_cons, List.any_nil, Bool.or_false, Bool.or_eq_true, beq_iff_eq]
        exact ⟨z.1, z.2.imp Eq.symm Eq.symm⟩
      rw [h] at this
      cases this
    rw [e] at k
    exact k
/-- what stands of the walk while it goes -/
structure Wking (d : PyData) (f ps : List Row3) : Prop where
  t : ∀ q ∈ ps, tm q.2.1 = true ∧ q.1.length + nodes q.2.1 ≤ nodes d
  eq : wk d [] 0 = f ++ ps.reverse.flatMap (fun q => wk q.2.1 q.1 q.2.2)
  ln : f.length + load3 ps ≤ nodes d
theorem Wking.start {d : PyData} (td : tm d = true) : Wking d [] [([], d, 0)] where
  t q hq := by
    rw [List.mem_singleton.mp hq]
    exact ⟨td, by show 0 + nodes d ≤ nodes d; omega⟩
  eq := by
    show _ = [] ++ (wk d [] 0 ++ [])
    rw [List.append_nil, List.nil_append]
  ln := by
    show 0 + (nodes d + 0) ≤ nodes d
    omega
theorem Wking.step {d : PyData} {f qs : List Row3} {q : Row3} (h : Wking d f (qs ++ [q])) : Wking d (f ++ [q]) (qs ++ (push3 (partsD q.2.1) (wdD q.2.1) q.1 q.2.2 0).reverse) ∧ load3 (qs ++ (push3 (partsD q.2.1) (wdD q.2.1) q.1 q.2.2 0).reverse) < load3 (qs ++ [q]) ∧
    f.length + qs.length + (partsD q.2.1).length ≤ nodes d ∧ q.1.length + (partsD q.2.1).length ≤ nodes d ∧ tm q.2.1 = true := by
  obtain ⟨t, eq, ln⟩ := h
  obtain ⟨p, e, u⟩ := q
  have te : tm e = true ∧ p.length + nodes e ≤ nodes d := t _ (List.mem_append_right _ List.mem_cons_self)
  obtain ⟨te, pe⟩ := te
  have lq : load3 (qs ++ [(p, e, u)]) = load3 qs + nodes e := by
    rw [load3_append]
    rfl
  have pn := parts_nodes te
  have len1 := load3_len qs
  have pl := len_nodes (partsD e)
  have ll : load3 (qs ++ (push3 (partsD e) (wdD e) p u 0).reverse) = load3 qs + nodesAll (partsD e) := by rw [load3_append, load3_rev, load3_push]
  rw [lq] at ln
  refine ⟨⟨fun q hq => ?_, ?_, ?_⟩, ?_, ?_, ?_, te⟩
  · rcases List.mem_append.mp hq with hq | hq
    · exact t q (List.mem_append_left _ hq)
    · have hm := List.mem_reverse.mp hq
      refine ⟨tmAll_mem (parts_tm te) (push3_mem hm), ?_⟩
      have n1 : nodes q.2.1 ≤ nodesAll (partsD e) := mem_nodes (push3_mem hm)
      have l1 : q.1.length = p.length + 1 := push3_plen hm
      omega
  · rw [eq, List.reverse_append, List.reverse_append, List.reverse_reverse, List.flatMap_append, List.flatMap_append, ← wkL_push]
    show f ++ ((wk e p u ++ []) ++ _) = _
    rw [List.append_nil, wk_eq te, List.append_assoc]
    rfl
  · show (f ++ [(p, e, u)]).length + load3 (qs ++ (push3 (partsD e) (wdD e) p u 0).reverse) ≤ nodes d
    rw [ll, List.length_append, List.length_singleton]
    omega
  · show load3 (qs ++ (push3 (partsD e) (wdD e) p u 0).reverse) < _
    rw [ll, lq]
    omega
  · show f.length + qs.length + (partsD e).length ≤ nodes d
    omega
  · show p.length + (partsD e).length ≤ nodes d
    omega
theorem Wking.fin {d : PyData} {f : List Row3} (h : Wking d f []) : wk d [] 0 = f := by
  have := h.eq
  rw [show (([] : List Row3).reverse.flatMap fun q => wk q.2.1 q.1 q.2.2) = [] from rfl, List.append_nil] at this
  exact this
def rowS (r : Row3) : PyData := spotT r.1
def rowI (r : Row3) : PyData := .tuple [r.2.1, .int r.2.2]
def itemS (r : Row3) : PyData := .tuple [r.2.1, spotT r.1]
theorem spot_snoc (p : List Nat) (i : Nat) : spotT (p ++ [i]) = .tuple (p.map (fun i : Nat => PyData.int (i : Int)) ++ [.int (i : Int)]) := by
  unfold spotT
  rw [List.map_append]
  rfl
def tAllSpots : List Sl → (Rv → Prop) → Prop := fun as Kr => ∃ d, as = [.d d] ∧ tm d = true ∧ nodes d ≤ 1000000 ∧ Kr (.l ((wk d [] 0).map rowS))
def tInner : List Sl → (Rv → Prop) → Prop := fun as Kr => ∃ d, as = [.d d] ∧ tm d = true ∧ nodes d ≤ 1000000 ∧ Kr (.l ((wk d [] 0).map rowI))
theorem small {n : Nat} (h : n ≤ 1000000) : n < sizeLine := Nat.lt_of_le_of_lt h (by rw [sizeLine_eq]; decide)
theorem ok_allspots {f : Addr} {fd : FuncData} (F : Fun K "all_spots" "all_spots" sAllSpots f fd) (T : Txt K w mg) (Trev : mg "reversed" = none) (C_parts_of : C8.Cal P w K mg base 1 "parts_of" (spD 1 tPartsOf) []) : FnOk P w K mg base CX0 2 f fd ["term"] (spD 1 tAllSpots) := by
  refine fn_d F scAllSpots (body := fun cdv A outer s H E hr => ⟨_, (pss_cons (ps_set (i := 1) scAllSpots.nd rfl (Or.inl rfl) (pe_lst pa_nil))
      (pss_cons (ps_set (i := 2) scAllSpots.nd rfl (Or.inl rfl) (pe_lst (pa_cons (pe_tup (pa_cons (pv 0) (pa_cons (pe_tup pa_nil) pa_nil))) pa_nil)))
      (pss_cons (ps_while PassesOwn.never (pt_truth (pv 2) (by intro _; rfl)) (pss_cons (ps_asg (pe_bm0 PySem.F.plainAttrs_list PySem.F.slot_list_pop PySem.F.type_list_pop mt_pop (pv 2)) (pg_tup rfl (pgs_cons (pg_name (i := 3) scAllSpots.nd rfl (Or.inl rfl)) (pgs_cons (pg_name (i := 4) scAllSpots.nd rfl (Or.inl rfl)) pgs_nil))))
      (pss_cons (ps_expr (pe_bm PySem.F.plainAttrs_list PySem.F.slot_list_append PySem.F.type_list_append mt_append (pv 1) (pa_cons (pv 4) pa_nil)))
      (pss_cons (ps_set (i := 5) scAllSpots.nd rfl (Or.inl rfl) (C8.pe_c C_parts_of hr (by omega) rfl (pa_cons (pv 3) pa_nil)))
      (pss_one (ps_for PassesOwn.never rfl (pi_revR (by rfl) Trev (prg_1 (by rfl) T.range (pe_callB call_len_seq (by rfl) T.len PySem.boot_len (pa_cons (pv 5) pa_nil)))) (pg_name (i := 6) scAllSpots.nd rfl (Or.inl rfl)) (pss_one (ps_expr (pe_bm PySem.F.plainAttrs_list PySem.F.slot_list_append PySem.F.type_list_append mt_append (pv 2) (pa_cons (pe_tup (pa_cons (pe_ix ix_tup (pv 5) (pv 6) (fun _ _ => rfl)) (pa_cons (pe_tup (StX.pa_star (pv 4) (pa_cons (pv 6) pa_nil))) pa_nil))) pa_nil))))))))))
      (pss_one (ps_ret (pv 1)))))), ?_⟩)
  rintro as Kr _ ⟨d, rfl, td, nd, k⟩
  refine sm_seq (sm_setL (el_lst eds_nil) (sm_seq (sm_setL (el_lst (eds_cons (ev_tup (eds_cons (ev_var rfl) (eds_cons (ev_tup eds_nil) eds_nil))) eds_nil)) (sm_seq (sm_while
    (fun m ρ => ∃ (f ps : List Row3) (s3 s4 s5 s6 : Sl), ρ = [.d d, .l (f.map rowS), .l (ps.map itemS), s3, s4, s5, s6] ∧ Wking d f ps ∧ m = load3 ps)
    ⟨_, [], [([], d, 0)], _, _, _, _, rfl, Wking.start td, rfl⟩ ?_)))))
  rintro m ρ ⟨f, ps, s3, s4, s5, s6, rfl, wk0, rfl⟩
  refine ⟨_, _, et_truO rfl, fun h => ?_, fun h => ?_⟩
  · obtain ⟨qs, q, rfl⟩ : ∃ qs q, ps = qs ++ [q] := by
      rcases List.eq_nil_or_concat ps with rfl | ⟨qs, q, rfl⟩
      · cases h
      · exact ⟨qs, q, by simp⟩
    obtain ⟨w1, dec, l1, l2, te⟩ := wk0.step
    obtain ⟨p, e, u⟩ := q
    have te : tm e = true := te
    have l1 : f.length + qs.length + (partsD e).length ≤ nodes d := l1
    have l2 : p.length + (partsD e).length ≤ nodes d := l2
    rw [List.map_append]
    have sh := tm_shape te
    obtain ⟨wd, ds, ed⟩ := sh
    refine sm_seq (sm_asg (ev_pop (xs := qs.map itemS) (x := itemS (p, e, u)) rfl) (tg_tup (xs := [e, spotT p]) (tgs_cons tg_name (tgs_cons tg_name tgs_nil)))
      (sm_seq (sm_app rfl (ev_var rfl) rfl ?_ (sm_seq (sm_set (ev_call (x := .tuple (partsD e)) (es_cons (ev_var rfl) es_nil) ar_nil rfl ⟨wd, ds, by rw [ed]; rfl, by rw [ed]⟩)
        (sm_for (fi_revR (ev_fn (es_cons (ev_var rfl) es_nil) fv_lenT) ?_) (fun j ρ => ∃ s6, ρ = [.d d, .l ((f ++ [(p, e, u)]).map rowS), .l ((qs ++ (push3 (partsD e) (wdD e) p u 0).reverse.take j).map itemS), .d e, .d (spotT p), .d (.tuple (partsD e)), s6]) ⟨s6, ?_⟩ (fun j x ρ ex r => ?_) fun ρ r => ?_))))))
    · rw [List.length_map]
      exact small (by omega)
    · constructor <;> omega
    · rw [List.take_zero, List.append_nil, List.map_append]
      rfl
    · obtain ⟨s6, rfl⟩ := r
      have lt : j < (partsD e).length := by
        have := (List.getElem?_eq_some_iff.mp ex).1
        rw [List.length_reverse, rngD_len, Int.toNat_natCast] at this
        exact this
      rw [List.getElem?_reverse (by rw [rngD_len, Int.toNat_natCast]; exact lt), rngD_len, Int.toNat_natCast] at ex
      obtain ⟨_, rfl⟩ := rngD_at ex
      have hk := List.getElem?_eq_getElem (show (partsD e).length - 1 - j < (partsD e).length by omega)
      refine ⟨_, tg_name, sm_app rfl (ev_tup (eds_cons (ev_op (ev_var rfl) (ev_var rfl) (fv_ixT (at_nat hk))) (eds_cons (ev_tup (eds_star (ev_var rfl) (eds_cons (ev_var rfl) eds_nil)) ?_) eds_nil))) rfl ?_ ?_⟩
      · rw [List.length_append, List.length_map, List.length_singleton]
        exact Nat.le_of_lt (small (by omega))
      · rw [List.length_map, List.length_append]
        have : ((push3 (partsD e) (wdD e) p u 0).reverse.take j).length ≤ (partsD e).length := by
          rw [List.length_take, List.length_reverse, push3_len]
          omega
        exact small (by omega)
      · refine ⟨.d (.int (((partsD e).length - 1 - j : Nat) : Int)), ?_⟩
        have hp : (push3 (partsD e) (wdD e) p u 0).reverse[j]? = some (p ++ [0 + ((partsD e).length - 1 - j)], (partsD e)[(partsD e).length - 1 - j], u + passD (wdD e) ((0 + ((partsD e).length - 1 - j) : Nat) : Int)) := by
          rw [List.getElem?_reverse (by rw [push3_len]; exact lt), push3_len]
          exact push3_at hk
        rw [take_snoc hp, ← List.append_assoc, List.map_append (l₁ := qs ++ _)]
        show _ = [_, _, Sl.l (_ ++ [.tuple [_, spotT (p ++ [0 + ((partsD e).length - 1 - j)])]]), _, _, _, _]
        rw [spot_snoc, Nat.zero_add]
        rfl
    · obtain ⟨s6, rfl⟩ := r
      have full : (rngD ((partsD e).length : Int).toNat).reverse.length = (partsD e).length := by rw [List.length_reverse, rngD_len, Int.toNat_natCast]
      rw [full]
      have tk : (push3 (partsD e) (wdD e) p u 0).reverse.take (partsD e).length = (push3 (partsD e) (wdD e) p u 0).reverse := List.take_of_length_le (by rw [List.length_reverse, push3_len]; exact Nat.le_refl _)
      rw [tk]
      exact ⟨_, dec, _, _, _, _, _, _, rfl, w1, rfl⟩
  · have e0 : ps = [] := by cases ps with | nil => rfl | cons _ _ => cases h
    subst e0
    refine sm_retL (el_var rfl) ?_
    rw [wk0.fin] at k
    exact k
theorem ok_inner {f : Addr} {fd : FuncData} (F : Fun K "inner_terms" "inner_terms" sInnerTerms f fd) (T : Txt K w mg) (Trev : mg "reversed" = none) (C_parts_of : C8.Cal P w K mg base 1 "parts_of" (spD 1 tPartsOf) []) (C_passed : C8.Cal P w K mg base 1 "passed" (spD 2 tPassed) []) : FnOk P w K mg base CX0 2 f fd ["term"] (spD 1 tInner) := by
  refine fn_d F scInnerTerms (body := fun cdv A outer s H E hr => ⟨_, (pss_cons (ps_set (i := 1) scInnerTerms.nd rfl (Or.inl rfl) (pe_lst pa_nil))
      (pss_cons (ps_set (i := 2) scInnerTerms.nd rfl (Or.inl rfl) (pe_lst (pa_cons (pe_tup (pa_cons (pv 0) (pa_cons pe_int pa_nil))) pa_nil)))
      (pss_cons (ps_while PassesOwn.never (pt_truth (pv 2) (by intro _; rfl)) (pss_cons (ps_asg (pe_bm0 PySem.F.plainAttrs_list PySem.F.slot_list_pop PySem.F.type_list_pop mt_pop (pv 2)) (pg_tup rfl (pgs_cons (pg_name (i := 3) scInnerTerms.nd rfl (Or.inl rfl)) (pgs_cons (pg_name (i := 4) scInnerTerms.nd rfl (Or.inl rfl)) pgs_nil))))
      (pss_cons (ps_expr (pe_bm PySem.F.plainAttrs_list PySem.F.slot_list_append PySem.F.type_list_append mt_append (pv 1) (pa_cons (pe_tup (pa_cons (pv 3) (pa_cons (pv 4) pa_nil))) pa_nil)))
      (pss_cons (ps_set (i := 5) scInnerTerms.nd rfl (Or.inl rfl) (C8.pe_c C_parts_of hr (by omega) rfl (pa_cons (pv 3) pa_nil)))
      (pss_one (ps_for PassesOwn.never rfl (pi_revR (by rfl) Trev (prg_1 (by rfl) T.range (pe_callB call_len_seq (by rfl) T.len PySem.boot_len (pa_cons (pv 5) pa_nil)))) (pg_name (i := 6) scInnerTerms.nd rfl (Or.inl rfl)) (pss_one (ps_expr (pe_bm PySem.F.plainAttrs_list PySem.F.slot_list_append PySem.F.type_list_append mt_append (pv 2) (pa_cons (pe_tup (pa_cons (pe_ix ix_tup (pv 5) (pv 6) (fun _ _ => rfl)) (pa_cons (pe_op op_add (pv 4) (C8.pe_c C_passed hr (by omega) rfl (pa_cons (pe_ix ix_tup (pv 3) pe_int (fun _ _ => rfl)) (pa_cons (pv 6) pa_nil)))) pa_nil))) pa_nil))))))))))
      (pss_one (ps_ret (pv 1)))))), ?_⟩)
  rintro as Kr _ ⟨d, rfl, td, nd, k⟩
  refine sm_seq (sm_setL (el_lst eds_nil) (sm_seq (sm_setL (el_lst (eds_cons (ev_tup (eds_cons (ev_var rfl) (eds_cons ev_int eds_nil))) eds_nil)) (sm_seq (sm_while
    (fun m ρ => ∃ (f ps : List Row3) (s3 s4 s5 s6 : Sl), ρ = [.d d, .l (f.map rowI), .l (ps.map rowI), s3, s4, s5, s6] ∧ Wking d f ps ∧ m = load3 ps)
    ⟨_, [], [([], d, 0)], _, _, _, _, rfl, Wking.start td, rfl⟩ ?_)))))
  rintro m ρ ⟨f, ps, s3, s4, s5, s6, rfl, wk0, rfl⟩
  refine ⟨_, _, et_truO rfl, fun h => ?_, fun h => ?_⟩
  · obtain ⟨qs, q, rfl⟩ : ∃ qs q, ps = qs ++ [q] := by
      rcases List.eq_nil_or_concat ps with rfl | ⟨qs, q, rfl⟩
      · cases h
      · exact ⟨qs, q, by simp⟩
    obtain ⟨w1, dec, l1, l2, te⟩ := wk0.step
    obtain ⟨p, e, u⟩ := q
    have te : tm e = true := te
    have l1 : f.length + qs.length + (partsD e).length ≤ nodes d := l1
    rw [List.map_append]
    obtain ⟨wd, ds, rfl⟩ := tm_shape te
    have ew : wdD (.tuple (.str wd :: ds)) = wd := rfl
    rw [ew] at w1 dec
    generalize eps : partsD (.tuple (.str wd :: ds)) = es at *
    refine sm_seq (sm_asg (ev_pop (xs := qs.map rowI) (x := rowI (p, PyData.tuple (.str wd :: ds), u)) rfl) (tg_tup (xs := [.tuple (.str wd :: ds), .int u]) (tgs_cons tg_name (tgs_cons tg_name tgs_nil)))
      (sm_seq (sm_app rfl (ev_tup (eds_cons (ev_var rfl) (eds_cons (ev_var rfl) eds_nil))) rfl ?_ (sm_seq (sm_set (ev_call (x := .tuple es) (es_cons (ev_var rfl) es_nil) ar_nil rfl ⟨wd, ds, rfl, by rw [eps]⟩)
        (sm_for (fi_revR (ev_fn (es_cons (ev_var rfl) es_nil) fv_lenT) ?_) (fun j ρ => ∃ s6, ρ = [.d d, .l ((f ++ [(p, PyData.tuple (.str wd :: ds), u)]).map rowI), .l ((qs ++ (push3 es wd p u 0).reverse.take j).map rowI), .d (.tuple (.str wd :: ds)), .d (.int u), .d (.tuple es), s6]) ⟨s6, ?_⟩ (fun j x ρ ex r => ?_) fun ρ r => ?_))))))
    · rw [List.length_map]
      exact small (by omega)
    · constructor <;> omega
    · rw [List.take_zero, List.append_nil, List.map_append]
      rfl
    · obtain ⟨s6, rfl⟩ := r
      have lt : j < es.length := by
        have := (List.getElem?_eq_some_iff.mp ex).1
        rw [List.length_reverse, rngD_len, Int.toNat_natCast] at this
        exact this
      rw [List.getElem?_reverse (by rw [rngD_len, Int.toNat_natCast]; exact lt), rngD_len, Int.toNat_natCast] at ex
      obtain ⟨_, rfl⟩ := rngD_at ex
      have hk := List.getElem?_eq_getElem (show es.length - 1 - j < es.length by omega)
      refine ⟨_, tg_name, sm_app rfl (ev_tup (eds_cons (ev_op (ev_var rfl) (ev_var rfl) (fv_ixT (at_nat hk))) (eds_cons (ev_op (ev_var rfl) (ev_call (es_cons (ev_op (ev_var rfl) ev_int (fv_ixT at0)) (es_cons (ev_var rfl) es_nil)) ar_nil rfl ⟨_, _, rfl, rfl⟩) fv_int) eds_nil))) rfl ?_ ?_⟩
      · rw [List.length_map, List.length_append]
        have : ((push3 es wd p u 0).reverse.take j).length ≤ es.length := by
          rw [List.length_take, List.length_reverse, push3_len]
          omega
        exact small (by omega)
      · refine ⟨.d (.int ((es.length - 1 - j : Nat) : Int)), ?_⟩
        have hp : (push3 es wd p u 0).reverse[j]? = some (p ++ [0 + (es.length - 1 - j)], es[es.length - 1 - j], u + passD wd ((0 + (es.length - 1 - j) : Nat) : Int)) := by
          rw [List.getElem?_reverse (by rw [push3_len]; exact lt), push3_len]
          exact push3_at hk
        rw [take_snoc hp, ← List.append_assoc, List.map_append (l₁ := qs ++ _), Nat.zero_add]
        rfl
    · obtain ⟨s6, rfl⟩ := r
      have full : (rngD (es.length : Int).toNat).reverse.length = es.length := by rw [List.length_reverse, rngD_len, Int.toNat_natCast]
      rw [full]
      have tk : (push3 es wd p u 0).reverse.take es.length = (push3 es wd p u 0).reverse := List.take_of_length_le (by rw [List.length_reverse, push3_len]; exact Nat.le_refl _)
      rw [tk]
      refine ⟨_, dec, _, _, _, _, _, _, rfl, ?_, rfl⟩
      exact w1
  · have e0 : ps = [] := by cases ps with | nil => rfl | cons _ _ => cases h
    subst e0
    refine sm_retL (el_var rfl) ?_
    rw [wk0.fin] at k
    exact k
end
section
variable {ρ ρ' ρ1 ρ2 : List Sl} {te ta tb : TE} {s s' : Sl} {x y : PyData} {i : Nat} {tr : TA} {ss : List Sl}
/-- a def of the old form that tells whether -/
theorem ev_sp1 {ok : PyData → Prop} {f : PyData → Bool} {E : XK} (h : Es tr ρ [.d x] ρ') (hx : ok x) : Ev (tCall (sp1 ok f) [] E tr) ρ (.d (.bool (f x))) ρ' := fun c A σ H Q R f' q =>
  h c A σ H _ R f' fun vs A1 H1 R1 f1 S1 o1 => by
    match vs, o1 with
    | [v], o1 => exact ⟨v, x, rfl, Dn.mono vw_sub o1.1, hx, fun H2 S2 => q _ A1 H2 (R1.up S2) f1 (S1.trans (vw_up S2)) (.bl _)⟩
end
end KP
set_option Elab.async false
set_option linter.unusedVariables false
set_option linter.unusedSectionVars false
set_option maxRecDepth 100000
set_option maxHeartbeats 2000000
namespace KP
open PySem PySem.Spec PyProof.Rows L2 KA
mutual
def flatD : PyData → Bool
  | .tuple ds => flatAll ds
  | .list _ => false
  | .dict _ => false
  | _ => true
def flatAll : List PyData → Bool
  | [] => true
  | d :: ds => flatD d && flatAll ds
end
theorem cnt_flat {lo : Int} {d : PyData} (h : cntB lo d = true) : flatD d = true := by cases d <;> first | rfl | cases h
theorem whole_flat {lo hi : Int} {d : PyData} (h : wholeB lo hi d = true) : flatD d = true := by cases d <;> first | rfl | cases h
theorem name_flat {d : PyData} (h : nameB d = true) : flatD d = true := by cases d <;> first | rfl | cases h
theorem leaf_flat {wd : Str} : ∀ {ds : List PyData}, leafB wd ds = true → flatAll ds = true
  | [x], h => by
    have h : (if wd = "at" then cntB 0 x else if wd = "kind" then wholeB 0 5 x else (decide (wd = "name") || decide (wd = "thing")) && nameB x) = true := h
    have f : flatD x = true := by
      split at h
      · exact cnt_flat h
      · split at h
        · exact whole_flat h
        · exact name_flat (Bool.and_eq_true_iff.mp h).2
    simp only [flatAll, f, Bool.and_self]
  | [x, y], h => by
    have h : (nameB x && (if wd = "maker" then cntB 0 y else decide (wd = "eater") && wholeB 0 5 y)) = true := h
    obtain ⟨h1, h2⟩ := Bool.and_eq_true_iff.mp h
    have f : flatD y = true := by
      split at h2
      · exact cnt_flat h2
      · exact whole_flat (Bool.and_eq_true_iff.mp h2).2
    simp only [flatAll, name_flat h1, f, Bool.and_self]
  | [], h => by cases h
  | _ :: _ :: _ :: _, h => by cases h
mutual
theorem tm_flat : ∀ d : PyData, tm d = true → flatD d = true
  | .tuple [], h => by simp [tm] at h
  | .tuple (d :: ds), h => by
    cases hS : isStrD d with
    | false =>
      rw [isStr_false hS] at h
      cases h
    | true =>
      obtain ⟨wd, rfl⟩ : ∃ wd, d = .str wd := by cases d <;> first | exact ⟨_, rfl⟩ | cases hS
      cases hp : parts wd with
      | none =>
        rw [tm_leaf hp] at h
        simp only [flatD, flatAll, leaf_flat h, Bool.and_self]
      | some n =>
        rw [tm_parts hp] at h
        simp only [flatD, flatAll, tmAll_flat ds (Bool.and_eq_true_iff.mp h).2, Bool.and_self]
  | .none, h => by simp [tm] at h
  | .bool _, h => by simp [tm] at h
  | .int _, h => by simp [tm] at h
  | .str _, h => by simp [tm] at h
  | .list _, h => by simp [tm] at h
  | .dict _, h => by simp [tm] at h
theorem tmAll_flat : ∀ ds : List PyData, tmAll ds = true → flatAll ds = true
  | [], _ => rfl
  | d :: ds, h => by
    have h : tm d = true ∧ tmAll ds = true := by simpa only [tmAll, Bool.and_eq_true] using h
    simp only [flatAll, tm_flat d h.1, tmAll_flat ds h.2, Bool.and_self]
end
theorem str_ok {x : Str} (h : fine (.str x) = true) : (PyData.str x).canLay0 = true := by
  have h' : x.length ≤ 20 ∧ ∀ c ∈ x.cps.toList, c < 128 := by simpa only [fine, Bool.and_eq_true, decide_eq_true_eq, List.all_eq_true] using h
  show (x.cps.all (· < 0x110000)) = true
  rw [Array.all_eq_true_iff_forall_mem]
  intro c hc
  exact decide_eq_true (Nat.lt_trans (h'.2 c (by simpa using hc)) (by decide))
mutual
theorem lay_flat : ∀ d : PyData, flatD d = true → fine d = true → d.canLay0 = true
  | .none, _, _ => rfl
  | .bool _, _, _ => rfl
  | .int _, _, _ => rfl
  | .str x, _, h => str_ok h
  | .list _, h, _ => by simp [flatD] at h
  | .dict _, h, _ => by simp [flatD] at h
  | .tuple ds, h, f => by
    have := lay_flatAll ds (by simpa only [flatD] using h) (by simpa only [fine] using f)
    simpa only [PyData.canLay0] using this
theorem lay_flatAll : ∀ ds : List PyData, flatAll ds = true → fineAll ds = true → PyData.canLayAll0 ds = true
  | [], _, _ => rfl
  | d :: ds, h, f => by
    have h : flatD d = true ∧ flatAll ds = true := by simpa only [flatAll, Bool.and_eq_true] using h
    have f : fine d = true ∧ fineAll ds = true := by simpa only [fineAll, Bool.and_eq_true] using f
    simp only [PyData.canLayAll0, lay_flat d h.1 f.1, lay_flatAll ds h.2 f.2, Bool.and_self]
end
theorem depth_in {e : PyData} : ∀ {es : List PyData}, e ∈ es → e.depth ≤ PyData.depthAll es
  | a :: es, h => by
    show e.depth ≤ max a.depth (PyData.depthAll es)
    rcases List.mem_cons.mp h with rfl | h
    · exact Nat.le_max_left _ _
    · exact Nat.le_trans (depth_in h) (Nat.le_max_right _ _)
theorem flat_in {e : PyData} : ∀ {es : List PyData}, flatAll es = true → e ∈ es → flatD e = true
  | a :: es, f, h => by
    have f : flatD a = true ∧ flatAll es = true := by simpa only [flatAll, Bool.and_eq_true] using f
    rcases List.mem_cons.mp h with rfl | h
    · exact f.1
    · exact flat_in f.2 h
theorem fine_in {e : PyData} : ∀ {es : List PyData}, fineAll es = true → e ∈ es → fine e = true
  | a :: es, f, h => by
    have f : fine a = true ∧ fineAll es = true := by simpa only [fineAll, Bool.and_eq_true] using f
    rcases List.mem_cons.mp h with rfl | h
    · exact f.1
    · exact fine_in f.2 h
theorem shaped_flat {d : PyData} (f : flatD d = true) (g : fine d = true) (h : d.depth ≤ 64) : SeqAt.shaped d = true := by
  unfold SeqAt.shaped
  rw [Bool.and_eq_true]
  exact ⟨lay_flat d f g, decide_eq_true h⟩
theorem shaped_list {ds : List PyData} (f : flatAll ds = true) (g : fineAll ds = true) (h : PyData.depthAll ds ≤ 63) : SeqAt.shaped (.list ds) = true := by
  unfold SeqAt.shaped
  rw [Bool.and_eq_true]
  refine ⟨by simp only [PyData.canLay0, lay_flatAll ds f g], decide_eq_true ?_⟩
  show PyData.depthAll ds + 1 ≤ 64
  omega
end KP
set_option Elab.async false
set_option linter.unusedVariables false
set_option linter.unusedSectionVars false
set_option maxRecDepth 100000
set_option maxHeartbeats 2000000
namespace KP
open PySem PySem.Spec PyProof.Rows L2 KA OW
def mergeD : List PyData → List PyData → List PyData
  | o :: os, n :: ns => (if noneD n = true then o else n) :: mergeD os ns
  | _, _ => []
def rebD (w : Str) (ds news : List PyData) : PyData := if (news.map noneD).all id = true then .none else .tuple (.str w :: mergeD ds news)
theorem merge_zip (os ns : List PyData) : (os.zip ns).map (fun p => if noneD p.2 = true then p.1 else p.2) = mergeD os ns := by
  induction os generalizing ns with
  | nil => rfl
  | cons o os ih =>
    cases ns with
    | nil => rfl
    | cons n ns =>
      exact congrArg (_ :: ·) (ih ns)
def pickM : PyData → PyData | .tuple [o, n] => if noneD n = true then o else n | _ => .none
end KP
set_option Elab.async false
set_option linter.unusedVariables false
set_option linter.unusedSectionVars false
set_option maxRecDepth 100000
set_option maxHeartbeats 2000000
namespace KP
open PySem PySem.Spec PyProof.Rows L2 KA OW
/-! ### a term rebuilt of its parts -/
abbrev sRebuilt : Stmt := top 14
abbrev nRebuilt : List Str := ["part", "news", "olds", "new", "old"]
theorem scRebuilt : FnScope nRebuilt ["part", "news"] (defScope sRebuilt) := ⟨rfl, rfl, rfl, by decide +kernel, rfl, by decide +kernel, by decide +kernel⟩
def tRebuilt : List Sl → (Rv → Prop) → Prop := fun as Kr => ∃ w ds news, as = [.d (.tuple (.str w :: ds)), .d (.list news)] ∧ news.length ≤ 1000 ∧ ds.length ≤ 1000 ∧ Kr (.d (rebD w ds news))
section
variable {P : Program} {w : World} {K : PySem.W.Frag} {mg : Str → Option Value} {base : Heap}
theorem ok_rebuilt {f : Addr} {fd : FuncData} (F : Fun K "rebuilt" "rebuilt" sRebuilt f fd) (T : Txt K w mg) : FnOk P w K mg base CX0 1 f fd ["part", "news"] (spD 2 tRebuilt) := by
  refine fn_d F scRebuilt (body := fun cdv A outer s H E hr => ⟨_, (pss_cons (ps_if (pt_val (pe_callB (cr_all rfl) (by rfl) T.all (by decide +kernel) (pa_cons (pe_lc (own := [("new", 3)]) (g := gName 3) (tt := tYes) rfl scRebuilt.nd (pi_list (pv 1)) (blkOk_by (N := nRebuilt) (sc := defScope sRebuilt) (by decide +kernel)) (fun _ _ _ _ _ => (pg_name (i := 3) scRebuilt.nd rfl (Or.inl rfl))) (fun _ _ _ _ _ => pts_nil) (fun _ _ _ _ _ => (pe_cmpR op_isN (pv 3) pe_non (nomark _)))) pa_nil))) (pss_one (ps_ret pe_non)) pss_nil) (pss_cons (ps_set (i := 2) scRebuilt.nd rfl (Or.inl rfl) (pe_slice sl_tupA (pv 0) (po_some pe_int) po_none))
      (pss_one (ps_ret (pe_tup (pa_cons (pe_ix ix_tup (pv 0) pe_int (fun _ _ => rfl)) (StX.pa_star (pe_lc (own := [("old", 4), ("new", 3)]) (g := gTup K 2 (gCons (gName 4) (gCons (gName 3) gNil))) (tt := tYes) rfl scRebuilt.nd (pi_pam (by rfl) T.zip (pa_cons (pv 2) (pa_cons (pv 1) pa_nil))) (blkOk_by (N := nRebuilt) (sc := defScope sRebuilt) (by decide +kernel)) (fun _ _ _ _ _ => (pg_tupK (K := K) rfl rfl (pgs_cons (pg_name (i := 4) scRebuilt.nd rfl (Or.inl rfl)) (pgs_cons (pg_name (i := 3) scRebuilt.nd rfl (Or.inl rfl)) pgs_nil)))) (fun _ _ _ _ _ => pts_nil) (fun _ _ _ _ _ => (pe_ifExp (pt_cmpR op_isN (pv 3) pe_non (nomark _)) (pv 4) (pv 3)))) pa_nil))))))), ?_⟩)
  rintro as Kr _ ⟨wd, ds, news, rfl, l1, l2, k⟩
  have e1 : PyData.list (news.map fun x => PyData.bool (noneD x)) = .list ((news.map noneD).map .bool) := by rw [List.map_map]; rfl
  have cut1 : PyData.tuple (cutD (.str wd :: ds) (some (1 : Int)) none) = .tuple ds := by
    rw [show (1 : Int) = ((1 : Nat) : Int) from rfl, cutD_from']
    rfl
  have ez : (zipD ds news).map pickM = mergeD ds news := by
    unfold zipD
    rw [List.map_map, ← merge_zip]
    rfl
  refine (sm_seq (sm_if (b := (news.map noneD).all id) (ρ1 := [.d (.tuple (.str wd :: ds)), .d (.list news), .un, .any, .un]) (et_B (ev_fn (es_cons (Ev.is (Ev.of_el (el_lcM (f := fun x => .bool (noneD x)) (fi_list (ev_var rfl)) ⟨⟨.un, rfl, trivial⟩, trivial⟩ ?_ (fun x hx => ⟨_, tgw_name, (ev_op (ev_var rfl) ev_non fv_isN), rfl, ⟨⟨_, rfl, trivial⟩, trivial⟩⟩))) e1) es_nil) fv_all)) (fun h => (sm_ret ev_non ?_)) (fun h => (sm_next ?_))))
  · exact Nat.le_of_lt (small (by omega))
  · unfold rebD at k
    rw [if_pos h] at k
    exact k
  · unfold rebD at k
    rw [if_neg (by rw [h]; decide)] at k
    have lm : (mergeD ds news).length ≤ 1000 := by
      rw [← ez, List.length_map, zipD_len]
      omega
    have fin : PyData.tuple (.str wd :: (mergeD ds news ++ [])) = .tuple (.str wd :: mergeD ds news) := by rw [List.append_nil]
    refine (sm_seq (sm_set (Ev.is (ev_slA (ev_var rfl) (eo_some ev_int) eo_none) cut1) ?_))
    show Sm _ [.d (.tuple (.str wd :: ds)), .d (.list news), .d (.tuple ds), .any, .un] _
    refine (sm_ret (Ev.is (ev_tup (eds_cons (ev_op (ev_var rfl) ev_int (fv_ixT at0)) (eds_starL (xs := mergeD ds news) (ρ1 := [.d (.tuple (.str wd :: ds)), .d (.list news), .d (.tuple ds), .any, .any]) (Ev.is (Ev.of_el (el_lcM (f := pickM) (ρ0 := [.d (.tuple (.str wd :: ds)), .d (.list news), .d (.tuple ds), .any, .un]) (fi_pam (eds_cons (ev_var rfl) (eds_cons (ev_var rfl) eds_nil))) ⟨⟨.un, rfl, trivial⟩, ⟨.any, rfl, trivial⟩, trivial⟩ ?_ (fun x hx => ?_))) (by rw [ez])) eds_nil)) ?_) fin) k)
    · rw [zipD_len]
      exact Nat.le_of_lt (small (by omega))
    · obtain ⟨j, hj⟩ := List.getElem?_of_mem hx
      obtain ⟨o, n, _, _, rfl⟩ := zipD_at hj
      refine ⟨_, (tgw_tup (xs := [o, n]) (tgsw_cons tgw_name (tgsw_cons tgw_name tgsw_nil))), ?_, rfl, ⟨⟨_, rfl, trivial⟩, ⟨_, rfl, trivial⟩, trivial⟩⟩
      refine (ev_if (b := noneD n) (et_test (ev_op (ev_var rfl) ev_non fv_isN)) (fun h => ?_) (fun h => ?_))
      · show Ev _ _ (.d (if noneD n = true then o else n)) _
        rw [if_pos h]
        exact (ev_var rfl)
      · show Ev _ _ (.d (if noneD n = true then o else n)) _
        rw [if_neg (by rw [h]; decide)]
        exact (ev_var rfl)
    · rw [List.append_nil]
      exact Nat.le_of_lt (small (by rw [List.length_cons]; omega))
end
end KP
set_option Elab.async false
set_option linter.unusedVariables false
set_option linter.unusedSectionVars false
set_option maxRecDepth 100000
set_option maxHeartbeats 2000000
namespace KP
open PySem PySem.Spec PyProof.Rows L2 KA OW
/-! ### a term turned at its places: the stack -/
mutual
def tnD (g : Int → Int → PyData) : PyData → Int → PyData
  | .tuple (.str w :: ds), u => if w = "at" then (match ds with | .int n :: _ => g n u | _ => .none) else if (parts w).isSome = true then rebD w ds (tnL g w u 0 ds) else .none
  | _, _ => .none
def tnL (g : Int → Int → PyData) : Str → Int → Nat → List PyData → List PyData
  | _, _, _, [] => []
  | w, u, i, d :: ds => tnD g d (u + passD w (i : Int)) :: tnL g w u (i + 1) ds
end
abbrev It3 := PyData × Int × Bool
def itT (q : It3) : PyData := .tuple [q.1, .int q.2.1, .bool q.2.2]
def dsD : PyData → List PyData | .tuple (_ :: ds) => ds | _ => []
/-- what is made in the end: the top of the stack ahead -/
def finT (g : Int → Int → PyData) : List It3 → List PyData → List PyData
  | [], M => M
  | (e, u, false) :: S, M => finT g S (M ++ [tnD g e u])
  | (e, _, true) :: S, M => finT g S (M.take (M.length - (dsD e).length) ++ [rebD (wdD e) (dsD e) (M.drop (M.length - (dsD e).length))])
/-- it never lacks what it takes back -/
def okS : List It3 → Nat → Prop
  | [], _ => True
  | (_, _, false) :: S, n => okS S (n + 1)
  | (e, _, true) :: S, n => (dsD e).length ≤ n ∧ okS S (n - (dsD e).length + 1)
def pushT : Str → Int → Nat → List PyData → List It3
  | _, _, _, [] => []
  | w, u, i, d :: ds => (d, u + passD w (i : Int), false) :: pushT w u (i + 1) ds
def loadT (S : List It3) : Nat := (S.map fun q => if q.2.2 = true then 1 else nodes q.1).sum
def weighT (S : List It3) : Nat := (S.map fun q => if q.2.2 = true then 1 else 2 * nodes q.1).sum
theorem tnL_len (g : Int → Int → PyData) : ∀ (w : Str) (u : Int) (i : Nat) (ds : List PyData), (tnL g w u i ds).length = ds.length
  | _, _, _, [] => rfl
  | w, u, i, _ :: ds => congrArg (· + 1) (tnL_len g w u (i + 1) ds)
theorem pushT_len : ∀ (w : Str) (u : Int) (i : Nat) (ds : List PyData), (pushT w u i ds).length = ds.length
  | _, _, _, [] => rfl
  | w, u, i, _ :: ds => congrArg (· + 1) (pushT_len w u (i + 1) ds)
theorem fin_push (g : Int → Int → PyData) : ∀ (w : Str) (u : Int) (i : Nat) (ds : List PyData) (S : List It3) (M : List PyData), finT g (pushT w u i ds ++ S) M = finT g S (M ++ tnL g w u i ds)
  | w, u, i, [], S, M => by
    show finT g S M = finT g S (M ++ [])
    rw [List.append_nil]
  | w, u, i, d :: ds, S, M => by
    show finT g (pushT w u (i + 1) ds ++ S) (M ++ [tnD g d (u + passD w (i : Int))]) = _
    rw [fin_push g w u (i + 1) ds S, List.append_assoc]
    rfl
theorem okS_push : ∀ (w : Str) (u : Int) (i : Nat) (ds : List PyData) (S : List It3) (n : Nat), okS (pushT w u i ds ++ S) n ↔ okS S (n + ds.length)
  | w, u, i, [], S, n => Iff.rfl
  | w, u, i, d :: ds, S, n => by
    show okS (pushT w u (i + 1) ds ++ S) (n + 1) ↔ _
    rw [okS_push w u (i + 1) ds S (n + 1), List.length_cons, show n + 1 + ds.length = n + (ds.length + 1) by omega]
/-- a parted one is put back, its parts ahead of it -/
theorem fin_open {g : Int → Int → PyData} {w : Str} {ds : List PyData} {u : Int} {S : List It3} {M : List PyData} (hw : w ≠ "at") (hp : (parts w).isSome = true) : finT g (pushT w u 0 ds ++ (.tuple (.str w :: ds), u, true) :: S) M = finT g ((.tuple (.str w :: ds), u, false) :: S) M := by
  rw [fin_push]
  show finT g S ((M ++ tnL g w u 0 ds).take ((M ++ tnL g w u 0 ds).length - ds.length) ++ [rebD w ds ((M ++ tnL g w u 0 ds).drop ((M ++ tnL g w u 0 ds).length - ds.length))]) = finT g S (M ++ [if w = "at" then _ else if (parts w).isSome = true then rebD w ds (tnL g w u 0 ds) else .none])
  rw [if_neg hw, if_pos hp, List.length_append, tnL_len, Nat.add_sub_cancel, List.take_left, List.drop_left]
theorem okS_open {w : Str} {ds : List PyData} {u : Int} {S : List It3} {n : Nat} (h : okS ((.tuple (.str w :: ds), u, false) :: S) n) : okS (pushT w u 0 ds ++ (.tuple (.str w :: ds), u, true) :: S) n := by
  rw [okS_push]
  have h : okS S (n + 1) := h
  refine ⟨?_, ?_⟩
  · show ds.length ≤ n + ds.length
    omega
  · show okS S (n + ds.length - ds.length + 1)
    rw [Nat.add_sub_cancel]
    exact h
theorem loadT_append (a b : List It3) : loadT (a ++ b) = loadT a + loadT b := by unfold loadT; rw [List.map_append, List.sum_append]
theorem weighT_append (a b : List It3) : weighT (a ++ b) = weighT a + weighT b := by unfold weighT; rw [List.map_append, List.sum_append]
theorem loadT_push : ∀ (w : Str) (u : Int) (i : Nat) (ds : List PyData), loadT (pushT w u i ds) = nodesAll ds ∧ weighT (pushT w u i ds) = 2 * nodesAll ds
  | _, _, _, [] => ⟨rfl, rfl⟩
  | w, u, i, d :: ds => by
    obtain ⟨h1, h2⟩ := loadT_push w u (i + 1) ds
    refine ⟨?_, ?_⟩
    · show nodes d + loadT (pushT w u (i + 1) ds) = nodes d + nodesAll ds
      rw [h1]
    · show 2 * nodes d + weighT (pushT w u (i + 1) ds) = 2 * (nodes d + nodesAll ds)
      rw [h2]
      omega
theorem loadT_rev (a : List It3) : loadT a.reverse = loadT a ∧ weighT a.reverse = weighT a := by
  unfold loadT weighT
  rw [List.map_reverse, List.sum_reverse, List.map_reverse, List.sum_reverse]
  exact ⟨rfl, rfl⟩
theorem loadT_len (S : List It3) : S.length ≤ loadT S := by
  induction S with
  | nil => exact Nat.le_refl _
  | cons q S ih =>
    have := nodes_pos q.1
    show S.length + 1 ≤ (if q.2.2 = true then 1 else nodes q.1) + loadT S
    split <;> omega
end KP
set_option Elab.async false
set_option linter.unusedVariables false
set_option linter.unusedSectionVars false
set_option maxRecDepth 100000
set_option maxHeartbeats 9000000
namespace KP
open PySem PySem.Spec PyProof.Rows L2 KA OW NdefX
/-! ### a term turned at its places: the def -/
abbrev sTurned : Stmt := top 15
abbrev nTurned : List Str := ["term", "turn", "made", "waiting", "part", "above", "parts_made", "word", "news", "at"]
theorem scTurned : FnScope nTurned ["term", "turn"] (defScope sTurned) := ⟨rfl, rfl, rfl, by decide +kernel, rfl, by decide +kernel, by decide +kernel⟩
def tTurn (g : Int → Int → PyData) : List Sl → (Rv → Prop) → Prop := fun as Kr => ∃ n u, as = [.d (.int n), .d (.int u)] ∧ Kr (.d (g n u))
def turnD (g : Int → Int → PyData) (d : PyData) : PyData := if noneD (tnD g d 0) = true then d else tnD g d 0
theorem cut_back {M : List PyData} {n : Nat} (h : n ≤ M.length) (n0 : 0 < n) : cutD M (some (-(n : Int))) none = M.drop (M.length - n) := by
  unfold OW.cutD
  have e : HT.sIx M.length 0 (some (-(n : Int))) = M.length - n := by
    show (if (-(n : Int)) < 0 then ((-(n : Int)) + (M.length : Int)).toNat else min (-(n : Int)).toNat M.length) = _
    rw [if_pos (by omega)]
    omega
  rw [HT.sIx_none, e, List.take_of_length_le]
  rw [List.length_drop]
  exact Nat.le_refl _
section
variable {P : Program} {w : World} {K : PySem.W.Frag} {mg : Str → Option Value} {base : Heap}
theorem fv_partedN {a : Addr} {z : Str} (pn : ∀ z, ∃ r, PySem.W.nsIn K a z = some r ∧ RelO ((parts z).map fun n => V.int (n : Int)) r) :
    FV2 (fun x y H Q => ∃ (z : Str) (r : Option Value), x = .str z ∧ y = .ref a ∧ PySem.W.nsIn K a z = some r ∧ Q (.bl (!r.isSome)) H) (.d (.str z)) (.p (isV (.ref a))) (.d (.bool (!(parts z).isSome))) := by
  obtain ⟨r, h1, h2⟩ := pn z
  have e : r.isSome = (parts z).isSome := by
    cases hp : parts z with
    | none =>
      rw [hp] at h2
      cases r with
      | none => rfl
      | some u => exact h2.elim
    | some n =>
      rw [hp] at h2
      cases r with
      | none => exact h2.elim
      | some u => rfl
  exact fv2_s (dB (!(parts z).isSome)) fun W H v u Q S o o' q => ⟨z, r, str_v o, isv_v o', h1, by rw [e]; exact q⟩
theorem fv_pix {a : Addr} {es : Array DictEntry} {en : Nat} {z : Str} {n : Nat} (PD : KDict K w a es en) (pn : ∀ z, ∃ r, PySem.W.nsIn K a z = some r ∧ RelO ((parts z).map fun n => V.int (n : Int)) r) (h : parts z = some n) : FV2 (rIxD K w) (.p (isV (.ref a))) (.d (.str z)) (.d (.int (n : Int))) := by
  obtain ⟨r, h1, h2⟩ := pn z
  rw [h] at h2
  cases r with
  | none => exact h2.elim
  | some u => exact fv2_s (dI (n : Int)) fun W H v v' Q S o o' q => ⟨a, z, .int (n : Int), isv_v o, str_v o', ⟨es, en, u, PD.at_, PD.lit, h1, h2⟩, q⟩
def tTurned (P : Program) (w : World) (K : PySem.W.Frag) (mg : Str → Option Value) (base : Heap) (lim : Nat) : NF → List Str → List V → List Sl → (Rv → Prop) → Prop := fun F fr ws0 as Kr => ∃ d f cs g ps kF, as = [.d d, .p (madeMo f F ws0 cs)] ∧ NOk P w K mg base CX0 kF f F ps fr (spN 2 ws0 cs (tTurn g)) ∧ kF ≤ lim ∧ tm d = true ∧ nodes d ≤ 900000 ∧ Kr (.d (turnD g d))
end
end KP
set_option Elab.async false
set_option linter.unusedVariables false
set_option linter.unusedSectionVars false
set_option maxRecDepth 100000
set_option maxHeartbeats 9000000
namespace KP
open PySem PySem.Spec PyProof.Rows L2 KA OW NdefX
section
variable {P : Program} {w : World} {K : PySem.W.Frag} {mg : Str → Option Value} {base : Heap}
/-- what stands of the turning while it goes -/
structure Tng (g : Int → Int → PyData) (d : PyData) (W : List It3) (M : List PyData) : Prop where
  eq : finT g W.reverse M = [tnD g d 0]
  ok : okS W.reverse M.length
  t : ∀ q ∈ W, tm q.1 = true ∧ (q.2.2 = true → wdD q.1 ≠ "at" ∧ (parts (wdD q.1)).isSome = true)
  ln : M.length + loadT W ≤ nodes d
theorem pushT_at : ∀ {ds : List PyData} {w : Str} {u : Int} {i k : Nat} {e : PyData}, ds[k]? = some e → (pushT w u i ds)[k]? = some (e, u + passD w ((i + k : Nat) : Int), false)
  | d :: ds, w, u, i, 0, e, h => by
    cases h
    rfl
  | d :: ds, w, u, i, k + 1, e, h => by
    have := pushT_at (w := w) (u := u) (i := i + 1) (k := k) (ds := ds) h
    show (pushT w u (i + 1) ds)[k]? = _
    rw [this, show i + 1 + k = i + (k + 1) by omega]
theorem pushT_mem : ∀ {ds : List PyData} {w : Str} {u : Int} {i : Nat} {q : It3}, q ∈ pushT w u i ds → q.1 ∈ ds ∧ q.2.2 = false
  | d :: ds, w, u, i, q, h => by
    rcases List.mem_cons.mp h with rfl | h
    · exact ⟨List.mem_cons_self, rfl⟩
    · obtain ⟨h1, h2⟩ := pushT_mem h
      exact ⟨List.mem_cons_of_mem _ h1, h2⟩
theorem parts_small {z : Str} {n : Nat} (h : parts z = some n) : 0 < n ∧ n ≤ 3 := by
  unfold parts at h
  repeat (split at h; · (cases h; decide))
  cases h
theorem ok_turned {f : Addr} {fd : FuncData} (F : Fun K "turned" "turned" sTurned f fd) (T : Txt K w mg) (Trev : mg "reversed" = none) (C_rebuilt : C8.Cal P w K mg base 1 "rebuilt" (spD 2 tRebuilt) []) (C_passed : C8.Cal P w K mg base 1 "passed" (spD 2 tPassed) []) (lim : Nat) : FnOkS P w K mg base (1 + lim + 1) f fd ["term", "turn"] (spHand 2 (tTurned P w K mg base lim)) := by
  obtain ⟨pa, es, en, pm, PD, pn⟩ := T.parted
  unfold spHand
  refine fn_dS (n := 2) (k := 1 + lim) F scTurned (body := fun cdv A outer s H E as Kr hr hl h => ?_)
  obtain ⟨F', fr, ws0, hh, d, fa, cs, g, ps, kF, rfl, Fn, hkF, td, nd, k⟩ := h
  have HC := hh.cells
  have HF := hh.off
  have hrH := hr.mono (show kF ≤ 1 + lim by omega)
  refine ⟨_, by
    have HN := Fn
    exact (pss_cons (ps_set (i := 2) scTurned.nd rfl (Or.inl rfl) (pe_lst pa_nil))
      (pss_cons (ps_set (i := 3) scTurned.nd rfl (Or.inl rfl) (pe_lst (pa_cons (pe_tup (pa_cons (pv 0) (pa_cons pe_int (pa_cons pe_bl pa_nil)))) pa_nil)))
      (pss_cons (ps_while PassesOwn.never (pt_truth (pv 3) (by intro _; rfl)) (pss_cons (ps_asg (pe_bm0 PySem.F.plainAttrs_list PySem.F.slot_list_pop PySem.F.type_list_pop mt_pop (pv 3)) (pg_tup rfl (pgs_cons (pg_name (i := 4) scTurned.nd rfl (Or.inl rfl)) (pgs_cons (pg_name (i := 5) scTurned.nd rfl (Or.inl rfl)) (pgs_cons (pg_name (i := 6) scTurned.nd rfl (Or.inl rfl)) pgs_nil)))))
      (pss_cons (ps_set (i := 7) scTurned.nd rfl (Or.inl rfl) (pe_ix ix_tup (pv 4) pe_int (fun _ _ => rfl)))
      (pss_one (ps_if (pt_cmpR op_eq (pv 7) pe_str (nomark _)) (pss_one (ps_expr (pe_bm PySem.F.plainAttrs_list PySem.F.slot_list_append PySem.F.type_list_append mt_append (pv 2) (pa_cons (pe_held (i := 1) HN HC HF rfl hrH rfl (.inl rfl) (pa_cons (pe_ix ix_tup (pv 4) pe_int (fun _ _ => rfl)) (pa_cons (pv 5) pa_nil))) pa_nil)))) (pss_one (ps_if (pt_cmpR (op_notIn_kd PD) (pv 7) (pe_glob (v := .ref pa) rfl pm rfl) rfl) (pss_one (ps_expr (pe_bm PySem.F.plainAttrs_list PySem.F.slot_list_append PySem.F.type_list_append mt_append (pv 2) (pa_cons pe_non pa_nil)))) (pss_one (ps_if (pt_val (pv 6)) (pss_cons (ps_set (i := 8) scTurned.nd rfl (Or.inl rfl) (pe_slice sl_list (pv 2) (po_some (pe_un un_neg (pe_ix ix_kdict (pe_glob (v := .ref pa) rfl pm rfl) (pv 7) (fun _ _ => rfl)))) po_none))
      (pss_cons (ps_delBack (pv 2) (po_some (pe_un un_neg (pe_ix ix_kdict (pe_glob (v := .ref pa) rfl pm rfl) (pv 7) (fun _ _ => rfl)))))
      (pss_one (ps_expr (pe_bm PySem.F.plainAttrs_list PySem.F.slot_list_append PySem.F.type_list_append mt_append (pv 2) (pa_cons (C8.pe_c C_rebuilt hr (by omega) rfl (pa_cons (pv 4) (pa_cons (pv 8) pa_nil))) pa_nil)))))) (pss_cons (ps_expr (pe_bm PySem.F.plainAttrs_list PySem.F.slot_list_append PySem.F.type_list_append mt_append (pv 3) (pa_cons (pe_tup (pa_cons (pv 4) (pa_cons (pv 5) (pa_cons pe_bl pa_nil)))) pa_nil)))
      (pss_one (ps_for PassesOwn.never rfl (pi_revR (by rfl) Trev (prg_1 (by rfl) T.range (pe_ix ix_kdict (pe_glob (v := .ref pa) rfl pm rfl) (pv 7) (fun _ _ => rfl)))) (pg_name (i := 9) scTurned.nd rfl (Or.inl rfl)) (pss_one (ps_expr (pe_bm PySem.F.plainAttrs_list PySem.F.slot_list_append PySem.F.type_list_append mt_append (pv 3) (pa_cons (pe_tup (pa_cons (pe_ix ix_tup (pv 4) (pe_op op_add (pv 9) pe_int) (fun _ _ => rfl)) (pa_cons (pe_op op_add (pv 5) (C8.pe_c C_passed hr (by omega) rfl (pa_cons (pv 7) (pa_cons (pv 9) pa_nil)))) (pa_cons pe_bl pa_nil)))) pa_nil))))))))))))))))
      (pss_one (ps_ret (pe_ifExp (pt_cmpR op_isN (pe_ix ix_list (pv 2) pe_int (fun _ _ => rfl)) pe_non (nomark _)) (pv 0) (pe_ix ix_list (pv 2) pe_int (fun _ _ => rfl)))))))), ?_⟩
  refine (sm_seq (sm_setL (el_lst eds_nil) (sm_seq (sm_setL (el_lst (eds_cons (ev_tup (eds_cons (ev_var rfl) (eds_cons ev_int (eds_cons ev_bl eds_nil)))) eds_nil)) (sm_seq (sm_while (fun m ρ => ∃ (W : List It3) (M : List PyData) (s4 s5 s6 s7 s8 s9 : Sl), ρ = [.d d, .p (madeMo fa F' ws0 cs), .l M, .l (W.map itT), s4, s5, s6, s7, s8, s9] ∧ Tng g d W M ∧ m = weighT W) ⟨_, [(d, 0, false)], [], _, _, _, _, _, _, rfl, ⟨rfl, trivial, fun q hq => ?_, ?_⟩, rfl⟩ ?_))))))
  · rw [List.mem_singleton.mp hq]
    exact ⟨td, fun z => by cases z⟩
  · show 0 + (nodes d + 0) ≤ nodes d
    omega
  rintro m ρ ⟨W, M, s4, s5, s6, s7, s8, s9, rfl, tg, rfl⟩
  obtain ⟨eq, okk, tt, ln⟩ := tg
  refine ⟨_, _, et_truO rfl, fun h => ?_, fun h => ?_⟩
  · obtain ⟨W', q, rfl⟩ : ∃ W' q, W = W' ++ [q] := by
      rcases List.eq_nil_or_concat W with rfl | ⟨W', q, z⟩
      · cases h
      · exact ⟨W', q, by simpa using z⟩
    obtain ⟨e, u, b⟩ := q
    obtain ⟨te, tb⟩ := tt _ (List.mem_append_right _ List.mem_cons_self)
    have te : tm e = true := te
    rw [List.reverse_append] at eq okk
    have eq : finT g ((e, u, b) :: W'.reverse) M = [tnD g d 0] := eq
    have okk : okS ((e, u, b) :: W'.reverse) M.length := okk
    rw [loadT_append] at ln
    have lw := loadT_len W'
    rw [List.map_append]
    obtain ⟨wd, ds, rfl⟩ := tm_shape te
    have ew : weighT (W' ++ [(PyData.tuple (.str wd :: ds), u, b)]) = weighT W' + ((if b = true then 1 else 2 * nodes (.tuple (.str wd :: ds))) + 0) := weighT_append _ _
    have el : loadT [(PyData.tuple (.str wd :: ds), u, b)] = (if b = true then 1 else nodes (.tuple (.str wd :: ds))) + 0 := rfl
    have np := nodes_pos (.tuple (.str wd :: ds))
    rw [el] at ln
    have lM : M.length ≤ 900000 := by omega
    have tW : ∀ q ∈ W', tm q.1 = true ∧ (q.2.2 = true → wdD q.1 ≠ "at" ∧ (parts (wdD q.1)).isSome = true) := fun q hq => tt q (List.mem_append_left _ hq)
    refine (sm_seq (sm_asg (ev_pop (xs := W'.map itT) (x := itT (.tuple (.str wd :: ds), u, b)) rfl) (tg_tup (xs := [.tuple (.str wd :: ds), .int u, .bool b]) (tgs_cons tg_name (tgs_cons tg_name (tgs_cons tg_name tgs_nil)))) (sm_seq (sm_set (ev_op (ev_var rfl) ev_int (fv_ixT at0)) ?_))))
    show Sm _ [.d d, .p (madeMo fa F' ws0 cs), .l M, .l (W'.map itT), .d (.tuple (.str wd :: ds)), .d (.int u), .d (.bool b), .d (.str wd), s8, s9] _
    refine (sm_if (et_test (ev_op (ev_var rfl) ev_str fv_eqS)) (fun hw => ?_) (fun hw => ?_))
    · obtain rfl := of_decide_eq_true hw
      have bf : b = false := by
        cases b with
        | false => rfl
        | true => exact absurd rfl (tb rfl).1
      subst bf
      obtain ⟨n, rfl⟩ : ∃ n, ds = [.int n] := by
        rw [tm_leaf (by decide +kernel)] at te
        match ds, te with
        | [x], te =>
          have te : cntB 0 x = true := te
          cases x <;> first | exact ⟨_, rfl⟩ | cases te
        | [], te => cases te
        | [x, y], te =>
          have te : (nameB x && (if ("at" : Str) = "maker" then cntB 0 y else decide (("at" : Str) = "eater") && wholeB 0 5 y)) = true := te
          rw [if_neg (by decide), decide_eq_false (by decide), Bool.false_and, Bool.and_false] at te
          cases te
        | _ :: _ :: _ :: _, te => cases te
      have tn1 : tnD g (.tuple [.str "at", .int n]) u = g n u := by
        rw [tnD]
        exact if_pos rfl
      refine (sm_app rfl (ev_made rfl (es_cons (ev_op (ev_var rfl) ev_int (fv_ixT at1)) (es_cons (ev_var rfl) es_nil)) rfl rfl ⟨_, _, rfl, rfl⟩) rfl (small (by omega)) ?_)
      refine ⟨weighT W', ?_, W', M ++ [g n u], _, _, _, _, _, _, rfl, ⟨?_, ?_, tW, ?_⟩, rfl⟩
      · rw [ew, if_neg (by decide)]
        omega
      · have eq : finT g W'.reverse (M ++ [tnD g (.tuple [.str "at", .int n]) u]) = [tnD g d 0] := eq
        rw [tn1] at eq
        exact eq
      · rw [List.length_append, List.length_singleton]
        exact okk
      · rw [List.length_append, List.length_singleton]
        rw [if_neg (by decide)] at ln
        omega
    · have hw : wd ≠ "at" := of_decide_eq_false hw
      refine (sm_if (et_test (ev_op (ev_var rfl) ev_cv (fv_partedN pn))) (fun hp => ?_) (fun hp => ?_))
      · have hp : parts wd = none := by
          cases e : parts wd with
          | none => rfl
          | some n => rw [e] at hp; cases hp
        have bf : b = false := by
          cases b with
          | false => rfl
          | true =>
            have := (tb rfl).2
            have : (parts wd).isSome = true := this
            rw [hp] at this
            cases this
        subst bf
        have tn1 : tnD g (.tuple (.str wd :: ds)) u = .none := by
          show (if wd = "at" then _ else if (parts wd).isSome = true then rebD wd ds (tnL g wd u 0 ds) else PyData.none) = PyData.none
          rw [if_neg hw, if_neg (by rw [hp]; decide)]
        refine (sm_app rfl ev_non rfl (small (by omega)) ?_)
        refine ⟨weighT W', ?_, W', M ++ [.none], _, _, _, _, _, _, rfl, ⟨?_, ?_, tW, ?_⟩, rfl⟩
        · rw [ew, if_neg (by decide)]
          omega
        · have eq : finT g W'.reverse (M ++ [tnD g (.tuple (.str wd :: ds)) u]) = [tnD g d 0] := eq
          rw [tn1] at eq
          exact eq
        · rw [List.length_append, List.length_singleton]
          exact okk
        · rw [List.length_append, List.length_singleton]
          rw [if_neg (by decide)] at ln
          omega
      · obtain ⟨n, hpw⟩ : ∃ n, parts wd = some n := by
          cases e : parts wd with
          | none => rw [e] at hp; cases hp
          | some n => exact ⟨n, rfl⟩
        obtain ⟨n0, n3⟩ := parts_small hpw
        have ld : ds.length = n := by
          rw [tm_parts hpw] at te
          exact of_decide_eq_true (Bool.and_eq_true_iff.mp te).1
        have es : (parts wd).isSome = true := by rw [hpw]; rfl
        cases b with
        | true =>
          have okk : ds.length ≤ M.length ∧ okS W'.reverse (M.length - ds.length + 1) := okk
          have eq : finT g W'.reverse (M.take (M.length - ds.length) ++ [rebD wd ds (M.drop (M.length - ds.length))]) = [tnD g d 0] := eq
          rw [ld] at okk eq
          have cb : PyData.list (cutD M (some (-(n : Int))) none) = .list (M.drop (M.length - n)) := by rw [cut_back okk.1 n0]
          refine (sm_if (b := true) (et_B (ev_var rfl)) (fun h => ?_) (fun h => by cases h))
          refine (sm_seq (sm_set (Ev.is (Ev.of_el (el_slO rfl (eo_some (ev_negI (ev_op ev_cv (ev_var rfl) (fv_pix PD pn hpw)))) eo_none rfl)) cb) (sm_seq (sm_delBack rfl (eo_some (ev_negI (ev_op ev_cv (ev_var rfl) (fv_pix PD pn hpw)))) rfl n0 okk.1 (sm_app rfl (ev_call (x := rebD wd ds (M.drop (M.length - n))) (es_cons (ev_var rfl) (es_cons (ev_var rfl) es_nil)) ar_nil rfl ⟨_, _, _, rfl, ?_, by omega, rfl⟩) rfl (small ?_) ?_)))))
          · rw [List.length_drop]
            omega
          · rw [List.length_take]
            omega
          · refine ⟨weighT W', ?_, W', M.take (M.length - n) ++ [rebD wd ds (M.drop (M.length - n))], _, _, _, _, _, _, rfl, ⟨eq, ?_, tW, ?_⟩, rfl⟩
            · rw [ew, if_pos rfl]
              omega
            · rw [List.length_append, List.length_singleton, List.length_take, Nat.min_eq_left (by omega)]
              exact okk.2
            · rw [List.length_append, List.length_singleton, List.length_take]
              rw [if_pos rfl] at ln
              omega
        | false =>
          have okk : okS ((.tuple (.str wd :: ds), u, false) :: W'.reverse) M.length := okk
          have ndn : ds.length ≤ nodesAll ds := len_nodes ds
          have nde : nodes (.tuple (.str wd :: ds)) = 1 + nodesAll ds + 1 := rfl
          rw [if_neg (by decide)] at ln
          obtain ⟨lp, wp⟩ := loadT_push wd u 0 ds
          refine (sm_if (b := false) (et_B (ev_var rfl)) (fun h => by cases h) (fun h => ?_))
          refine (sm_seq (sm_app rfl (ev_tup (eds_cons (ev_var rfl) (eds_cons (ev_var rfl) (eds_cons ev_bl eds_nil)))) rfl (small (by rw [List.length_map]; omega)) (sm_for (fi_revR (ev_op ev_cv (ev_var rfl) (fv_pix PD pn hpw)) (by constructor <;> omega)) (fun j ρ => ∃ s9, ρ = [.d d, .p (madeMo fa F' ws0 cs), .l M, .l ((W' ++ [(PyData.tuple (.str wd :: ds), u, true)] ++ (pushT wd u 0 ds).reverse.take j).map itT), .d (.tuple (.str wd :: ds)), .d (.int u), .d (.bool false), .d (.str wd), s8, s9]) ⟨s9, ?_⟩ (fun j x ρ ex r => ?_) (fun ρ r => ?_))))
          · rw [List.take_zero, List.append_nil, List.map_append]
            rfl
          · obtain ⟨s9, rfl⟩ := r
            have lt : j < ds.length := by
              have := (List.getElem?_eq_some_iff.mp ex).1
              rw [List.length_reverse, rngD_len, Int.toNat_natCast] at this
              omega
            rw [List.getElem?_reverse (by rw [rngD_len, Int.toNat_natCast]; omega), rngD_len, Int.toNat_natCast] at ex
            obtain ⟨_, rfl⟩ := rngD_at ex
            rw [← ld]
            have hk := List.getElem?_eq_getElem (show ds.length - 1 - j < ds.length by omega)
            have i1 : (((ds.length - 1 - j : Nat) : Int) + 1) = ((ds.length - 1 - j + 1 : Nat) : Int) := by omega
            have ix : atI (.str wd :: ds) (((ds.length - 1 - j : Nat) : Int) + 1) = some ds[ds.length - 1 - j] := by rw [i1]; exact at_nat hk
            have hp' : (pushT wd u 0 ds).reverse[j]? = some (ds[ds.length - 1 - j], u + passD wd ((0 + (ds.length - 1 - j) : Nat) : Int), false) := by
              rw [List.getElem?_reverse (by rw [pushT_len]; exact lt), pushT_len]
              exact pushT_at hk
            refine ⟨_, tg_name, (sm_app rfl (ev_tup (eds_cons (ev_op (ev_var rfl) (ev_op (ev_var rfl) ev_int fv_int) (fv_ixT ix)) (eds_cons (ev_op (ev_var rfl) (ev_call (es_cons (ev_var rfl) (es_cons (ev_var rfl) es_nil)) ar_nil rfl ⟨_, _, rfl, rfl⟩) fv_int) (eds_cons ev_bl eds_nil)))) rfl (small ?_) ⟨.d (.int ((ds.length - 1 - j : Nat) : Int)), ?_⟩)⟩
            · have : ((pushT wd u 0 ds).reverse.take j).length ≤ ds.length := by
                rw [List.length_take, List.length_reverse, pushT_len]
                omega
              simp only [List.length_map, List.length_append, List.length_singleton]
              omega
            · rw [take_snoc hp', ← List.append_assoc, List.map_append (l₁ := W' ++ _ ++ _), Nat.zero_add]
              rfl
          · obtain ⟨s9, rfl⟩ := r
            have full : (rngD ((n : Int)).toNat).reverse.length = (pushT wd u 0 ds).reverse.length := by rw [List.length_reverse, rngD_len, Int.toNat_natCast, List.length_reverse, pushT_len, ld]
            rw [full, List.take_length]
            have rv : (W' ++ [(PyData.tuple (.str wd :: ds), u, true)] ++ (pushT wd u 0 ds).reverse).reverse = pushT wd u 0 ds ++ (.tuple (.str wd :: ds), u, true) :: W'.reverse := by
              rw [List.reverse_append, List.reverse_reverse, List.reverse_append]
              rfl
            have w1 : weighT (W' ++ [(PyData.tuple (.str wd :: ds), u, true)] ++ (pushT wd u 0 ds).reverse) = weighT W' + 1 + 2 * nodesAll ds := by
              rw [weighT_append, weighT_append, (loadT_rev _).2, wp]
              rfl
            have l1 : loadT (W' ++ [(PyData.tuple (.str wd :: ds), u, true)] ++ (pushT wd u 0 ds).reverse) = loadT W' + 1 + nodesAll ds := by
              rw [loadT_append, loadT_append, (loadT_rev _).1, lp]
              rfl
            refine ⟨_, ?_, _, M, _, _, _, _, _, _, rfl, ⟨?_, ?_, fun q hq => ?_, ?_⟩, rfl⟩
            · rw [w1, ew, if_neg (by decide)]
              omega
            · rw [rv, fin_open hw es]
              exact eq
            · rw [rv]
              exact okS_open okk
            · rcases List.mem_append.mp hq with hq | hq
              · rcases List.mem_append.mp hq with hq | hq
                · exact tW q hq
                · rw [List.mem_singleton.mp hq]
                  exact ⟨te, fun _ => ⟨hw, es⟩⟩
              · obtain ⟨h1, h2⟩ := pushT_mem (List.mem_reverse.mp hq)
                have tp := parts_tm te
                rw [show partsD (.tuple (.str wd :: ds)) = ds from if_pos es] at tp
                exact ⟨tmAll_mem tp h1, fun z => by rw [h2] at z; cases z⟩
            · rw [l1]
              omega
  · have e0 : W = [] := by cases W with | nil => rfl | cons _ _ => cases h
    subst e0
    have eq : M = [tnD g d 0] := eq
    subst eq
    unfold turnD at k
    refine (sm_ret (ev_if (b := noneD (tnD g d 0)) (ρ2 := [.d d, .p (madeMo fa F' ws0 cs), .l [tnD g d 0], .l [], s4, s5, s6, s7, s8, s9]) (et_test (ev_op (ev_ixO rfl ev_int rfl at0) ev_non fv_isN)) (fun h => ?_) (fun h => ?_)) k)
    · rw [if_pos h]
      exact (ev_var rfl)
    · rw [if_neg (by rw [h]; decide)]
      exact (ev_ixO rfl ev_int rfl at0)
end
end KP
set_option Elab.async false
set_option linter.unusedVariables false
set_option linter.unusedSectionVars false
set_option maxRecDepth 100000
set_option maxHeartbeats 9000000
namespace KP
open PySem PySem.Spec PyProof.Rows L2 KA OW NdefX
/-! ### a term raised, given another one: the defs that make a def -/
abbrev sRaisedBy : Stmt := top 16
abbrev nRaisedBy : List Str := ["term", "by", "start", "turn"]
theorem scRaisedBy : FnScope nRaisedBy ["term", "by", "start"] (defScope sRaisedBy) := ⟨rfl, rfl, rfl, by decide +kernel, rfl, by decide +kernel, by decide +kernel⟩
abbrev sRaisedByTurn : Stmt := (defBody sRaisedBy).getD 1 (.Pass ⟨0, 0, 0, 0⟩)
abbrev nRaisedByTurn : List Str := ["number", "above", "by", "start"]
theorem scRaisedByTurn : NdefX.NScope nRaisedByTurn ["number", "above"] ["by", "start"] (C8.fnScope sRaisedByTurn) := NdefX.nscope_by (by decide +kernel)
theorem ndR : ndefB (defScope sRaisedBy) (C8.fnScope sRaisedByTurn) ["by", "start"] = true := by decide +kernel
theorem quR : ("raised_by.<locals>.turn" : Str) = "raised_by" ++ ".<locals>." ++ "turn" := by decide +kernel
def stepR (b s n u : Int) : PyData := if s ≤ n - u then .tuple [.str "at", .int (n + b)] else .none
def raiseD (b s : Int) (d : PyData) : PyData := if b = 0 then d else turnD (stepR b s) d
def tRaised : List Sl → (Rv → Prop) → Prop := fun as Kr => ∃ d b s, as = [.d d, .d (.int b), .d (.int s)] ∧ tm d = true ∧ nodes d ≤ 900000 ∧ Kr (.d (raiseD b s d))
section
variable {P : Program} {w : World} {K : PySem.W.Frag} {mg : Str → Option Value} {base : Heap}
theorem ok_raised_turn {F : NF} {f : Addr} {v1 v2 : V} {b s : Int} (hp : F.params = C8.fnArgs sRaisedByTurn) (hb : F.body = C8.fnBody sRaisedByTurn) (hs : F.scope = C8.fnScope sRaisedByTurn) :
    NOk P w K mg base CX0 1 f F ["number", "above"] ["by", "start"] (spN 2 [v1, v2] [.d (.int b), .d (.int s)] (tTurn (stepR b s))) := by
  obtain ⟨nm, ql, ps, bd, sc, cl, cc⟩ := F
  obtain rfl : ps = _ := hp
  obtain rfl : bd = _ := hb
  obtain rfl : sc = _ := hs
  refine fn_n (n := 2) (m := 2) (k := 0) scRaisedByTurn (fun doc pm ctv us hl => ?_) rfl rfl (by decide) (fun A outer s0 H E hr => ⟨_, (pss_cons (ps_if (pt_cmpR op_ge (pe_op op_sub (pv 0) (pv 1)) (pv 3) (nomark _)) (pss_one (ps_ret (pe_tup (pa_cons pe_str (pa_cons (pe_op op_add (pv 0) (pv 2)) pa_nil))))) pss_nil) (pss_one (ps_ret pe_non))), ?_⟩)
  · match us, hl with
    | [_, _], _ => rfl
  · rintro as Kr _ ⟨n, u, rfl, k⟩
    unfold stepR at k
    refine (sm_seq (sm_if (et_test (ev_op (ev_op (ev_var rfl) (ev_var rfl) fv_int) (ev_var rfl) fv_cmpI)) (fun h => (sm_ret (ev_tup (eds_cons ev_str (eds_cons (ev_op (ev_var rfl) (ev_var rfl) fv_int) eds_nil))) ?_)) (fun h => (sm_next (sm_ret ev_non ?_)))))
    · rw [if_pos (by simpa using h)] at k
      exact k
    · rw [if_neg (by simpa using h)] at k
      exact k
theorem ok_raisedby {f c Pt : Addr} {fd : FuncData} (F : FunC K "raised_by" "raised_by" sRaisedBy f fd c) (TD : Tabd base mg c Pt "raised_by.<locals>.turn") (C_turned : CalS P w K mg base 3 "turned" 2 (tTurned P w K mg base 1)) : FnOk P w K mg base CX0 4 f fd ["term", "by", "start"] (spD 3 tRaised) := by
  refine fn_dC F scRaisedBy (body := fun A outer s H E hr => ⟨_, (pss_cons (ps_if (pt_cmpR op_eq (pv 1) pe_int (nomark _)) (pss_one (ps_ret (pv 0))) pss_nil) (pss_cons (ps_nd (i := 3) (name := "turn") TD rfl rfl quR (ndef_free ndR) rfl rfl rfl scRaisedBy.nd rfl (Or.inl rfl) (.inl rfl)) (pss_one (ps_ret (pe_hs (fr := ["by", "start"]) (js := [1, 2]) C_turned (fun ok => Caps.made ok (ndef_free ndR) (ndef_fr ndR) rfl) (fun _ => rfl) hr (by omega) rfl (pa_cons (pv 0) (pa_cons (pv 3) pa_nil))))))), ?_⟩)
  rintro as Kr _ ⟨d, b, s0, rfl, td, nd, k⟩
  unfold raiseD at k
  refine (sm_seq (sm_if (et_test (ev_op (ev_var rfl) ev_int fv_eqI)) (fun h => (sm_ret (ev_var rfl) ?_)) (fun h => (sm_next (sm_seq (sm_ndef (j1 := 1) (j2 := 2) rfl rfl (fun _ => rfl) (fun f cc v1 v2 => (sm_ret (ev_hand (T := tTurned P w K mg base 1) (j1 := 1) (j2 := 2) (es_cons (ev_var rfl) (es_cons (ev_varp rfl) es_nil)) rfl rfl rfl ⟨d, f, _, stepR b s0, _, 1, rfl, ok_raised_turn rfl rfl rfl, Nat.le_refl _, td, nd, rfl⟩) ?_))))))))
  · rw [if_pos (by simpa using h)] at k
    exact k
  · rw [if_neg (by simpa using h)] at k
    exact k
end
end KP
set_option Elab.async false
set_option linter.unusedVariables false
set_option linter.unusedSectionVars false
set_option maxRecDepth 100000
set_option maxHeartbeats 9000000
namespace KP
open PySem PySem.Spec PyProof.Rows L2 KA OW NdefX
abbrev sGivenAt : Stmt := top 17
abbrev nGivenAt : List Str := ["term", "other", "number", "turn"]
theorem scGivenAt : FnScope nGivenAt ["term", "other", "number"] (defScope sGivenAt) := ⟨rfl, rfl, rfl, by decide +kernel, rfl, by decide +kernel, by decide +kernel⟩
abbrev sGivenAtTurn : Stmt := (defBody sGivenAt).getD 0 (.Pass ⟨0, 0, 0, 0⟩)
abbrev nGivenAtTurn : List Str := ["place", "above", "number", "other"]
theorem scGivenAtTurn : NdefX.NScope nGivenAtTurn ["place", "above"] ["number", "other"] (C8.fnScope sGivenAtTurn) := NdefX.nscope_by (by decide +kernel)
theorem ndG : ndefB (defScope sGivenAt) (C8.fnScope sGivenAtTurn) ["number", "other"] = true := by decide +kernel
theorem quG : ("given_at.<locals>.turn" : Str) = "given_at" ++ ".<locals>." ++ "turn" := by decide +kernel
def stepG (o : PyData) (m n u : Int) : PyData := if n - u = m then raiseD u 0 o else if m < n - u then .tuple [.str "at", .int (n - 1)] else .none
def giveD (o : PyData) (m : Int) (d : PyData) : PyData := turnD (stepG o m) d
def tGiven : List Sl → (Rv → Prop) → Prop := fun as Kr => ∃ d o m, as = [.d d, .d o, .d (.int m)] ∧ tm d = true ∧ nodes d ≤ 900000 ∧ tm o = true ∧ nodes o ≤ 900000 ∧ Kr (.d (giveD o m d))
section
variable {P : Program} {w : World} {K : PySem.W.Frag} {mg : Str → Option Value} {base : Heap}
theorem ok_given_turn {F : NF} {f : Addr} {v1 v2 : V} {o : PyData} {m : Int} (hp : F.params = C8.fnArgs sGivenAtTurn) (hb : F.body = C8.fnBody sGivenAtTurn) (hs : F.scope = C8.fnScope sGivenAtTurn) (C_raised_by : C8.Cal P w K mg base 4 "raised_by" (spD 3 tRaised) []) (to_ : tm o = true) (no : nodes o ≤ 900000) :
    NOk P w K mg base CX0 5 f F ["place", "above"] ["number", "other"] (spN 2 [v1, v2] [.d (.int m), .d o] (tTurn (stepG o m))) := by
  obtain ⟨nm, ql, ps, bd, sc, cl, cc⟩ := F
  obtain rfl : ps = _ := hp
  obtain rfl : bd = _ := hb
  obtain rfl : sc = _ := hs
  refine fn_n (n := 2) (m := 2) (k := 4) scGivenAtTurn (fun doc pm ctv us hl => ?_) rfl rfl (by decide) (fun A outer s0 H E hr => ⟨_, (pss_cons (ps_if (pt_cmpR op_eq (pe_op op_sub (pv 0) (pv 1)) (pv 2) (nomark _)) (pss_one (ps_ret (C8.pe_c C_raised_by hr (by omega) rfl (pa_cons (pv 3) (pa_cons (pv 1) (pa_cons pe_int pa_nil)))))) pss_nil) (pss_cons (ps_if (pt_cmpR op_gt (pe_op op_sub (pv 0) (pv 1)) (pv 2) (nomark _)) (pss_one (ps_ret (pe_tup (pa_cons pe_str (pa_cons (pe_op op_sub (pv 0) pe_int) pa_nil))))) pss_nil) (pss_one (ps_ret pe_non)))), ?_⟩)
  · match us, hl with
    | [_, _], _ => rfl
  · rintro as Kr _ ⟨n, u, rfl, k⟩
    unfold stepG at k
    refine (sm_seq (sm_if (et_test (ev_op (ev_op (ev_var rfl) (ev_var rfl) fv_int) (ev_var rfl) fv_eqI)) (fun h => (sm_ret (ev_call (es_cons (ev_var rfl) (es_cons (ev_var rfl) (es_cons ev_int es_nil))) ar_nil rfl ⟨_, _, _, rfl, to_, no, rfl⟩) ?_)) (fun h => (sm_next (sm_seq (sm_if (et_test (ev_op (ev_op (ev_var rfl) (ev_var rfl) fv_int) (ev_var rfl) fv_cmpI)) (fun h' => (sm_ret (ev_tup (eds_cons ev_str (eds_cons (ev_op (ev_var rfl) ev_int fv_int) eds_nil))) ?_)) (fun h' => (sm_next (sm_ret ev_non ?_)))))))))
    · rw [if_pos (by simpa using h)] at k
      exact k
    · rw [if_neg (by simpa using h), if_pos (by simpa using h')] at k
      exact k
    · rw [if_neg (by simpa using h), if_neg (by simpa using h')] at k
      exact k
theorem ok_givenat {f c Pt : Addr} {fd : FuncData} (F : FunC K "given_at" "given_at" sGivenAt f fd c) (TD : Tabd base mg c Pt "given_at.<locals>.turn") (C_turned : CalS P w K mg base 7 "turned" 2 (tTurned P w K mg base 5)) (C_raised_by : C8.Cal P w K mg base 4 "raised_by" (spD 3 tRaised) []) : FnOk P w K mg base CX0 8 f fd ["term", "other", "number"] (spD 3 tGiven) := by
  refine fn_dC F scGivenAt (body := fun A outer s H E hr => ⟨_, (pss_cons (ps_nd (i := 3) (name := "turn") TD rfl rfl quG (ndef_free ndG) rfl rfl rfl scGivenAt.nd rfl (Or.inl rfl) (.inl rfl)) (pss_one (ps_ret (pe_hs (fr := ["number", "other"]) (js := [2, 1]) C_turned (fun ok => Caps.made ok (ndef_free ndG) (ndef_fr ndG) rfl) (fun _ => rfl) hr (by omega) rfl (pa_cons (pv 0) (pa_cons (pv 3) pa_nil)))))), ?_⟩)
  rintro as Kr _ ⟨d, o, m, rfl, td, nd, to_, no, k⟩
  exact (sm_seq (sm_ndef (j1 := 2) (j2 := 1) rfl rfl (fun _ => rfl) (fun f cc v1 v2 => (sm_ret (ev_hand (T := tTurned P w K mg base 5) (j1 := 2) (j2 := 1) (es_cons (ev_var rfl) (es_cons (ev_varp rfl) es_nil)) rfl rfl rfl ⟨d, f, _, stepG o m, _, 5, rfl, ok_given_turn rfl rfl rfl C_raised_by to_ no, Nat.le_refl _, td, nd, rfl⟩) k))))
end
end KP
set_option Elab.async false
set_option linter.unusedVariables false
set_option linter.unusedSectionVars false
set_option maxRecDepth 100000
set_option maxHeartbeats 4000000
namespace KP
open PySem PySem.Spec PyProof.Rows L2 KA OW
/-! ### a term turned, as a whole -/
mutual
def fuD (g : Int → Int → PyData) : PyData → Int → PyData
  | .tuple (.str w :: ds), u => if w = "at" then (match ds with | .int n :: _ => if noneD (g n u) = true then .tuple (.str w :: ds) else g n u | _ => .tuple (.str w :: ds)) else if (parts w).isSome = true then .tuple (.str w :: fuL g w u 0 ds) else .tuple (.str w :: ds)
  | d, _ => d
def fuL (g : Int → Int → PyData) : Str → Int → Nat → List PyData → List PyData
  | _, _, _, [] => []
  | w, u, i, d :: ds => fuD g d (u + passD w (i : Int)) :: fuL g w u (i + 1) ds
end
theorem fuL_len (g : Int → Int → PyData) : ∀ (w : Str) (u : Int) (i : Nat) (ds : List PyData), (fuL g w u i ds).length = ds.length
  | _, _, _, [] => rfl
  | w, u, i, _ :: ds => congrArg (· + 1) (fuL_len g w u (i + 1) ds)
theorem merge_none : ∀ {ds news : List PyData}, news.length = ds.length → (news.map noneD).all id = true → mergeD ds news = ds
  | [], [], _, _ => rfl
  | d :: ds, n :: news, hl, h => by
    rw [List.map_cons, List.all_cons, Bool.and_eq_true] at h
    have h1 : noneD n = true := h.1
    show (if noneD n = true then d else n) :: mergeD ds news = d :: ds
    rw [if_pos h1, merge_none (Nat.succ.inj hl) h.2]
  | [], _ :: _, hl, _ => by cases hl
  | _ :: _, [], hl, _ => by cases hl
theorem at_shape {ds : List PyData} (h : tm (.tuple (.str "at" :: ds)) = true) : ∃ n, ds = [.int n] ∧ 0 ≤ n := by
  rw [tm_leaf (by decide +kernel)] at h
  match ds, h with
  | [x], te =>
    have te : cntB 0 x = true := te
    cases x <;> first | exact ⟨_, rfl, of_decide_eq_true te⟩ | cases te
  | [], te => cases te
  | [x, y], te =>
    have te : (nameB x && (if ("at" : Str) = "maker" then cntB 0 y else decide (("at" : Str) = "eater") && wholeB 0 5 y)) = true := te
    rw [if_neg (by decide), decide_eq_false (by decide), Bool.false_and, Bool.and_false] at te
    cases te
  | _ :: _ :: _ :: _, te => cases te
theorem tm_none {d : PyData} (h : tm d = true) : noneD d = false := by
  obtain ⟨w, ds, rfl⟩ := tm_shape h
  rfl
theorem tm_dsAll {w : Str} {ds : List PyData} (h : tm (.tuple (.str w :: ds)) = true) (hp : (parts w).isSome = true) : tmAll ds = true := by
  have := parts_tm h
  rw [show partsD (.tuple (.str w :: ds)) = ds from if_pos hp] at this
  exact this
mutual
theorem fu_turn (g : Int → Int → PyData) : ∀ (d : PyData) (u : Int), tm d = true → (if noneD (tnD g d u) = true then d else tnD g d u) = fuD g d u
  | .tuple (x :: ds), u, h => by
    obtain ⟨w, ds', e⟩ := tm_shape h
    injection e with e
    injection e with e1 e2
    subst e1 e2
    by_cases hw : w = "at"
    · subst hw
      obtain ⟨n, rfl, _⟩ := at_shape h
      have e1 : tnD g (.tuple [.str "at", .int n]) u = g n u := by
        rw [tnD]
        exact if_pos rfl
      have e2 : fuD g (.tuple [.str "at", .int n]) u = if noneD (g n u) = true then .tuple [.str "at", .int n] else g n u := by
        rw [fuD]
        exact if_pos rfl
      rw [e1, e2]
    · have e1 : tnD g (.tuple (.str w :: ds)) u = if (parts w).isSome = true then rebD w ds (tnL g w u 0 ds) else .none := by
        show (if w = "at" then _ else if (parts w).isSome = true then rebD w ds (tnL g w u 0 ds) else PyData.none) = _
        exact if_neg hw
      have e2 : fuD g (.tuple (.str w :: ds)) u = if (parts w).isSome = true then .tuple (.str w :: fuL g w u 0 ds) else .tuple (.str w :: ds) := by
        show (if w = "at" then _ else if (parts w).isSome = true then PyData.tuple (.str w :: fuL g w u 0 ds) else PyData.tuple (.str w :: ds)) = _
        exact if_neg hw
      rw [e1, e2]
      by_cases hp : (parts w).isSome = true
      · rw [if_pos hp, if_pos hp]
        have ih := fu_turnL g ds w u 0 (tm_dsAll h hp)
        unfold rebD
        by_cases hn : ((tnL g w u 0 ds).map noneD).all id = true
        · rw [if_pos hn]
          show PyData.tuple (.str w :: ds) = _
          rw [merge_none (tnL_len g w u 0 ds) hn] at ih
          rw [← ih]
        · rw [if_neg hn]
          show PyData.tuple (.str w :: mergeD ds (tnL g w u 0 ds)) = _
          rw [ih]
      · rw [if_neg hp, if_neg hp]
        rfl
  | .tuple [], _, h | .none, _, h | .bool _, _, h | .int _, _, h | .str _, _, h | .list _, _, h | .dict _, _, h => by cases h
theorem fu_turnL (g : Int → Int → PyData) : ∀ (ds : List PyData) (w : Str) (u : Int) (i : Nat), tmAll ds = true → mergeD ds (tnL g w u i ds) = fuL g w u i ds
  | [], _, _, _, _ => rfl
  | d :: ds, w, u, i, h => by
    have h' : tm d = true ∧ tmAll ds = true := by simpa only [tmAll, Bool.and_eq_true] using h
    show (if noneD (tnD g d (u + passD w (i : Int))) = true then d else tnD g d (u + passD w (i : Int))) :: mergeD ds (tnL g w u (i + 1) ds) = _
    rw [fu_turn g d _ h'.1, fu_turnL g ds w u (i + 1) h'.2]
    rfl
end
theorem turn_fu {g : Int → Int → PyData} {d : PyData} (h : tm d = true) : turnD g d = fuD g d 0 := fu_turn g d 0 h
mutual
/-- two ways of turning that agree at the places, one shifted -/
theorem fu_eq {g g' : Int → Int → PyData} {k : Int} (e : ∀ n u, 0 ≤ n → (if noneD (g n u) = true then PyData.tuple [.str "at", .int n] else g n u) = if noneD (g' n (u + k)) = true then PyData.tuple [.str "at", .int n] else g' n (u + k)) : ∀ (d : PyData) (u : Int), tm d = true → fuD g d u = fuD g' d (u + k)
  | .tuple (x :: ds), u, h => by
    obtain ⟨w, ds', e0⟩ := tm_shape h
    injection e0 with e0
    injection e0 with e1 e2
    subst e1 e2
    by_cases hw : w = "at"
    · subst hw
      obtain ⟨n, rfl, n0⟩ := at_shape h
      have e1 : ∀ (g : Int → Int → PyData) u, fuD g (.tuple [.str "at", .int n]) u = if noneD (g n u) = true then .tuple [.str "at", .int n] else g n u := fun g u => by
        rw [fuD]
        exact if_pos rfl
      rw [e1, e1]
      exact e n u n0
    · have e2 : ∀ (g : Int → Int → PyData) u, fuD g (.tuple (.str w :: ds)) u = if (parts w).isSome = true then .tuple (.str w :: fuL g w u 0 ds) else .tuple (.str w :: ds) := fun g u => by
        show (if w = "at" then _ else if (parts w).isSome = true then PyData.tuple (.str w :: fuL g w u 0 ds) else PyData.tuple (.str w :: ds)) = _
        exact if_neg hw
      rw [e2, e2]
      by_cases hp : (parts w).isSome = true
      · rw [if_pos hp, if_pos hp, fu_eqL e ds w u 0 (tm_dsAll h hp)]
      · rw [if_neg hp, if_neg hp]
  | .tuple [], _, h | .none, _, h | .bool _, _, h | .int _, _, h | .str _, _, h | .list _, _, h | .dict _, _, h => by cases h
theorem fu_eqL {g g' : Int → Int → PyData} {k : Int} (e : ∀ n u, 0 ≤ n → (if noneD (g n u) = true then PyData.tuple [.str "at", .int n] else g n u) = if noneD (g' n (u + k)) = true then PyData.tuple [.str "at", .int n] else g' n (u + k)) : ∀ (ds : List PyData) (w : Str) (u : Int) (i : Nat), tmAll ds = true → fuL g w u i ds = fuL g' w (u + k) i ds
  | [], _, _, _, _ => rfl
  | d :: ds, w, u, i, h => by
    have h' : tm d = true ∧ tmAll ds = true := by simpa only [tmAll, Bool.and_eq_true] using h
    show fuD g d (u + passD w (i : Int)) :: fuL g w u (i + 1) ds = fuD g' d (u + k + passD w (i : Int)) :: fuL g' w (u + k) (i + 1) ds
    rw [fu_eq e d _ h'.1, fu_eqL e ds w u (i + 1) h'.2, show u + passD w (i : Int) + k = u + k + passD w (i : Int) by omega]
end
mutual
theorem fu_id {g : Int → Int → PyData} (e : ∀ n u, 0 ≤ n → (if noneD (g n u) = true then PyData.tuple [.str "at", .int n] else g n u) = PyData.tuple [.str "at", .int n]) : ∀ (d : PyData) (u : Int), tm d = true → fuD g d u = d
  | .tuple (x :: ds), u, h => by
    obtain ⟨w, ds', e0⟩ := tm_shape h
    injection e0 with e0
    injection e0 with e1 e2
    subst e1 e2
    by_cases hw : w = "at"
    · subst hw
      obtain ⟨n, rfl, n0⟩ := at_shape h
      have e1 : fuD g (.tuple [.str "at", .int n]) u = if noneD (g n u) = true then .tuple [.str "at", .int n] else g n u := by
        rw [fuD]
        exact if_pos rfl
      rw [e1]
      exact e n u n0
    · have e2 : fuD g (.tuple (.str w :: ds)) u = if (parts w).isSome = true then .tuple (.str w :: fuL g w u 0 ds) else .tuple (.str w :: ds) := by
        show (if w = "at" then _ else if (parts w).isSome = true then PyData.tuple (.str w :: fuL g w u 0 ds) else PyData.tuple (.str w :: ds)) = _
        exact if_neg hw
      rw [e2]
      by_cases hp : (parts w).isSome = true
      · rw [if_pos hp, fu_idL e ds w u 0 (tm_dsAll h hp)]
      · rw [if_neg hp]
  | .tuple [], _, h | .none, _, h | .bool _, _, h | .int _, _, h | .str _, _, h | .list _, _, h | .dict _, _, h => by cases h
theorem fu_idL {g : Int → Int → PyData} (e : ∀ n u, 0 ≤ n → (if noneD (g n u) = true then PyData.tuple [.str "at", .int n] else g n u) = PyData.tuple [.str "at", .int n]) : ∀ (ds : List PyData) (w : Str) (u : Int) (i : Nat), tmAll ds = true → fuL g w u i ds = ds
  | [], _, _, _, _ => rfl
  | d :: ds, w, u, i, h => by
    have h' : tm d = true ∧ tmAll ds = true := by simpa only [tmAll, Bool.and_eq_true] using h
    show fuD g d (u + passD w (i : Int)) :: fuL g w u (i + 1) ds = d :: ds
    rw [fu_id e d _ h'.1, fu_idL e ds w u (i + 1) h'.2]
end
/-! ### as the law has it -/
def lawR (b : Int) (n u : Int) : PyData := .tuple [.str "at", .int (n + b * (if decide (u ≤ n) = true then 1 else 0))]
def lawG (o : PyData) (m n u : Int) : PyData := if n = m + u then fuD (lawR u) o 0 else .tuple [.str "at", .int (n - (if decide (m + u < n) = true then 1 else 0))]
theorem ifT {l : List PyData} {x y : PyData} : (if noneD (PyData.tuple l) = true then x else y) = y := rfl
theorem ifN {x y : PyData} : (if noneD PyData.none = true then x else y) = x := rfl
theorem raise_at {b s n u : Int} : (if noneD (stepR b s n u) = true then PyData.tuple [.str "at", .int n] else stepR b s n u) = if noneD (lawR b n (u + s)) = true then PyData.tuple [.str "at", .int n] else lawR b n (u + s) := by
  unfold lawR
  rw [ifT]
  by_cases c : s ≤ n - u
  · have e : stepR b s n u = .tuple [.str "at", .int (n + b)] := if_pos c
    rw [e, ifT, if_pos (decide_eq_true (by omega)), Int.mul_one]
  · have e : stepR b s n u = .none := if_neg c
    have e2 : decide (u + s ≤ n) = false := decide_eq_false (by omega)
    rw [e, ifN, e2, if_neg (by decide), Int.mul_zero, Int.add_zero]
theorem raise_law {b s : Int} {d : PyData} (h : tm d = true) : raiseD b s d = fuD (lawR b) d s := by
  unfold raiseD
  by_cases h0 : b = 0
  · rw [if_pos h0]
    subst h0
    refine (fu_id (fun n u _ => ?_) d s h).symm
    unfold lawR
    rw [ifT, Int.zero_mul, Int.add_zero]
  · rw [if_neg h0, turn_fu h, fu_eq (fun n u _ => raise_at) d 0 h, Int.zero_add]
theorem noneR {b n u : Int} : noneD (lawR b n u) = false := rfl
theorem fu_tup {g : Int → Int → PyData} {d : PyData} {u : Int} (h : tm d = true) (ng : ∀ n u, noneD (g n u) = false) : noneD (fuD g d u) = false := by
  obtain ⟨w, ds, rfl⟩ := tm_shape h
  by_cases hw : w = "at"
  · subst hw
    obtain ⟨n, rfl, n0⟩ := at_shape h
    have e1 : fuD g (.tuple [.str "at", .int n]) u = if noneD (g n u) = true then .tuple [.str "at", .int n] else g n u := by
      rw [fuD]
      exact if_pos rfl
    rw [e1, ng, if_neg (by decide)]
    exact ng n u
  · have e2 : fuD g (.tuple (.str w :: ds)) u = if (parts w).isSome = true then .tuple (.str w :: fuL g w u 0 ds) else .tuple (.str w :: ds) := by
      show (if w = "at" then _ else if (parts w).isSome = true then PyData.tuple (.str w :: fuL g w u 0 ds) else PyData.tuple (.str w :: ds)) = _
      exact if_neg hw
    rw [e2]
    split <;> rfl
theorem noneG {o : PyData} {m n u : Int} (h : tm o = true) : noneD (lawG o m n u) = false := by
  unfold lawG
  split
  · exact fu_tup h fun _ _ => rfl
  · rfl
theorem if_b {x y : PyData} {c : Bool} (h : c = false) : (if c = true then x else y) = y := by rw [h]; rfl
theorem give_law {o d : PyData} {m : Int} (h : tm d = true) (ho : tm o = true) : giveD o m d = fuD (lawG o m) d 0 := by
  unfold giveD
  rw [turn_fu h]
  have := fu_eq (g := stepG o m) (g' := lawG o m) (k := 0) (fun n u _ => ?_) d 0 h
  · rw [Int.add_zero] at this
    exact this
  · rw [Int.add_zero, if_b (noneG ho)]
    by_cases c : n - u = m
    · have e : stepG o m n u = fuD (lawR u) o 0 := (if_pos c).trans (raise_law ho)
      have e2 : lawG o m n u = fuD (lawR u) o 0 := if_pos (by omega)
      rw [e, e2, if_b (fu_tup ho fun _ _ => rfl)]
    · have e2 : lawG o m n u = .tuple [.str "at", .int (n - (if decide (m + u < n) = true then 1 else 0))] := if_neg (by omega)
      by_cases c2 : m < n - u
      · have e : stepG o m n u = .tuple [.str "at", .int (n - 1)] := (if_neg c).trans (if_pos c2)
        rw [e, e2, ifT, if_pos (decide_eq_true (by omega))]
      · have e : stepG o m n u = .none := (if_neg c).trans (if_neg c2)
        have e3 : decide (m + u < n) = false := decide_eq_false (by omega)
        rw [e, e2, ifN, e3, if_neg (by decide), Int.sub_zero]
end KP
set_option Elab.async false
set_option linter.unusedVariables false
set_option linter.unusedSectionVars false
set_option maxRecDepth 100000
set_option maxHeartbeats 2000000
namespace KP
open PySem PySem.Spec PyProof.Rows L2 KA OW
/-! ### what is drawn from a purse, as functions -/
structure Pu where
  a : Int
  b : Int
  c : Int
def Pu.ds (p : Pu) : List PyData := [.int p.a, .int p.b, .int p.c]
def PuOk (p : Pu) (n : Nat) : Prop := 0 ≤ p.a ∧ 0 ≤ p.b ∧ p.b < 2147483629 ∧ 0 ≤ p.c ∧ p.c ≤ (n : Int)
theorem PuOk.more {p : Pu} {n m : Nat} (h : PuOk p n) (l : n ≤ m) : PuOk p m := ⟨h.1, h.2.1, h.2.2.1, h.2.2.2.1, by have := h.2.2.2.2; omega⟩
def takeF (p : Pu) (m : Int) : Int × Pu :=
  if 0 < p.a then (p.a % m, ⟨p.a / m, p.b, p.c⟩)
  else (((p.b + 6113 * (p.c + 1) + 31) ^ 5 % 2147483647 * 2147483587 + (p.b * (p.c + 1) + 89753) ^ 3 % 2147483587) / 8 % m, ⟨p.a, p.b, p.c + 1⟩)
theorem takeF_ok {p : Pu} {n : Nat} {m : Int} (h : PuOk p n) (hm : 0 < m) : 0 ≤ (takeF p m).1 ∧ (takeF p m).1 < m ∧ PuOk (takeF p m).2 (n + 1) := by
  obtain ⟨h1, h2, h3, h4, h5⟩ := h
  unfold takeF
  split
  · exact ⟨Int.emod_nonneg _ (by omega), Int.emod_lt_of_pos _ hm, Int.ediv_nonneg h1 (by omega), h2, h3, h4, by show p.c ≤ _; omega⟩
  · exact ⟨Int.emod_nonneg _ (by omega), Int.emod_lt_of_pos _ hm, h1, h2, h3, by show 0 ≤ p.c + 1; omega, by show p.c + 1 ≤ _; omega⟩
def tTake : List PyData → List Sl → (Rv → List PyData → Prop) → Prop := fun c as Kr => ∃ p n m, c = p.ds ∧ as = [.d (.int m)] ∧ PuOk p n ∧ n ≤ maxN ∧ 0 < m ∧ m < 1073741824 ∧ Kr (.d (.int (takeF p m).1)) (takeF p m).2.ds
/-- so a call of take tells -/
theorem got_take {p : Pu} {n : Nat} {m : Int} (h : PuOk p n) (hn : n ≤ maxN) (h0 : 0 < m) (h1 : m < 1073741824) : tTake p.ds ([.d (.int m)] ++ []) (fun r c' => r = .d (.int (takeF p m).1) ∧ c' = (takeF p m).2.ds) := ⟨p, n, m, rfl, rfl, h, hn, h0, h1, rfl, rfl⟩
theorem got_take' {p : Pu} {n : Nat} {m : Int} {q : Int × Pu} (e : takeF p m = q) (h : PuOk p n) (hn : n ≤ maxN) (h0 : 0 < m) (h1 : m < 1073741824) : tTake p.ds ([.d (.int m)] ++ []) (fun r c' => r = .d (.int q.1) ∧ c' = q.2.ds) := e ▸ got_take h hn h0 h1
section
variable {P : Program} {w : World} {K : PySem.W.Frag} {mg : Str → Option Value} {base : Heap}
abbrev nTake : List Str := ["_law_purse_here", "_law_many", "_law_digit", "_law_one", "_law_other"]
theorem scTake2 : FnScope nTake ["_law_purse_here", "_law_many"] (defScope sTake) := ⟨rfl, rfl, rfl, by decide +kernel, rfl, by decide +kernel, by decide +kernel⟩
theorem ok_take2 {f : Addr} {fd : FuncData} (F : Fun K "_law_take" "_law_take" sTake f fd) (T : Txt K w mg) : FnOk P w K mg base CX0 1 f fd ["_law_purse_here", "_law_many"] (spB 1 tTake) := by
  refine fn_b F scTake2 (body := fun cdv A outer s H E hr => ⟨_, (pss_cons (ps_if (pt_cmpR op_gt (pe_ix ix_list (pv 0) pe_int (fun _ _ => rfl)) pe_int (nomark _)) (pss_cons (ps_set (i := 2) scTake2.nd rfl (Or.inl rfl) (pe_op op_mod (pe_ix ix_list (pv 0) pe_int (fun _ _ => rfl)) (pv 1)))
      (pss_cons (ps_asg (pe_op op_fdiv (pe_ix ix_list (pv 0) pe_int (fun _ _ => rfl)) (pv 1)) (pg_sub (pv 0) pe_int set_list))
      (pss_one (ps_ret (pv 2))))) pss_nil) (pss_cons (ps_asg (pe_op op_add (pe_ix ix_list (pv 0) pe_int (fun _ _ => rfl)) pe_int) (pg_sub (pv 0) pe_int set_list))
      (pss_cons (ps_set (i := 3) scTake2.nd rfl (Or.inl rfl) (pe_op op_mod (pe_op op_pow (pe_op op_add (pe_op op_add (pe_ix ix_list (pv 0) pe_int (fun _ _ => rfl)) (pe_op op_mul pe_int (pe_ix ix_list (pv 0) pe_int (fun _ _ => rfl)))) pe_int) pe_int) pe_int))
      (pss_cons (ps_set (i := 4) scTake2.nd rfl (Or.inl rfl) (pe_op op_mod (pe_op op_pow (pe_op op_add (pe_op op_mul (pe_ix ix_list (pv 0) pe_int (fun _ _ => rfl)) (pe_ix ix_list (pv 0) pe_int (fun _ _ => rfl))) pe_int) pe_int) pe_int))
      (pss_one (ps_ret (pe_op op_mod (pe_op op_fdiv (pe_op op_add (pe_op op_mul (pv 3) pe_int) (pv 4)) pe_int) (pv 1)))))))), ?_⟩)
  rintro ct as Kr _ ⟨p, n, m, rfl, rfl, hp, hn, hm, hm2, k⟩
  obtain ⟨a, b, c⟩ := p
  obtain ⟨h1, h2, h3, h4, h5⟩ := hp
  have h1 : 0 ≤ a := h1
  have h2 : 0 ≤ b := h2
  have h3 : b < 2147483629 := h3
  have h4 : 0 ≤ c := h4
  have h5 : c ≤ (n : Int) := h5
  unfold takeF at k
  have hcN : c + 1 ≤ 1000000001 := by
    unfold maxN at hn
    omega
  have m0 : 0 ≤ b * (c + 1) := Int.mul_nonneg h2 (by omega)
  have m1 : b * (c + 1) ≤ 2147483629 * 1000000001 := Int.mul_le_mul (by omega) (by omega) (by omega) (by omega)
  have q1 : (b + 6113 * (c + 1) + 31).natAbs < 2 ^ 64 := by omega
  have q2 : (b * (c + 1) + 89753).natAbs < 2 ^ 64 := by
    generalize b * (c + 1) = t at m0 m1
    omega
  refine (sm_seq (sm_if (et_test (ev_op (ev_ixO rfl ev_int rfl at0) ev_int fv_cmpI)) (fun h => (sm_seq (sm_set (ev_op (ev_ixO rfl ev_int rfl at0) (ev_var rfl) (fv_intC ?_)) (sm_seq (sm_setI rfl (ev_op (ev_ixO rfl ev_int rfl at0) (ev_var rfl) (fv_intC ?_)) ev_int rfl rfl (sm_ret (ev_var rfl) ?_)))))) (fun h => (sm_next (sm_seq (sm_setI rfl (ev_op (ev_ixO rfl ev_int rfl at2) ev_int fv_int) ev_int rfl rfl (sm_seq (sm_set (ev_op (ev_op (ev_op (ev_op (ev_ixO rfl ev_int rfl at1) (ev_op ev_int (ev_ixO rfl ev_int rfl at2) (fv_intC ?_)) fv_int) ev_int fv_int) ev_int (fv_intC ?_)) ev_int (fv_intC ?_)) (sm_seq (sm_set (ev_op (ev_op (ev_op (ev_op (ev_ixO rfl ev_int rfl at1) (ev_ixO rfl ev_int rfl at2) (fv_intC ?_)) ev_int fv_int) ev_int (fv_intC ?_)) ev_int (fv_intC ?_)) (sm_ret (ev_op (ev_op (ev_op (ev_op (ev_var rfl) ev_int (fv_intC ?_)) (ev_var rfl) fv_int) ev_int (fv_intC ?_)) (ev_var rfl) (fv_intC ?_)) ?_)))))))))))
  · exact hm
  · exact ⟨hm, hm2⟩
  · rw [if_pos (of_decide_eq_true h)] at k
    exact ⟨_, rfl, k⟩
  · exact Or.inl ⟨by decide, by decide⟩
  · exact ⟨by decide, by decide, q1⟩
  · show (0 : Int) < 2147483647
    decide
  · exact Or.inl ⟨by omega, by omega⟩
  · exact ⟨by decide, by decide, q2⟩
  · show (0 : Int) < 2147483587
    decide
  · exact Or.inr ⟨by decide, by decide⟩
  · exact ⟨by decide, by decide⟩
  · exact hm
  · rw [if_neg (of_decide_eq_false h)] at k
    exact ⟨_, rfl, k⟩
end
/-! words -/
def drawN : Nat → Pu → List Nat × Pu
  | 0, p => ([], p)
  | k + 1, p => ((drawN k p).1 ++ [97 + (takeF (drawN k p).2 26).1.toNat], (takeF (drawN k p).2 26).2)
theorem drawN_ok {p : Pu} {n : Nat} (h : PuOk p n) : ∀ k, PuOk (drawN k p).2 (n + k) ∧ (drawN k p).1.length = k ∧ (drawN k p).1.all letterB = true
  | 0 => ⟨h, rfl, rfl⟩
  | k + 1 => by
    obtain ⟨h1, h2, h3⟩ := drawN_ok h k
    obtain ⟨t0, t1, t2⟩ := takeF_ok (m := 26) h1 (by decide)
    refine ⟨t2, ?_, ?_⟩
    · show ((drawN k p).1 ++ [_]).length = k + 1
      rw [List.length_append, h2]
      rfl
    · show ((drawN k p).1 ++ [_]).all letterB = true
      rw [List.all_append, h3, List.all_cons, List.all_nil, Bool.and_true, Bool.true_and]
      unfold letterB
      rw [decide_eq_true (by omega), decide_eq_true (by omega)]
      rfl
def rawW (p : Pu) : Str := Txt.join (Str.ofString "") ((drawN (1 + (takeF p 8).1).toNat (takeF p 8).2).1.map fun c => ⟨#[c]⟩)
def wordF (p : Pu) : Str × Pu := (if (noNames.any fun y => y == rawW p) = true then ("q" : Str) ++ rawW p else rawW p, (drawN (1 + (takeF p 8).1).toNat (takeF p 8).2).2)
theorem wordF_ok {p : Pu} {n : Nat} (h : PuOk p n) : nameX (wordF p).1 = true ∧ PuOk (wordF p).2 (n + 10) := by
  obtain ⟨t0, t1, t2⟩ := takeF_ok (m := 8) h (by decide)
  obtain ⟨d1, d2, d3⟩ := drawN_ok t2 (1 + (takeF p 8).1).toNat
  refine ⟨?_, d1.more (by omega)⟩
  have codes := join_codes (drawN (1 + (takeF p 8).1).toNat (takeF p 8).2).1
  have len : (rawW p).length = (1 + (takeF p 8).1).toNat := by
    show (rawW p).cps.size = _
    rw [← Array.length_toList]
    unfold rawW
    rw [codes, d2]
  have codes : (rawW p).cps.toList = (drawN (1 + (takeF p 8).1).toNat (takeF p 8).2).1 := codes
  show nameX (if (noNames.any fun y => y == rawW p) = true then ("q" : Str) ++ rawW p else rawW p) = true
  generalize rawW p = x at codes len
  split
  · rename_i c
    obtain ⟨y, hy, ey⟩ := List.any_eq_true.mp c
    obtain rfl : y = x := eq_of_beq ey
    exact q_ok y hy
  · rename_i c
    have c : (noNames.any fun y => y == x) = false := Bool.eq_false_iff.mpr c
    unfold nameX
    rw [c, codes, d3, len]
    rw [decide_eq_true (by omega : 1 ≤ (1 + (takeF p 8).1).toNat), decide_eq_true (by omega : (1 + (takeF p 8).1).toNat ≤ 8)]
    rfl
def tWord : List PyData → List Sl → (Rv → List PyData → Prop) → Prop := fun c as Kr => ∃ p n, c = p.ds ∧ as = [] ∧ PuOk p n ∧ n + 10 ≤ maxN ∧ Kr (.d (.str (wordF p).1)) (wordF p).2.ds
section
variable {ρ ρ' ρ1 ρ2 : List Sl} {te ta tb : TE} {KF : PySem.W.Frag}
theorem dn_strs {W : Hp} : ∀ {vs : List V} {bs : List Str}, DnAll W vs (bs.map .str) → vs = bs.map V.str
  | [], [], _ => rfl
  | v :: vs, b :: bs, h => by
    cases h with
    | cons h t =>
      cases h
      rw [dn_strs t]
      rfl
theorem strs_dn {W : Hp} : ∀ bs : List Str, DnAll W (bs.map V.str) (bs.map .str)
  | [] => .nil
  | b :: bs => .cons (.str b) (strs_dn bs)
theorem ev_joinL {a : Str} {ys : List Str} (h : Ev ta ρ (.d (.str a)) ρ1) (g : Ev tb ρ1 (.d (.list (ys.map .str))) ρ2) (len : (ys.map (·.length)).sum + ys.length * a.length ≤ 16777216) :
    Ev (tM1 (fun x xs H Q => ∃ a p, ∃ ys : List Str, x = .str a ∧ xs = [.ref p] ∧ (SqL KF H p (ys.map V.str) ∨ SqT KF H p (ys.map V.str)) ∧ (ys.map (·.length)).sum + ys.length * a.length ≤ 16777216 ∧ Q (.str (Txt.join a ys)) H) ta tb) ρ (.d (.str (Txt.join a ys))) ρ2 := fun c A σ H Q R f q =>
  h c A σ H _ R f fun v A1 H1 R1 f1 S1 o1 => by
    obtain rfl := str_v o1
    refine ⟨⟨a, rfl⟩, g c A1 σ H1 _ R1 f1 fun u A2 H2 R2 f2 S2 o2 => ?_⟩
    obtain ⟨p, vs, rfl, e, dx⟩ := lst_v o2
    obtain rfl := dn_strs dx
    exact ⟨a, p, ys, rfl, rfl, Or.inl (SqL.of (vw_sub _ _ e)), len, q _ A2 H2 R2 f2 (S1.trans S2) (.str _)⟩
theorem ev_splitS {a b : Str} (h : Ev ta ρ (.d (.str a)) ρ1) (g : Ev tb ρ1 (.d (.str b)) ρ2) (h1 : (b.length == 0) = false) (h2 : a.length + 2 ≤ sizeLine) :
    El (tM1 (fun x xs H Q => ∃ a b, x = .str a ∧ xs = [.str b] ∧ (b.length == 0) = false ∧ a.length + 2 ≤ sizeLine ∧ rNewStrs (Txt.split a b) H Q) ta tb) ρ ((Txt.split a b).map .str) ρ2 := fun c A σ H Q R f q =>
  h c A σ H _ R f fun v A1 H1 R1 f1 S1 o1 => by
    obtain rfl := str_v o1
    refine ⟨⟨a, rfl⟩, g c A1 σ H1 _ R1 f1 fun u A2 H2 R2 f2 S2 o2 => ?_⟩
    obtain rfl := str_v o2
    exact ⟨a, b, rfl, rfl, h1, h2, fun p hp => q p _ _ _ (R2.fly hp) aset_at ((S1.trans S2).trans (vw_fly hp)) upd_same (strs_dn _)⟩
theorem fv_addS {a b : Str} (h : a.length + b.length ≤ sizeLine) : FV2 (fun x y H Q => ∃ i j, x = .str i ∧ y = .str j ∧ i.length + j.length ≤ sizeLine ∧ Q (.str (i ++ j)) H) (.d (.str a)) (.d (.str b)) (.d (.str (a ++ b))) := fv2_s (dS (a ++ b)) fun W H v w Q S o o' q => ⟨a, b, str_v o, str_v o', h, q⟩
end
theorem letter_is {r : Int} (h0 : 0 ≤ r) (h1 : r < 26) : atI letters.cps.toList r = some (97 + r.toNat) := by
  obtain ⟨j, rfl⟩ : ∃ j : Nat, r = (j : Int) := ⟨r.toNat, by omega⟩
  rw [letters_list, Int.toNat_natCast]
  have : ∀ j < 26, ([97, 98, 99, 100, 101, 102, 103, 104, 105, 106, 107, 108, 109, 110, 111, 112, 113, 114, 115, 116, 117, 118, 119, 120, 121, 122] : List Nat)[j]? = some (97 + j) := by decide
  exact at_nat (this j (by omega))
section
variable {P : Program} {w : World} {K : PySem.W.Frag} {mg : Str → Option Value} {base : Heap}
abbrev nWord : List Str := ["_law_purse_here", "_law_letters", "_law_word_here", "_law_k"]
theorem scWord2 : FnScope nWord ["_law_purse_here"] (defScope sWord) := ⟨rfl, rfl, rfl, by decide +kernel, rfl, by decide +kernel, by decide +kernel⟩
theorem ok_word2 {f : Addr} {fd : FuncData} (F : Fun K "_law_word" "_law_word" sWord f fd) (T : Txt K w mg) (C_law_take : C8.Cal P w K mg base 1 "_law_take" (spB 1 tTake) []) : FnOk P w K mg base CX0 2 f fd ["_law_purse_here"] (spB 0 tWord) := by
  refine fn_b F scWord2 (body := fun cdv A outer s H E hr => ⟨_, (pss_cons (ps_set (i := 1) scWord2.nd rfl (Or.inr rfl) pe_str)
      (pss_cons (ps_set (i := 2) scWord2.nd rfl (Or.inl rfl) (pe_join pe_str (pe_lc (own := [("_law_k", 3)]) (g := gName 3) (tt := tYes) rfl scWord2.nd (pi_range1 (by rfl) T.range (pa_cons (pe_op op_add pe_int (C8.pe_c C_law_take hr (by decide) rfl (pa_cons (pv 0) (pa_cons pe_int pa_nil)))) pa_nil)) (blkOk_by (N := nWord) (sc := defScope sWord) (by decide +kernel)) (fun _ _ _ _ _ => pg_name (i := 3) scWord2.nd rfl (Or.inl rfl)) (fun _ _ _ _ _ => pts_nil) (fun _ _ _ _ _ => (pe_ix ix_str (pv 1) (C8.pe_c C_law_take hr (by decide) rfl (pa_cons (pv 0) (pa_cons pe_int pa_nil))) (fun _ _ => rfl))))))
      (pss_one (ps_ret (pe_ifExp (pt_cmpR op_in_seq (pv 2) (pe_tup (pa_cons pe_str (pa_cons pe_str (pa_cons pe_str (pa_cons pe_str (pa_cons pe_str pa_nil)))))) rfl) (pe_op op_add_str pe_str (pv 2)) (pv 2)))))), ?_⟩)
  rintro ct as Kr _ ⟨p, n, rfl, rfl, hp, hn, k⟩
  obtain ⟨t0, t1, t2⟩ := takeF_ok (m := 8) hp (by decide)
  have dk := fun j => drawN_ok t2 j
  have ww := (wordF_ok hp).1
  generalize hq : takeF p 8 = q at t0 t1 t2 dk
  have e1 : wordF p = (if (noNames.any fun y => y == rawW p) = true then ("q" : Str) ++ rawW p else rawW p, (drawN (1 + q.1).toNat q.2).2) := by
    unfold wordF
    rw [hq]
  have e2 : rawW p = Txt.join (Str.ofString "") ((drawN (1 + q.1).toNat q.2).1.map fun c => (⟨#[c]⟩ : Str)) := by
    unfold rawW
    rw [hq]
  have d0 := dk (1 + q.1).toNat
  refine sm_seq (sm_set ev_str (sm_seq (sm_set (ev_joinL (ys := (drawN (1 + q.1).toNat q.2).1.map fun c => (⟨#[c]⟩ : Str)) ev_str (Ev.of_el (El.is (el_lc (ρ0 := [.l q.2.ds, .d (.str letters), .un, .un]) (fi_rng1 (eds_cons (ev_op ev_int (ev_callB (i := 0) rfl (es_cons ev_int es_nil) rfl ar_nil rfl (hq ▸ got_take hp (by omega) (by decide) (by decide))) fv_int) eds_nil) (by omega))
      (fun j => [.l (drawN j q.2).2.ds, .d (.str letters), .un, .any]) (fun j => (drawN j q.2).1.map fun c => .str ⟨#[c]⟩) rfl ⟨.un, rfl, trivial⟩ rfl (by decide) ?_ fun j x ex an => ?_) ?_)) ?_) ?_)))
  · intro j hj
    rw [rngD_len] at hj
    rw [List.length_map, (dk j).2.1]
    exact Nat.lt_of_lt_of_le hj (Nat.le_trans (by omega : (1 + q.1).toNat ≤ 8) (by rw [sizeLine_eq]; decide))
  · obtain ⟨lt, rfl⟩ := rngD_at ex
    obtain ⟨j0, j1, j2⟩ := takeF_ok (m := 26) (dk j).1 (by decide)
    refine ⟨_, _, ev_op (ev_var rfl) (ev_callB (i := 0) rfl (es_cons ev_int es_nil) rfl ar_nil rfl (got_take (dk j).1 (by omega) (by decide) (by decide))) (fv_ixS (by decide +kernel) (letter_is j0 j1)), ?_, rfl, _, rfl, trivial⟩
    show (drawN (j + 1) q.2).1.map _ = _
    rw [show (drawN (j + 1) q.2).1 = (drawN j q.2).1 ++ [97 + (takeF (drawN j q.2).2 26).1.toNat] from rfl, List.map_append]
    rfl
  · rw [rngD_len, List.map_map]
    rfl
  · rw [sum_ones, List.length_map, d0.2.1]
    have : (Str.ofString "").length = 0 := by decide +kernel
    rw [this]
    omega
  · rw [rngD_len, ← e2]
    rw [e1] at k ww
    have kr : ∀ b : Bool, b = (noNames.any fun y => y == rawW p) → Kr (.d (.str (if b = true then ("q" : Str) ++ rawW p else rawW p))) (drawN (1 + q.1).toNat q.2).2.ds := fun b hb => by
      rw [hb]
      exact k
    have len : (rawW p).length ≤ 8 := by
      have codes := join_codes (drawN (1 + q.1).toNat q.2).1
      rw [← e2] at codes
      show (rawW p).cps.size ≤ 8
      rw [← Array.length_toList, codes, d0.2.1]
      omega
    clear e2
    generalize rawW p = x at *
    refine sm_ret (x := .str (if (noNames.any fun y => y == x) = true then ("q" : Str) ++ x else x)) (ev_if (et_test (ev_op (ev_var rfl) (ev_tup (eds_cons ev_str (eds_cons ev_str (eds_cons ev_str (eds_cons ev_str (eds_cons ev_str eds_nil)))))) (fv_inT (bs := noNames)))) (fun h => Ev.is (ev_op ev_str (ev_var rfl) (fv_addS ?_)) ?_) (fun h => Ev.is (ev_var rfl) ?_)) ⟨_, rfl, k⟩
    · have : ("q" : Str).length = 1 := by decide +kernel
      rw [this, sizeLine_eq]
      omega
    · rw [if_pos h]
    · rw [if_neg (by rw [h]; decide)]
end
end KP
set_option Elab.async false
set_option linter.unusedVariables false
set_option linter.unusedSectionVars false
set_option maxRecDepth 100000
set_option maxHeartbeats 2000000
namespace KP
open PySem PySem.Spec PyProof.Rows L2 KA OW
/-! ### drawn terms, as a function -/
def stepF (rec : Pu → PyData × Pu) (below : Int) (w : Str) (q : Pu) (c : Nat) : PyData × Pu :=
  if c = 110 then (.int (takeF q (if w = "maker" then 5 else below)).1, (takeF q (if w = "maker" then 5 else below)).2)
  else if c = 104 then (.int (takeF q 6).1, (takeF q 6).2)
  else if c = 119 then (.str (wordF q).1, (wordF q).2) else rec q
def runF (rec : Pu → PyData × Pu) (below : Int) (w : Str) (p : Pu) (cs : List Nat) : List PyData × Pu :=
  cs.foldl (fun s c => (s.1 ++ [(stepF rec below w s.2 c).1], (stepF rec below w s.2 c).2)) ([], p)
theorem runF_snoc {rec : Pu → PyData × Pu} {below : Int} {w : Str} {p : Pu} {cs : List Nat} {c : Nat} : runF rec below w p (cs ++ [c]) = ((runF rec below w p cs).1 ++ [(stepF rec below w (runF rec below w p cs).2 c).1], (stepF rec below w (runF rec below w p cs).2 c).2) := by
  unfold runF
  rw [List.foldl_append]
  rfl
def formOf (w : Str) : List Nat := match (leaves ++ parted).find? fun e => e.1 == w with
  | some e => e.2
  | none => []
theorem formOf_eq : ∀ e ∈ leaves ++ parted, formOf e.1 = e.2 := by decide +kernel
def bodyF (rec : Pu → PyData × Pu) (below m : Int) (p : Pu) : PyData × Pu :=
  (.tuple (.str ((wl[(takeF p m).1.toNat]?).getD "") :: (runF rec below ((wl[(takeF p m).1.toNat]?).getD "") (takeF p m).2 (formOf ((wl[(takeF p m).1.toNat]?).getD ""))).1),
    (runF rec below ((wl[(takeF p m).1.toNat]?).getD "") (takeF p m).2 (formOf ((wl[(takeF p m).1.toNat]?).getD ""))).2)
def termF : Nat → Int → Pu → PyData × Pu
  | 0, below, p => bodyF (fun q => (.none, q)) below 7 p
  | k + 1, below, p => bodyF (termF k below) below 14 p
def recF : Nat → Int → Pu → PyData × Pu
  | 0, _ => fun q => (.none, q)
  | k + 1, below => termF k below
theorem termF_eq (k : Nat) (below : Int) (p : Pu) : termF k below p = bodyF (recF k below) below (if k = 0 then 7 else 14) p := by
  cases k <;> rfl
def TmOk (k : Nat) (n : Nat) (r : PyData × Pu) : Prop := tm r.1 = true ∧ Bd (k + 1) (1000 * 4 ^ k) r.1 ∧ PuOk r.2 (n + 40 * 4 ^ k)
def RecOk (k : Nat) (below : Int) : Prop := ∀ q n, PuOk q n → n + 40 * 4 ^ k ≤ maxN → TmOk k n (termF k below q)
theorem stepF_ok {k : Nat} {below : Int} (b0 : 0 < below) (b1 : below ≤ 1000) (hr : ∀ k', k = k' + 1 → RecOk k' below) {q : Pu} {m c : Nat} {w : Str} (hq : PuOk q m) (hm : m + 10 * 4 ^ k ≤ maxN) (hc : c = 110 ∨ c = 104 ∨ c = 119 ∨ c = 116) (h0 : k = 0 → c ≠ 116) :
    tst c (stepF (recF k below) below w q c).1 = true ∧ Bd k (250 * 4 ^ k) (stepF (recF k below) below w q c).1 ∧ PuOk (stepF (recF k below) below w q c).2 (m + 10 * 4 ^ k) := by
  have c1 : 0 < 4 ^ k := Nat.pow_pos (by decide)
  rcases hc with rfl | rfl | rfl | rfl
  · have h2 : 0 < (if w = "maker" then (5 : Int) else below) ∧ (if w = "maker" then (5 : Int) else below) ≤ 1000 := by split <;> omega
    obtain ⟨t0, t1, t2⟩ := takeF_ok hq h2.1
    exact ⟨decide_eq_true t0, (Bd.int (by omega)).mono (Nat.zero_le _) (by omega), t2.more (by omega)⟩
  · obtain ⟨t0, t1, t2⟩ := takeF_ok (m := 6) hq (by decide)
    refine ⟨?_, (Bd.int (i := (takeF q 6).1) (by omega)).mono (Nat.zero_le _) (by omega), t2.more (by omega)⟩
    show (decide (0 ≤ (takeF q 6).1) && decide ((takeF q 6).1 ≤ 5)) = true
    rw [decide_eq_true t0, decide_eq_true (by omega : (takeF q 6).1 ≤ 5)]
    rfl
  · obtain ⟨t1, t2⟩ := wordF_ok hq
    exact ⟨t1, (Bd.str (name_fine t1)).mono (Nat.zero_le _) (by omega), t2.more (by omega)⟩
  · obtain ⟨k', rfl⟩ : ∃ k', k = k' + 1 := ⟨k - 1, by have := h0; omega⟩
    have pw : 4 ^ (k' + 1) = 4 * 4 ^ k' := by rw [Nat.pow_succ, Nat.mul_comm]
    obtain ⟨r1, r2, r3⟩ := hr k' rfl q m hq (by omega)
    exact ⟨r1, r2.mono (Nat.le_refl _) (by omega), r3.more (by omega)⟩
theorem runF_ok {k : Nat} {below : Int} (b0 : 0 < below) (b1 : below ≤ 1000) (hr : ∀ k', k = k' + 1 → RecOk k' below) {p : Pu} {m : Nat} {w : Str} (hp : PuOk p m) {cs : List Nat} (len : cs.length ≤ 3) (hm : m + 30 * 4 ^ k ≤ maxN) (hc : ∀ c ∈ cs, c = 110 ∨ c = 104 ∨ c = 119 ∨ c = 116) (h0 : k = 0 → ∀ c ∈ cs, c ≠ 116) :
    ∀ i, i ≤ cs.length → tstAll (cs.take i) (runF (recF k below) below w p (cs.take i)).1 = true ∧ BdAll k (i * (250 * 4 ^ k + 2)) (runF (recF k below) below w p (cs.take i)).1 ∧ PuOk (runF (recF k below) below w p (cs.take i)).2 (m + i * (10 * 4 ^ k)) ∧ (runF (recF k below) below w p (cs.take i)).1.length = i
  | 0, _ => ⟨by rw [List.take_zero]; rfl, by rw [List.take_zero]; exact BdAll.nil.mono (Nat.le_refl _) (Nat.zero_le _), by rw [List.take_zero]; exact hp.more (by omega), by rw [List.take_zero]; rfl⟩
  | i + 1, hi => by
    obtain ⟨h1, h2, h3, h4⟩ := runF_ok b0 b1 hr hp len hm hc h0 i (by omega)
    have hci := List.getElem?_eq_getElem (show i < cs.length by omega)
    have cm := List.mem_of_getElem? hci
    have iC : i * (10 * 4 ^ k) ≤ 2 * (10 * 4 ^ k) := Nat.mul_le_mul_right _ (by omega)
    obtain ⟨s1, s2, s3⟩ := stepF_ok (w := w) b0 b1 hr h3 (by omega) (hc _ cm) fun z => h0 z _ cm
    rw [take_snoc hci, runF_snoc]
    refine ⟨tstAll_snoc h1 s1, ?_, ?_, by rw [List.length_append, h4]; rfl⟩
    · exact (h2.append (BdAll.one s2)).mono (Nat.le_refl _) (Nat.le_of_eq (Nat.succ_mul i _).symm)
    · have e : m + (i + 1) * (10 * 4 ^ k) = m + i * (10 * 4 ^ k) + 10 * 4 ^ k := by rw [Nat.add_mul, Nat.one_mul]; omega
      rw [e]
      exact s3
/-- the word that is drawn -/
theorem drawn_word {k : Nat} {p : Pu} {n : Nat} (hp : PuOk p n) : ∃ e ∈ leaves ++ parted, (k = 0 → e ∈ leaves) ∧ wl[(takeF p (if k = 0 then 7 else 14)).1.toNat]? = some e.1 := by
  by_cases h : k = 0
  · rw [if_pos h]
    obtain ⟨t0, t1, _⟩ := takeF_ok (m := 7) hp (by decide)
    obtain ⟨e, he, hw⟩ := draw7 (takeF p 7).1.toNat (by omega)
    exact ⟨e, List.mem_append_left _ he, fun _ => he, hw⟩
  · rw [if_neg h]
    obtain ⟨t0, t1, _⟩ := takeF_ok (m := 14) hp (by decide)
    obtain ⟨e, he, hw⟩ := draw14 (takeF p 14).1.toNat (by omega)
    exact ⟨e, he, fun z => absurd z h, hw⟩
theorem word_fine : ∀ e ∈ leaves ++ parted, fine (.str e.1) = true := by decide +kernel
theorem termF_step {below : Int} (b0 : 0 < below) (b1 : below ≤ 1000) {k : Nat} (hr : ∀ k', k = k' + 1 → RecOk k' below) : RecOk k below := fun p n hp hn => by
  have c1 : 0 < 4 ^ k := Nat.pow_pos (by decide)
  rw [termF_eq]
  obtain ⟨e, he, hl, hw⟩ := drawn_word (k := k) hp
  obtain ⟨t0, t1, t2⟩ := takeF_ok (m := if k = 0 then 7 else 14) hp (by split <;> decide)
  obtain ⟨ef, elen, echars⟩ := form_of e he
  unfold bodyF
  rw [hw, Option.getD_some, formOf_eq e he]
  obtain ⟨h1, h2, h3, h4⟩ := runF_ok (w := e.1) b0 b1 hr t2 elen (by omega) echars (fun z c hc => leaf_not e (hl z) c hc) e.2.length (Nat.le_refl _)
  rw [List.take_length] at h1 h2 h3 h4
  have bl : e.2.length * (250 * 4 ^ k + 2) ≤ 3 * (250 * 4 ^ k + 2) := Nat.mul_le_mul_right _ elen
  have cl : e.2.length * (10 * 4 ^ k) ≤ 3 * (10 * 4 ^ k) := Nat.mul_le_mul_right _ elen
  refine ⟨built he h1, ?_, h3.more (by omega)⟩
  exact (Bd.tup (BdAll.cons (b := 220) ((Bd.str (word_fine e he)).mono (Nat.zero_le _) (Nat.le_refl _)) h2)).mono (Nat.le_refl _) (by omega)
theorem termF_ok {below : Int} (b0 : 0 < below) (b1 : below ≤ 1000) : ∀ k, RecOk k below
  | 0 => termF_step b0 b1 fun k' e => by cases e
  | k + 1 => termF_step b0 b1 fun k' e => by
    obtain rfl : k = k' := by omega
    exact termF_ok b0 b1 k
def tTerm (lim : Nat) : List PyData → List Sl → (Rv → List PyData → Prop) → Prop := fun c as Kr => ∃ p n k below, c = p.ds ∧ as = [.d (.int ((k : Nat) : Int)), .d (.int below)] ∧ PuOk p n ∧ k < lim ∧ 0 < below ∧ below ≤ 1000 ∧ n + 40 * 4 ^ k ≤ maxN ∧ Kr (.d (termF k below p).1) (termF k below p).2.ds
section
variable {ρ ρ' ρ1 ρ2 : List Sl} {te ta tb : TE} {KF : PySem.W.Frag} {E : XK}
theorem ev_forms {e : Str × List Nat} (he : e ∈ leaves ++ parted) {i : Nat} (h : ρ[i]? = some (.d (.str e.1))) : Ev (tDGet (tCall spForms [] E tNil) (tVar i)) ρ (.d (.str ⟨e.2.toArray⟩)) ρ := fun c A σ H Q R f q => by
  obtain ⟨_, v, e1, dn⟩ := R.sl i _ h
  obtain rfl := str_inv dn
  refine ⟨rfl, fun p H1 n S ed => ⟨_, e1, p, .str ⟨e.2.toArray⟩, rfl, (form_of e he).1 ▸ (DGet.k (k := Sum.inr e.1) ed : DGet H1 p (.str e.1) (valV formsK (Sum.inr e.1))), q _ A H1 (R.up S) f (vw_up S) (.str _)⟩⟩
end
section
variable {P : Program} {w : World} {K : PySem.W.Frag} {mg : Str → Option Value} {base : Heap}
abbrev nTm : List Str := ["_law_purse_here", "_law_depth", "_law_below", "_law_words", "_law_word_here", "_law_found", "_law_letter"]
abbrev psTm : List Str := ["_law_purse_here", "_law_depth", "_law_below"]
theorem scTm2 : FnScope nTm psTm (defScope sTm) := ⟨rfl, rfl, rfl, by decide +kernel, rfl, by decide +kernel, by decide +kernel⟩
theorem wl_at {j : Nat} {x : Str} (h : wl[j]? = some x) : atI (wl.map PyData.str) (j : Int) = some (.str x) := at_nat (by rw [List.getElem?_map, h]; rfl)
theorem ok_tm2 {f : Addr} {fd : FuncData} (D : Dfn K mg "_law_term" sTm f fd psTm) (T : Txt K w mg) (C_law_take : C8.Cal P w K mg base 1 "_law_take" (spB 1 tTake) []) (C_law_word : C8.Cal P w K mg base 2 "_law_word" (spB 0 tWord) []) (CF : C8.Cal P w K mg base 1 "_law_forms" spForms []) :
    ∀ lim : Nat, FnOk P w K mg base CX0 (3 + lim) f fd psTm (spB 2 (tTerm lim))
  | 0 => ⟨fun vs H Q E h => by
      obtain ⟨Z, p, cs, ct, ws, as, Kr, rfl, hp, hZ, ep, dc, ha, hl, hT, go⟩ := h
      rw [List.length_cons, ha.length, hl]
      rfl, fun A outer s H args us vs Q E hr e0 bt rv h => by
      obtain ⟨Z, p, cs, ct, ws, as, Kr, rfl, hp, hZ, ep, dc, ha, hl, ⟨_, _, _, _, _, _, _, h0, _⟩, go⟩ := h
      omega⟩
  | lim + 1 => by
    have C_law_term : C8.Cal P w K mg base (3 + lim) "_law_term" (spB 2 (tTerm lim)) [] := D.cal (ok_tm2 D T C_law_take C_law_word CF lim)
    refine fn_b (k := 3 + lim) D.fn scTm2 (body := fun cdv A outer s H E hr => ⟨_, (pss_cons (ps_set (i := 3) scTm2.nd rfl (Or.inl rfl) (pe_split pe_str pe_str))
      (pss_cons (ps_set (i := 4) scTm2.nd rfl (Or.inl rfl) (pe_ifExp (pt_cmpR op_eq (pv 1) pe_int (nomark _)) (pe_ix ix_list (pv 3) (C8.pe_c C_law_take hr (by omega) rfl (pa_cons (pv 0) (pa_cons pe_int pa_nil))) (fun _ _ => rfl)) (pe_ix ix_list (pv 3) (C8.pe_c C_law_take hr (by omega) rfl (pa_cons (pv 0) (pa_cons pe_int pa_nil))) (fun _ _ => rfl))))
      (pss_cons (ps_set (i := 5) scTm2.nd rfl (Or.inl rfl) (pe_lst (pa_cons (pv 4) pa_nil)))
      (pss_cons (ps_for PassesOwn.never rfl (pi_str (pe_dget (hu_of hr) (pe_c0 CF hr (by omega) rfl) (pv 4) (fun _ _ => rfl))) (pg_name (i := 6) scTm2.nd rfl (Or.inl rfl)) (pss_cons (ps_if (pt_cmpR op_eq (pv 6) pe_str (nomark _)) (pss_one (ps_expr (pe_bm PySem.F.plainAttrs_list PySem.F.slot_list_append PySem.F.type_list_append mt_append (pv 5) (pa_cons (C8.pe_c C_law_take hr (by omega) rfl (pa_cons (pv 0) (pa_cons (pe_ix ix_list (pe_lst (pa_cons (pv 2) (pa_cons pe_int pa_nil))) (pe_callTy call_int1 (by rfl) T.int (by decide +kernel) (pa_cons (pe_cmpR op_eq (pv 4) pe_str (nomark _)) pa_nil)) (fun _ _ => rfl)) pa_nil))) pa_nil)))) pss_nil) (pss_cons (ps_if (pt_cmpR op_eq (pv 6) pe_str (nomark _)) (pss_one (ps_expr (pe_bm PySem.F.plainAttrs_list PySem.F.slot_list_append PySem.F.type_list_append mt_append (pv 5) (pa_cons (C8.pe_c C_law_take hr (by omega) rfl (pa_cons (pv 0) (pa_cons pe_int pa_nil))) pa_nil)))) pss_nil) (pss_cons (ps_if (pt_cmpR op_eq (pv 6) pe_str (nomark _)) (pss_one (ps_expr (pe_bm PySem.F.plainAttrs_list PySem.F.slot_list_append PySem.F.type_list_append mt_append (pv 5) (pa_cons (C8.pe_c C_law_word hr (by omega) rfl (pa_cons (pv 0) pa_nil)) pa_nil)))) pss_nil) (pss_one (ps_if (pt_cmpR op_eq (pv 6) pe_str (nomark _)) (pss_one (ps_expr (pe_bm PySem.F.plainAttrs_list PySem.F.slot_list_append PySem.F.type_list_append mt_append (pv 5) (pa_cons (C8.pe_c C_law_term hr (by omega) rfl (pa_cons (pv 0) (pa_cons (pe_op op_sub (pv 1) pe_int) (pa_cons (pv 2) pa_nil)))) pa_nil)))) pss_nil))))))
      (pss_one (ps_ret (pe_callTy call_tuple_of (by rfl) T.tuple (by decide +kernel) (pa_cons (pv 5) pa_nil)))))))), ?_⟩)
    rintro ct as Kr _ ⟨p, n, k, below, rfl, rfl, hp, hk, b0, b1, hn, kk⟩
    have c1 : 0 < 4 ^ k := Nat.pow_pos (by decide)
    rw [termF_eq] at kk
    obtain ⟨e, he, hl, hw⟩ := drawn_word (k := k) hp
    obtain ⟨t0, t1, t2⟩ := takeF_ok (m := if k = 0 then 7 else 14) hp (by split <;> decide)
    obtain ⟨ef, elen, echars⟩ := form_of e he
    unfold bodyF at kk
    rw [hw, Option.getD_some, formOf_eq e he] at kk
    have run := runF_ok (w := e.1) b0 b1 (fun k' _ => termF_ok b0 b1 k') t2 elen (by omega) echars (fun z c hc => leaf_not e (hl z) c hc)
    have gt : ∀ b : Bool, b = decide (((k : Nat) : Int) = 0) → takeF p (if k = 0 then 7 else 14) = takeF p (if b = true then 7 else 14) := fun b hb => by
      rw [hb]
      by_cases z : k = 0
      · rw [if_pos z, if_pos (by rw [z]; rfl)]
      · rw [if_neg z, if_neg (by simpa using z)]
    generalize hq : takeF p (if k = 0 then 7 else 14) = q at *
    have ix : atI (wl.map PyData.str) q.1 = some (.str e.1) := by
      have := wl_at hw
      rw [Int.toNat_of_nonneg t0] at this
      exact this
    have nM : n ≤ maxN := by omega
    refine (sm_seq (sm_set (Ev.of_el (ev_splitS ev_str ev_str (by decide +kernel) (by decide +kernel))) ?_))
    rw [wl_split]
    refine (sm_seq (sm_set (s := .d (.str e.1)) (ρ1 := [.l q.2.ds, .d (.int ((k : Nat) : Int)), .d (.int below), .d (.list (wl.map .str)), .un, .un, .un]) (ev_if (et_test (ev_op (ev_var rfl) ev_int fv_eqI)) (fun h => ?_) (fun h => ?_)) (sm_seq (sm_setL (el_lst (eds_cons (ev_var rfl) eds_nil)) (sm_seq (sm_for (fi_str (ev_forms he rfl)) (fun j ρ => ∃ s6, ρ = [.l (runF (recF k below) below e.1 q.2 (e.2.take j)).2.ds, .d (.int ((k : Nat) : Int)), .d (.int below), .d (.list (wl.map .str)), .d (.str e.1), .l (.str e.1 :: (runF (recF k below) below e.1 q.2 (e.2.take j)).1), s6]) ⟨.un, rfl⟩ (fun j x ρ ex r => ?_) (fun ρ r => ?_)))))))
    · have z := gt _ h.symm
      rw [if_pos rfl] at z
      exact ev_op (ev_var rfl) (ev_callB (i := 0) rfl (es_cons ev_int es_nil) rfl ar_nil rfl (got_take' z.symm hp nM (by decide) (by decide))) (fv_ixL ix)
    · have z := gt _ h.symm
      rw [if_neg (by decide)] at z
      exact ev_op (ev_var rfl) (ev_callB (i := 0) rfl (es_cons ev_int es_nil) rfl ar_nil rfl (got_take' z.symm hp nM (by decide) (by decide))) (fv_ixL ix)
    · obtain ⟨s6, rfl⟩ := r
      obtain ⟨cc, hc, rfl⟩ : ∃ cc, e.2[j]? = some cc ∧ x = .str ⟨#[cc]⟩ := by
        rw [List.getElem?_map] at ex
        cases z : (⟨e.2.toArray⟩ : Str).cps.toList[j]? with
        | none => rw [z] at ex; cases ex
        | some u =>
          rw [z] at ex
          refine ⟨u, ?_, (Option.some.inj ex).symm⟩
          simpa using z
      have cm : cc ∈ e.2 := List.mem_of_getElem? hc
      have j3 : j < 3 := Nat.lt_of_lt_of_le (List.getElem?_eq_some_iff.mp hc).1 elen
      have jC : j * (10 * 4 ^ k) ≤ 2 * (10 * 4 ^ k) := Nat.mul_le_mul_right _ (by omega)
      obtain ⟨r1, r2, r3, r4⟩ := run j (Nat.le_of_lt (List.getElem?_eq_some_iff.mp hc).1)
      rw [take_snoc hc, runF_snoc]
      generalize hR : runF (recF k below) below e.1 q.2 (e.2.take j) = R at r1 r2 r3 r4 ⊢
      have small : (.str e.1 :: R.1).length < sizeLine := by
        rw [List.length_cons, r4, sizeLine_eq]
        omega
      have fin : ∀ {d : PyData} {q' : Pu}, stepF (recF k below) below e.1 R.2 cc = (d, q') → ∃ s6, ([.l q'.ds, .d (.int ((k : Nat) : Int)), .d (.int below), .d (.list (wl.map .str)), .d (.str e.1), .l (.str e.1 :: R.1 ++ [d]), .d (.str ⟨#[cc]⟩)] : List Sl) = [.l (R.1 ++ [(stepF (recF k below) below e.1 R.2 cc).1], (stepF (recF k below) below e.1 R.2 cc).2).2.ds, .d (.int ((k : Nat) : Int)), .d (.int below), .d (.list (wl.map .str)), .d (.str e.1), .l (.str e.1 :: (R.1 ++ [(stepF (recF k below) below e.1 R.2 cc).1], (stepF (recF k below) below e.1 R.2 cc).2).1), s6] := fun {d q'} z => ⟨_, by rw [z]; rfl⟩
      have no : ∀ {x y : Str} {K' : KK} {ρ' : List Sl} {A B : Prop}, x ≠ y → decide (x = y) = true → A := fun n z => absurd (of_decide_eq_true z) n
      have yes : ∀ {x : Str} {A : Prop}, decide (x = x) = false → A := fun z => absurd rfl (of_decide_eq_false z)
      rcases echars cc cm with rfl | rfl | rfl | rfl
      · obtain ⟨m, m0, m1, hm, em⟩ : ∃ m : Int, 0 < m ∧ m ≤ 1000 ∧ atI [PyData.int below, .int 5] (if decide (e.1 = "maker") = true then 1 else 0) = some (.int m) ∧ m = if e.1 = "maker" then 5 else below := by
          by_cases z : e.1 = "maker"
          · exact ⟨5, by decide, by decide, by rw [if_pos (decide_eq_true z)]; rfl, by rw [if_pos z]⟩
          · exact ⟨below, b0, b1, by rw [if_neg (by simpa using z)]; rfl, by rw [if_neg z]⟩
        refine ⟨_, tg_name, sm_seq (sm_if (et_test (ev_op (ev_var rfl) ev_str fv_eqS)) (fun h => sm_app rfl (ev_callB (i := 0) rfl (es_cons (ev_op (Ev.of_el (el_lst (eds_cons (ev_var rfl) (eds_cons ev_int eds_nil)))) (ev_fn (es_cons (ev_op (ev_var rfl) ev_str fv_eqS) es_nil) fv_intB) (fv_ixL hm)) es_nil) rfl ar_nil rfl (got_take r3 (by omega) m0 (by omega))) rfl small ?_) (fun h => absurd h (by decide +kernel)))⟩
        refine sm_seq (sm_if (et_test (ev_op (ev_var rfl) ev_str fv_eqS)) (fun h => absurd h (by decide +kernel)) fun _ => sm_next (sm_seq (sm_if (et_test (ev_op (ev_var rfl) ev_str fv_eqS)) (fun h => absurd h (by decide +kernel)) fun _ => sm_next (sm_if (et_test (ev_op (ev_var rfl) ev_str fv_eqS)) (fun h => absurd h (by decide +kernel)) fun _ => sm_next ?_))))
        refine fin ?_
        show (PyData.int (takeF R.2 (if e.1 = "maker" then 5 else below)).1, (takeF R.2 (if e.1 = "maker" then 5 else below)).2) = _
        rw [← em]
      · refine ⟨_, tg_name, sm_seq (sm_if (et_test (ev_op (ev_var rfl) ev_str fv_eqS)) (fun h => absurd h (by decide +kernel)) fun _ => sm_next (sm_seq (sm_if (et_test (ev_op (ev_var rfl) ev_str fv_eqS)) (fun h => sm_app rfl (ev_callB (i := 0) rfl (es_cons ev_int es_nil) rfl ar_nil rfl (got_take r3 (by omega) (by decide) (by decide))) rfl small ?_) (fun h => absurd h (by decide +kernel)))))⟩
        refine (sm_seq (sm_if (et_test (ev_op (ev_var rfl) ev_str fv_eqS)) (fun h => absurd h (by decide +kernel)) fun _ => sm_next (sm_if (et_test (ev_op (ev_var rfl) ev_str fv_eqS)) (fun h => absurd h (by decide +kernel)) fun _ => sm_next ?_)))
        exact fin rfl
      · refine ⟨_, tg_name, sm_seq (sm_if (et_test (ev_op (ev_var rfl) ev_str fv_eqS)) (fun h => absurd h (by decide +kernel)) fun _ => sm_next (sm_seq (sm_if (et_test (ev_op (ev_var rfl) ev_str fv_eqS)) (fun h => absurd h (by decide +kernel)) fun _ => sm_next (sm_seq (sm_if (et_test (ev_op (ev_var rfl) ev_str fv_eqS)) (fun h => sm_app rfl (ev_callB (i := 0) rfl es_nil rfl ar_nil rfl ⟨R.2, _, rfl, rfl, r3, by omega, rfl, rfl⟩) rfl small ?_) (fun h => absurd h (by decide +kernel)))))))⟩
        refine (sm_if (et_test (ev_op (ev_var rfl) ev_str fv_eqS)) (fun h => absurd h (by decide +kernel)) fun _ => sm_next ?_)
        exact fin rfl
      · have k0 : k ≠ 0 := fun z => leaf_not e (hl z) 116 cm rfl
        obtain ⟨k', rfl⟩ : ∃ k', k = k' + 1 := ⟨k - 1, by omega⟩
        have pw : 4 ^ (k' + 1) = 4 * 4 ^ k' := by rw [Nat.pow_succ, Nat.mul_comm]
        have ek : (((k' + 1 : Nat) : Int) - 1) = (k' : Int) := by omega
        refine ⟨_, tg_name, sm_seq (sm_if (et_test (ev_op (ev_var rfl) ev_str fv_eqS)) (fun h => absurd h (by decide +kernel)) fun _ => sm_next (sm_seq (sm_if (et_test (ev_op (ev_var rfl) ev_str fv_eqS)) (fun h => absurd h (by decide +kernel)) fun _ => sm_next (sm_seq (sm_if (et_test (ev_op (ev_var rfl) ev_str fv_eqS)) (fun h => absurd h (by decide +kernel)) fun _ => sm_next (sm_if (et_test (ev_op (ev_var rfl) ev_str fv_eqS)) (fun h => sm_app rfl (ev_callB (i := 0) rfl (es_cons (ev_op (ev_var rfl) ev_int fv_int) (es_cons (ev_var rfl) es_nil)) rfl ar_nil rfl ⟨R.2, _, k', below, rfl, by rw [ek]; rfl, r3, by omega, b0, b1, by omega, rfl, rfl⟩) rfl small ?_) (fun h => absurd h (by decide +kernel))))))))⟩
        exact fin rfl
    · obtain ⟨s6, rfl⟩ := r
      have full : ((⟨e.2.toArray⟩ : Str).cps.toList.map fun c => PyData.str ⟨#[c]⟩).length = e.2.length := by
        rw [List.length_map]
      rw [full, List.take_length]
      exact sm_ret (ev_fn (es_cons (ev_varF rfl) es_nil) fv_tupL) ⟨_, rfl, kk⟩
end
end KP
set_option Elab.async false
set_option linter.unusedVariables false
set_option linter.unusedSectionVars false
set_option maxRecDepth 100000
set_option maxHeartbeats 2000000
namespace KP
open PySem PySem.Spec PyProof.Rows L2 KA OW
/-! ### terms within others -/
def kindT (h : Int) : PyData := .tuple [.str "kind", .int h]
def fewF (d : PyData) : List PyData := [.tuple [.str "app", kindT 0, d], .tuple [.str "fun", kindT 1, d], .tuple [.str "all", d, kindT 2], .tuple [.str "all", .tuple [.str "at", .int 0], d]]
def foldF : Nat → PyData → Pu → PyData × Pu
  | 0, d, p => (d, p)
  | k + 1, d, p => (((fewF (foldF k d p).1)[(takeF (foldF k d p).2 4).1.toNat]?).getD .none, (takeF (foldF k d p).2 4).2)
def anyF (deep below : Int) (p : Pu) : PyData × Pu :=
  if 0 < (takeF p 4).1 then termF (takeF (takeF p 4).2 deep).1.toNat below (takeF (takeF p 4).2 deep).2
  else foldF (takeF (termF (takeF (takeF p 4).2 4).1.toNat below (takeF (takeF p 4).2 4).2).2 55).1.toNat (termF (takeF (takeF p 4).2 4).1.toNat below (takeF (takeF p 4).2 4).2).1
    (takeF (termF (takeF (takeF p 4).2 4).1.toNat below (takeF (takeF p 4).2 4).2).2 55).2
theorem pow4 {k : Nat} (h : k ≤ 4) : 4 ^ k ≤ 256 := Nat.le_trans (Nat.pow_le_pow_right (by decide) h) (by decide)
theorem pow5 {k : Nat} (h : k ≤ 5) : 4 ^ k ≤ 1024 := Nat.le_trans (Nat.pow_le_pow_right (by decide) h) (by decide)
theorem kind_ok (h : Int) (h0 : 0 ≤ h) (h5 : h ≤ 5) : tm (kindT h) = true ∧ Bd 1 300 (kindT h) := by
  refine ⟨?_, (Bd.tup (BdAll.cons (Bd.str (x := "kind") (by decide +kernel)) (BdAll.one (Bd.int (i := h) (by omega))))).mono (Nat.le_refl _) (by decide)⟩
  unfold kindT
  rw [tm_leaf (by decide +kernel)]
  show (decide (0 ≤ h) && decide (h ≤ 5)) = true
  rw [decide_eq_true h0, decide_eq_true h5]
  rfl
theorem at_ok : tm (.tuple [.str "at", .int 0]) = true ∧ Bd 1 300 (.tuple [.str "at", .int 0]) := by
  refine ⟨?_, (Bd.tup (BdAll.cons (Bd.str (x := "at") (by decide +kernel)) (BdAll.one (Bd.int (i := 0) (by decide))))).mono (Nat.le_refl _) (by decide)⟩
  rw [tm_leaf (by decide +kernel)]
  rfl
theorem wrap {w : Str} {a b : PyData} {dp s1 s2 : Nat} (hw : parts w = some 2) (fw : fine (.str w) = true) (ha : tm a = true) (hb : tm b = true) (ba : Bd dp s1 a) (bb : Bd dp s2 b) : tm (.tuple [.str w, a, b]) = true ∧ Bd (dp + 1) (s1 + s2 + 300) (.tuple [.str w, a, b]) := by
  refine ⟨?_, (Bd.tup (BdAll.cons ((Bd.str fw).mono (Nat.zero_le _) (Nat.le_refl _)) (BdAll.cons ba (BdAll.one bb)))).mono (Nat.le_refl _) (by omega)⟩
  rw [tm_parts hw]
  simp only [tmAll, ha, hb]
  rfl
theorem few_ok {d : PyData} {dp sz : Nat} (h1 : 1 ≤ dp) (td : tm d = true) (bd : Bd dp sz d) : ∀ g ∈ fewF d, tm g = true ∧ Bd (dp + 1) (sz + 600) g := by
  have K0 := kind_ok 0 (by decide) (by decide)
  have K1 := kind_ok 1 (by decide) (by decide)
  have K2 := kind_ok 2 (by decide) (by decide)
  intro g hg
  unfold fewF at hg
  simp only [List.mem_cons, List.not_mem_nil, or_false] at hg
  rcases hg with rfl | rfl | rfl | rfl
  · have := wrap (w := "app") (by decide +kernel) (by decide +kernel) K0.1 td (K0.2.mono h1 (Nat.le_refl _)) bd
    exact ⟨this.1, this.2.mono (by omega) (by omega)⟩
  · have := wrap (w := "fun") (by decide +kernel) (by decide +kernel) K1.1 td (K1.2.mono h1 (Nat.le_refl _)) bd
    exact ⟨this.1, this.2.mono (by omega) (by omega)⟩
  · have := wrap (w := "all") (by decide +kernel) (by decide +kernel) td K2.1 bd (K2.2.mono h1 (Nat.le_refl _))
    exact ⟨this.1, this.2.mono (by omega) (by omega)⟩
  · have := wrap (w := "all") (by decide +kernel) (by decide +kernel) at_ok.1 td (at_ok.2.mono h1 (Nat.le_refl _)) bd
    exact ⟨this.1, this.2.mono (by omega) (by omega)⟩
theorem foldF_ok {d : PyData} {dp sz n : Nat} {p : Pu} (h1 : 1 ≤ dp) (td : tm d = true) (bd : Bd dp sz d) (hp : PuOk p n) : ∀ k, tm (foldF k d p).1 = true ∧ Bd (dp + k) (sz + 600 * k) (foldF k d p).1 ∧ PuOk (foldF k d p).2 (n + k)
  | 0 => ⟨td, bd, hp⟩
  | k + 1 => by
    obtain ⟨a, b, c⟩ := foldF_ok h1 td bd hp k
    obtain ⟨t0, t1, t2⟩ := takeF_ok (m := 4) c (by decide)
    have lt : (takeF (foldF k d p).2 4).1.toNat < (fewF (foldF k d p).1).length := by
      show _ < 4
      omega
    have e := List.getElem?_eq_getElem lt
    obtain ⟨x, y⟩ := few_ok (by omega) a b _ (List.mem_of_getElem? e)
    show tm (((fewF (foldF k d p).1)[(takeF (foldF k d p).2 4).1.toNat]?).getD .none) = true ∧ Bd _ _ (((fewF (foldF k d p).1)[(takeF (foldF k d p).2 4).1.toNat]?).getD .none) ∧ _
    rw [e, Option.getD_some]
    exact ⟨x, y.mono (by omega) (by omega), t2⟩
def AnyOk (n : Nat) (r : PyData × Pu) : Prop := tm r.1 = true ∧ Bd 58 1100000 r.1 ∧ PuOk r.2 (n + 50000)
theorem anyF_ok {deep below : Int} {p : Pu} {n : Nat} (d0 : 0 < deep) (d6 : deep ≤ 6) (b0 : 0 < below) (b1 : below ≤ 1000) (hp : PuOk p n) (hn : n + 50000 ≤ maxN) : AnyOk n (anyF deep below p) := by
  obtain ⟨t0, t1, t2⟩ := takeF_ok (m := 4) hp (by decide)
  unfold anyF
  split
  · obtain ⟨u0, u1, u2⟩ := takeF_ok (m := deep) t2 d0
    have k5 := pow5 (k := (takeF (takeF p 4).2 deep).1.toNat) (by omega)
    obtain ⟨a, b, c⟩ := termF_ok b0 b1 (takeF (takeF p 4).2 deep).1.toNat _ _ u2 (by omega)
    exact ⟨a, b.mono (by omega) (by omega), c.more (by omega)⟩
  · obtain ⟨u0, u1, u2⟩ := takeF_ok (m := 4) t2 (by decide)
    have k4 := pow4 (k := (takeF (takeF p 4).2 4).1.toNat) (by omega)
    have k64 : 4 ^ (takeF (takeF p 4).2 4).1.toNat ≤ 64 := Nat.le_trans (Nat.pow_le_pow_right (by decide) (by omega : (takeF (takeF p 4).2 4).1.toNat ≤ 3)) (by decide)
    obtain ⟨a, b, c⟩ := termF_ok b0 b1 (takeF (takeF p 4).2 4).1.toNat _ _ u2 (by omega)
    obtain ⟨v0, v1, v2⟩ := takeF_ok (m := 55) c (by decide)
    obtain ⟨x, y, z⟩ := foldF_ok (by omega) a b v2 (takeF (termF (takeF (takeF p 4).2 4).1.toNat below (takeF (takeF p 4).2 4).2).2 55).1.toNat
    exact ⟨x, y.mono (by omega) (by omega), z.more (by omega)⟩
def tAny : List PyData → List Sl → (Rv → List PyData → Prop) → Prop := fun c as Kr => ∃ p n deep below, c = p.ds ∧ as = [.d (.int deep), .d (.int below)] ∧ PuOk p n ∧ 0 < deep ∧ deep ≤ 6 ∧ 0 < below ∧ below ≤ 1000 ∧ n + 50000 ≤ maxN ∧ Kr (.d (anyF deep below p).1) (anyF deep below p).2.ds
theorem got_term {lim : Nat} {p : Pu} {n : Nat} {r below : Int} (hp : PuOk p n) (r0 : 0 ≤ r) (hk : r.toNat < lim) (b0 : 0 < below) (b1 : below ≤ 1000) (hn : n + 40 * 4 ^ r.toNat ≤ maxN) :
    tTerm lim p.ds ([.d (.int r), .d (.int below)] ++ []) (fun s c' => s = .d (termF r.toNat below p).1 ∧ c' = (termF r.toNat below p).2.ds) :=
  ⟨p, n, r.toNat, below, rfl, by rw [Int.toNat_of_nonneg r0]; rfl, hp, hk, b0, b1, hn, rfl, rfl⟩
section
variable {P : Program} {w : World} {K : PySem.W.Frag} {mg : Str → Option Value} {base : Heap}
abbrev nAny : List Str := ["_law_purse_here", "_law_deep", "_law_below", "_law_found", "_law_turn", "_law_few"]
theorem scAny2 : FnScope nAny ["_law_purse_here", "_law_deep", "_law_below"] (defScope sAny) := ⟨rfl, rfl, rfl, by decide +kernel, rfl, by decide +kernel, by decide +kernel⟩
theorem ok_any2 {f : Addr} {fd : FuncData} (F : Fun K "_law_any" "_law_any" sAny f fd) (T : Txt K w mg) (C_law_take : C8.Cal P w K mg base 1 "_law_take" (spB 1 tTake) []) (C_law_term : C8.Cal P w K mg base 9 "_law_term" (spB 2 (tTerm 6)) []) :
    FnOk P w K mg base CX0 10 f fd ["_law_purse_here", "_law_deep", "_law_below"] (spB 2 tAny) := by
  refine fn_b F scAny2 (body := fun cdv A outer s H E hr => ⟨_, (pss_cons (ps_if (pt_cmpR op_gt (C8.pe_c C_law_take hr (by decide) rfl (pa_cons (pv 0) (pa_cons pe_int pa_nil))) pe_int (nomark _)) (pss_one (ps_ret (C8.pe_c C_law_term hr (by decide) rfl (pa_cons (pv 0) (pa_cons (C8.pe_c C_law_take hr (by decide) rfl (pa_cons (pv 0) (pa_cons (pv 1) pa_nil))) (pa_cons (pv 2) pa_nil)))))) pss_nil) (pss_cons (ps_set (i := 3) scAny2.nd rfl (Or.inl rfl) (C8.pe_c C_law_term hr (by decide) rfl (pa_cons (pv 0) (pa_cons (C8.pe_c C_law_take hr (by decide) rfl (pa_cons (pv 0) (pa_cons pe_int pa_nil))) (pa_cons (pv 2) pa_nil)))))
      (pss_cons (ps_for PassesOwn.never rfl (pi_range1 (by rfl) T.range (pa_cons (C8.pe_c C_law_take hr (by decide) rfl (pa_cons (pv 0) (pa_cons pe_int pa_nil))) pa_nil)) (pg_name (i := 4) scAny2.nd rfl (Or.inl rfl)) (pss_cons (ps_set (i := 5) scAny2.nd rfl (Or.inl rfl) (pe_lst (pa_cons (pe_tup (pa_cons pe_str (pa_cons (pe_tup (pa_cons pe_str (pa_cons pe_int pa_nil))) (pa_cons (pv 3) pa_nil)))) (pa_cons (pe_tup (pa_cons pe_str (pa_cons (pe_tup (pa_cons pe_str (pa_cons pe_int pa_nil))) (pa_cons (pv 3) pa_nil)))) (pa_cons (pe_tup (pa_cons pe_str (pa_cons (pv 3) (pa_cons (pe_tup (pa_cons pe_str (pa_cons pe_int pa_nil))) pa_nil)))) pa_nil)))))
      (pss_cons (ps_expr (pe_bm PySem.F.plainAttrs_list PySem.F.slot_list_append PySem.F.type_list_append mt_append (pv 5) (pa_cons (pe_tup (pa_cons pe_str (pa_cons (pe_tup (pa_cons pe_str (pa_cons pe_int pa_nil))) (pa_cons (pv 3) pa_nil)))) pa_nil)))
      (pss_one (ps_set (i := 3) scAny2.nd rfl (Or.inl rfl) (pe_ix ix_list (pv 5) (C8.pe_c C_law_take hr (by decide) rfl (pa_cons (pv 0) (pa_cons pe_int pa_nil))) (fun _ _ => rfl)))))))
      (pss_one (ps_ret (pv 3)))))), ?_⟩)
  rintro ct as Kr _ ⟨p, n, deep, below, rfl, rfl, hp, d0, d6, b0, b1, hn, k⟩
  obtain ⟨t0, t1, t2⟩ := takeF_ok (m := 4) hp (by decide)
  have nM : n ≤ maxN := by omega
  unfold anyF at k
  refine sm_seq (sm_if (et_test (ev_op (ev_callB (i := 0) rfl (es_cons ev_int es_nil) rfl ar_nil rfl (got_take hp nM (by decide) (by decide))) ev_int fv_cmpI)) (fun h => ?_) fun h => sm_next ?_)
  · rw [if_pos (of_decide_eq_true h)] at k
    obtain ⟨u0, u1, u2⟩ := takeF_ok (m := deep) t2 d0
    have k5 := pow5 (k := (takeF (takeF p 4).2 deep).1.toNat) (by omega)
    exact sm_ret (ev_callB (i := 0) rfl (es_cons (ev_callB (i := 0) rfl (es_cons (ev_var rfl) es_nil) rfl ar_nil rfl (got_take t2 (by omega) d0 (by omega))) (es_cons (ev_var rfl) es_nil)) rfl ar_nil rfl (got_term u2 u0 (by omega) b0 b1 (by omega))) ⟨_, rfl, k⟩
  · rw [if_neg (of_decide_eq_false h)] at k
    obtain ⟨u0, u1, u2⟩ := takeF_ok (m := 4) t2 (by decide)
    have k64 : 4 ^ (takeF (takeF p 4).2 4).1.toNat ≤ 64 := Nat.le_trans (Nat.pow_le_pow_right (by decide) (by omega : (takeF (takeF p 4).2 4).1.toNat ≤ 3)) (by decide)
    obtain ⟨a, b, c⟩ := termF_ok b0 b1 (takeF (takeF p 4).2 4).1.toNat _ _ u2 (by omega)
    refine sm_seq (sm_set (ev_callB (i := 0) rfl (es_cons (ev_callB (i := 0) rfl (es_cons ev_int es_nil) rfl ar_nil rfl (got_take t2 (by omega) (by decide) (by decide))) (es_cons (ev_var rfl) es_nil)) rfl ar_nil rfl (got_term u2 u0 (by omega) b0 b1 (by omega))) ?_)
    generalize termF (takeF (takeF p 4).2 4).1.toNat below (takeF (takeF p 4).2 4).2 = R at *
    obtain ⟨v0, v1, v2⟩ := takeF_ok (m := 55) c (by decide)
    have fo := fun j => foldF_ok (by omega) a b v2 j
    refine sm_seq (sm_for (fi_rng1 (eds_cons (ev_callB (i := 0) rfl (es_cons ev_int es_nil) rfl ar_nil rfl (got_take c (by omega) (by decide) (by decide))) eds_nil) (by omega))
      (fun j ρ => ∃ s4 s5, ρ = [.l (foldF j R.1 (takeF R.2 55).2).2.ds, .d (.int deep), .d (.int below), .d (foldF j R.1 (takeF R.2 55).2).1, s4, s5]) ⟨.un, .un, rfl⟩ (fun j x ρ ex r => ?_) (fun ρ r => ?_))
    · obtain ⟨s4, s5, rfl⟩ := r
      obtain ⟨lt, rfl⟩ := rngD_at ex
      obtain ⟨x1, x2, x3⟩ := fo j
      have nj : n + 1 + 1 + 40 * 4 ^ (takeF (takeF p 4).2 4).1.toNat + 1 + j ≤ maxN := by omega
      have e1 : foldF (j + 1) R.1 (takeF R.2 55).2 = (((fewF (foldF j R.1 (takeF R.2 55).2).1)[(takeF (foldF j R.1 (takeF R.2 55).2).2 4).1.toNat]?).getD .none, (takeF (foldF j R.1 (takeF R.2 55).2).2 4).2) := rfl
      rw [e1]
      generalize foldF j R.1 (takeF R.2 55).2 = Y at x1 x2 x3 ⊢
      obtain ⟨y0, y1, y2⟩ := takeF_ok (m := 4) x3 (by decide)
      have lt4 : (takeF Y.2 4).1.toNat < (fewF Y.1).length := by
        show _ < 4
        omega
      have e := List.getElem?_eq_getElem lt4
      have ea : atI (fewF Y.1) (takeF Y.2 4).1 = some ((fewF Y.1)[(takeF Y.2 4).1.toNat]) := by
        have := at_nat e
        rw [Int.toNat_of_nonneg y0] at this
        exact this
      refine ⟨_, tg_name, (sm_seq (sm_setL (el_lst (eds_cons (ev_tup (eds_cons ev_str (eds_cons (ev_tup (eds_cons ev_str (eds_cons ev_int eds_nil))) (eds_cons (ev_var rfl) eds_nil)))) (eds_cons (ev_tup (eds_cons ev_str (eds_cons (ev_tup (eds_cons ev_str (eds_cons ev_int eds_nil))) (eds_cons (ev_var rfl) eds_nil)))) (eds_cons (ev_tup (eds_cons ev_str (eds_cons (ev_var rfl) (eds_cons (ev_tup (eds_cons ev_str (eds_cons ev_int eds_nil))) eds_nil)))) eds_nil)))) (sm_seq (sm_app rfl (ev_tup (eds_cons ev_str (eds_cons (ev_tup (eds_cons ev_str (eds_cons ev_int eds_nil))) (eds_cons (ev_var rfl) eds_nil)))) rfl ?_ (sm_set (ev_ixO (xs := fewF Y.1) rfl (ev_callB (i := 0) rfl (es_cons ev_int es_nil) rfl ar_nil rfl (got_take x3 (by omega) (by decide) (by decide))) rfl ea) ?_)))))⟩
      · show 3 < sizeLine
        rw [sizeLine_eq]
        decide
      · exact ⟨_, _, by rw [e, Option.getD_some]; rfl⟩
    · obtain ⟨s4, s5, rfl⟩ := r
      rw [rngD_len]
      exact sm_ret (ev_var rfl) ⟨_, rfl, k⟩
end
end KP
set_option Elab.async false
set_option linter.unusedVariables false
set_option linter.unusedSectionVars false
set_option maxRecDepth 100000
set_option maxHeartbeats 4000000
namespace KP
open PySem PySem.Spec PyProof.Rows L2 KA OW
/-! ### flat data whose numbers lie under a bound -/
mutual
def capB (B : Int) : PyData → Bool
  | .int i => decide (0 ≤ i) && decide (i ≤ B)
  | .list ds => capAll B ds
  | .tuple ds => capAll B ds
  | _ => true
def capAll (B : Int) : List PyData → Bool
  | [] => true
  | d :: ds => capB B d && capAll B ds
end
theorem cap_int {B i : Int} (h0 : 0 ≤ i) (h1 : i ≤ B) : capB B (.int i) = true := by
  show (decide (0 ≤ i) && decide (i ≤ B)) = true
  rw [decide_eq_true h0, decide_eq_true h1]
  rfl
theorem capAll_snoc {B : Int} {x : PyData} : ∀ {xs : List PyData}, capAll B xs = true → capB B x = true → capAll B (xs ++ [x]) = true
  | [], _, h => by
    show (capB B x && true) = true
    rw [h]
    rfl
  | y :: ys, h, hx => by
    have h : capB B y = true ∧ capAll B ys = true := by simpa only [capAll, Bool.and_eq_true] using h
    show (capB B y && capAll B (ys ++ [x])) = true
    rw [h.1, capAll_snoc h.2 hx]
    rfl
theorem take_in {p : Pu} {m : Int} (h : 0 < m) : 0 ≤ (takeF p m).1 ∧ (takeF p m).1 < m := by
  unfold takeF
  split
  · exact ⟨Int.emod_nonneg _ (by omega), Int.emod_lt_of_pos _ h⟩
  · exact ⟨Int.emod_nonneg _ (by omega), Int.emod_lt_of_pos _ h⟩
theorem step_cap {B : Int} {rec : Pu → PyData × Pu} {below : Int} {w : Str} {q : Pu} {c : Nat} (b5 : 5 ≤ B) (b0 : 0 < below) (b1 : below ≤ B + 1) (hr : ∀ q, capB B (rec q).1 = true) : capB B (stepF rec below w q c).1 = true := by
  unfold stepF
  split
  · have h2 : 0 < (if w = "maker" then (5 : Int) else below) ∧ (if w = "maker" then (5 : Int) else below) ≤ B + 1 := by split <;> omega
    have := take_in (p := q) h2.1
    exact cap_int this.1 (by omega)
  · split
    · have := take_in (p := q) (m := 6) (by decide)
      exact cap_int this.1 (by omega)
    · split
      · rfl
      · exact hr q
theorem fold_cap {B : Int} {rec : Pu → PyData × Pu} {below : Int} {w : Str} (b5 : 5 ≤ B) (b0 : 0 < below) (b1 : below ≤ B + 1) (hr : ∀ q, capB B (rec q).1 = true) : ∀ (cs : List Nat) (s : List PyData × Pu), capAll B s.1 = true → capAll B (cs.foldl (fun s c => (s.1 ++ [(stepF rec below w s.2 c).1], (stepF rec below w s.2 c).2)) s).1 = true
  | [], _, h => h
  | c :: cs, s, h => fold_cap b5 b0 b1 hr cs _ (capAll_snoc h (step_cap b5 b0 b1 hr))
theorem body_cap {B : Int} {rec : Pu → PyData × Pu} {below m : Int} {p : Pu} (b5 : 5 ≤ B) (b0 : 0 < below) (b1 : below ≤ B + 1) (hr : ∀ q, capB B (rec q).1 = true) : capB B (bodyF rec below m p).1 = true := by
  unfold bodyF
  show (true && capAll B (runF rec below ((wl[(takeF p m).1.toNat]?).getD "") (takeF p m).2 (formOf ((wl[(takeF p m).1.toNat]?).getD ""))).1) = true
  rw [Bool.true_and]
  exact fold_cap b5 b0 b1 hr _ _ rfl
theorem term_cap {B : Int} {below : Int} (b5 : 5 ≤ B) (b0 : 0 < below) (b1 : below ≤ B + 1) : ∀ (k : Nat) (p : Pu), capB B (termF k below p).1 = true
  | 0, p => body_cap b5 b0 b1 fun _ => rfl
  | k + 1, p => body_cap b5 b0 b1 (term_cap b5 b0 b1 k)
theorem kind_cap {B h : Int} (b5 : 5 ≤ B) (h0 : 0 ≤ h) (h5 : h ≤ 5) : capB B (kindT h) = true := by
  show (true && ((decide (0 ≤ h) && decide (h ≤ B)) && true)) = true
  rw [decide_eq_true h0, decide_eq_true (by omega)]
  rfl
theorem few_cap {B : Int} (b5 : 5 ≤ B) {d : PyData} (h : capB B d = true) : ∀ i : Nat, capB B (((fewF d)[i]?).getD .none) = true
  | 0 => by
    show (true && (capB B (kindT 0) && (capB B d && true))) = true
    rw [h, kind_cap b5 (by decide) (by decide)]
    rfl
  | 1 => by
    show (true && (capB B (kindT 1) && (capB B d && true))) = true
    rw [h, kind_cap b5 (by decide) (by decide)]
    rfl
  | 2 => by
    show (true && (capB B d && (capB B (kindT 2) && true))) = true
    rw [h, kind_cap b5 (by decide) (by decide)]
    rfl
  | 3 => by
    show (true && ((true && ((decide ((0 : Int) ≤ 0) && decide ((0 : Int) ≤ B)) && true)) && (capB B d && true))) = true
    rw [h, decide_eq_true (by omega : (0 : Int) ≤ B)]
    rfl
  | i + 4 => rfl
theorem foldF_cap {B : Int} (b5 : 5 ≤ B) {d : PyData} (h : capB B d = true) (p : Pu) : ∀ k, capB B (foldF k d p).1 = true
  | 0 => h
  | k + 1 => few_cap b5 (foldF_cap b5 h p k) _
theorem any_cap {B : Int} {deep below : Int} {p : Pu} (b5 : 5 ≤ B) (b0 : 0 < below) (b1 : below ≤ B + 1) : capB B (anyF deep below p).1 = true := by
  unfold anyF
  split
  · exact term_cap b5 b0 b1 _ _
  · exact foldF_cap b5 (term_cap b5 b0 b1 _ _) _ _
/-! how many numbers stand in a drawn term -/
mutual
def lv : PyData → Nat
  | .int _ => 1
  | .list ds => lvAll ds
  | .tuple ds => lvAll ds
  | _ => 0
def lvAll : List PyData → Nat
  | [] => 0
  | d :: ds => lv d + lvAll ds
end
theorem lvAll_app : ∀ (ds es : List PyData), lvAll (ds ++ es) = lvAll ds + lvAll es
  | [], es => by rw [List.nil_append]; show _ = 0 + _; rw [Nat.zero_add]
  | d :: ds, es => by
    show lv d + lvAll (ds ++ es) = lv d + lvAll ds + lvAll es
    rw [lvAll_app ds es, Nat.add_assoc]
theorem step_lv {M : Nat} {rec : Pu → PyData × Pu} {below : Int} {w : Str} {q : Pu} {c : Nat} (hM : 1 ≤ M) (hr : ∀ q, lv (rec q).1 ≤ M) : lv (stepF rec below w q c).1 ≤ M := by
  unfold stepF
  split
  · exact hM
  · split
    · exact hM
    · split
      · exact Nat.zero_le _
      · exact hr q
theorem fold_lv {M : Nat} {rec : Pu → PyData × Pu} {below : Int} {w : Str} (hM : 1 ≤ M) (hr : ∀ q, lv (rec q).1 ≤ M) : ∀ (cs : List Nat) (s : List PyData × Pu), lvAll (cs.foldl (fun s c => (s.1 ++ [(stepF rec below w s.2 c).1], (stepF rec below w s.2 c).2)) s).1 ≤ lvAll s.1 + cs.length * M
  | [], s => by simp
  | c :: cs, s => by
    have h := fold_lv (below := below) (w := w) hM hr cs (s.1 ++ [(stepF rec below w s.2 c).1], (stepF rec below w s.2 c).2)
    have h1 := step_lv (below := below) (w := w) (q := s.2) (c := c) hM hr
    have h2 : lvAll (s.1 ++ [(stepF rec below w s.2 c).1]) = lvAll s.1 + lv (stepF rec below w s.2 c).1 := by
      rw [lvAll_app]
      rfl
    rw [List.foldl_cons, List.length_cons, Nat.succ_mul]
    have h : lvAll (cs.foldl (fun s c => (s.1 ++ [(stepF rec below w s.2 c).1], (stepF rec below w s.2 c).2)) (s.1 ++ [(stepF rec below w s.2 c).1], (stepF rec below w s.2 c).2)).1 ≤ lvAll (s.1 ++ [(stepF rec below w s.2 c).1]) + cs.length * M := h
    rw [h2] at h
    omega
theorem form_len (w : Str) : (formOf w).length ≤ 3 := by
  unfold formOf
  split
  · rename_i e he
    exact (form_of e (List.mem_of_find?_eq_some he)).2.1
  · exact Nat.zero_le _
theorem body_lv {M : Nat} {rec : Pu → PyData × Pu} {below m : Int} {p : Pu} (hM : 1 ≤ M) (hr : ∀ q, lv (rec q).1 ≤ M) : lv (bodyF rec below m p).1 ≤ 3 * M := by
  unfold bodyF
  show 0 + lvAll (runF rec below ((wl[(takeF p m).1.toNat]?).getD "") (takeF p m).2 (formOf ((wl[(takeF p m).1.toNat]?).getD ""))).1 ≤ _
  have h := fold_lv (below := below) (w := ((wl[(takeF p m).1.toNat]?).getD "")) hM hr (formOf ((wl[(takeF p m).1.toNat]?).getD "")) ([], (takeF p m).2)
  have f : (formOf ((wl[(takeF p m).1.toNat]?).getD "")).length * M ≤ 3 * M := Nat.mul_le_mul_right _ (form_len _)
  have h0 : lvAll (([] : List PyData), (takeF p m).2).1 = 0 := rfl
  unfold runF
  omega
theorem term_lv {below : Int} : ∀ (k : Nat) (p : Pu), lv (termF k below p).1 ≤ 3 ^ (k + 1)
  | 0, p => body_lv (Nat.le_refl 1) fun _ => Nat.zero_le _
  | k + 1, p => by
    have h := body_lv (M := 3 ^ (k + 1)) (below := below) (m := 14) (p := p) (Nat.pow_pos (by decide)) (term_lv (below := below) k)
    rw [Nat.pow_succ, Nat.mul_comm]
    exact h
theorem few_lv {d : PyData} : ∀ i : Nat, lv (((fewF d)[i]?).getD .none) ≤ lv d + 1
  | 0 => by
    show 0 + ((0 + (1 + 0)) + (lv d + 0)) ≤ _
    omega
  | 1 => by
    show 0 + ((0 + (1 + 0)) + (lv d + 0)) ≤ _
    omega
  | 2 => by
    show 0 + (lv d + ((0 + (1 + 0)) + 0)) ≤ _
    omega
  | 3 => by
    show 0 + ((0 + (1 + 0)) + (lv d + 0)) ≤ _
    omega
  | i + 4 => Nat.zero_le _
theorem foldF_lv {d : PyData} (p : Pu) : ∀ k, lv (foldF k d p).1 ≤ lv d + k
  | 0 => Nat.le_refl _
  | k + 1 => by
    have h1 := foldF_lv (d := d) p k
    have h2 := few_lv (d := (foldF k d p).1) (takeF (foldF k d p).2 4).1.toNat
    show lv (((fewF (foldF k d p).1)[(takeF (foldF k d p).2 4).1.toNat]?).getD .none) ≤ _
    omega
theorem any_lv {below : Int} {p : Pu} {deep : Int} (d0 : 0 < deep) (d5 : deep ≤ 5) : lv (anyF deep below p).1 ≤ 243 := by
  unfold anyF
  split
  · have u := take_in (p := (takeF p 4).2) d0
    have k4 : 3 ^ ((takeF (takeF p 4).2 deep).1.toNat + 1) ≤ 3 ^ 5 := Nat.pow_le_pow_right (by decide) (by omega)
    exact Nat.le_trans (term_lv _ _) k4
  · have u := take_in (p := (takeF p 4).2) (m := 4) (by decide)
    have k4 : 3 ^ ((takeF (takeF p 4).2 4).1.toNat + 1) ≤ 3 ^ 4 := Nat.pow_le_pow_right (by decide) (by omega)
    have h1 := term_lv (below := below) (takeF (takeF p 4).2 4).1.toNat (takeF (takeF p 4).2 4).2
    have v := take_in (p := (termF (takeF (takeF p 4).2 4).1.toNat below (takeF (takeF p 4).2 4).2).2) (m := 55) (by decide)
    have h2 := foldF_lv (d := (termF (takeF (takeF p 4).2 4).1.toNat below (takeF (takeF p 4).2 4).2).1) (takeF (termF (takeF (takeF p 4).2 4).1.toNat below (takeF (takeF p 4).2 4).2).2 55).2 (takeF (termF (takeF (takeF p 4).2 4).1.toNat below (takeF (takeF p 4).2 4).2).2 55).1.toNat
    have e81 : 3 ^ 4 = 81 := rfl
    omega
/-- at most five deep: its size -/
theorem any5_bd {deep below : Int} {p : Pu} {n : Nat} (d0 : 0 < deep) (d5 : deep ≤ 5) (b0 : 0 < below) (b1 : below ≤ 1000) (hp : PuOk p n) (hn : n + 50000 ≤ maxN) : Bd 58 256000 (anyF deep below p).1 := by
  obtain ⟨t0, t1, t2⟩ := takeF_ok (m := 4) hp (by decide)
  unfold anyF
  split
  · obtain ⟨u0, u1, u2⟩ := takeF_ok (m := deep) t2 d0
    have k4 := pow4 (k := (takeF (takeF p 4).2 deep).1.toNat) (by omega)
    obtain ⟨a, b, c⟩ := termF_ok b0 b1 (takeF (takeF p 4).2 deep).1.toNat _ _ u2 (by omega)
    exact b.mono (by omega) (by omega)
  · obtain ⟨u0, u1, u2⟩ := takeF_ok (m := 4) t2 (by decide)
    have k64 : 4 ^ (takeF (takeF p 4).2 4).1.toNat ≤ 64 := Nat.le_trans (Nat.pow_le_pow_right (by decide) (by omega : (takeF (takeF p 4).2 4).1.toNat ≤ 3)) (by decide)
    obtain ⟨a, b, c⟩ := termF_ok b0 b1 (takeF (takeF p 4).2 4).1.toNat _ _ u2 (by omega)
    obtain ⟨v0, v1, v2⟩ := takeF_ok (m := 55) c (by decide)
    obtain ⟨x, y, z⟩ := foldF_ok (by omega) a b v2 (takeF (termF (takeF (takeF p 4).2 4).1.toNat below (takeF (takeF p 4).2 4).2).2 55).1.toNat
    exact y.mono (by omega) (by omega)
/-! flat, its strings fine, its numbers capped -/
mutual
def fk (B : Int) : PyData → Bool
  | .int i => decide (0 ≤ i) && decide (i ≤ B)
  | .str x => fine (.str x)
  | .tuple ds => fkAll B ds
  | .list _ => false
  | .dict _ => false
  | _ => true
def fkAll (B : Int) : List PyData → Bool
  | [] => true
  | d :: ds => fk B d && fkAll B ds
end
mutual
theorem fk_of {B : Int} : ∀ d : PyData, flatD d = true → fine d = true → capB B d = true → fk B d = true
  | .none, _, _, _ | .bool _, _, _, _ => rfl
  | .int i, _, _, h => h
  | .str x, _, h, _ => h
  | .list _, h, _, _ => by simp [flatD] at h
  | .dict _, h, _, _ => by simp [flatD] at h
  | .tuple ds, h, f, c => fkAll_of ds (by simpa only [flatD] using h) (by simpa only [fine] using f) (by simpa only [capB] using c)
theorem fkAll_of {B : Int} : ∀ ds : List PyData, flatAll ds = true → fineAll ds = true → capAll B ds = true → fkAll B ds = true
  | [], _, _, _ => rfl
  | d :: ds, h, f, c => by
    have h : flatD d = true ∧ flatAll ds = true := by simpa only [flatAll, Bool.and_eq_true] using h
    have f : fine d = true ∧ fineAll ds = true := by simpa only [fineAll, Bool.and_eq_true] using f
    have c : capB B d = true ∧ capAll B ds = true := by simpa only [capAll, Bool.and_eq_true] using c
    simp only [fkAll, fk_of d h.1 f.1 c.1, fkAll_of ds h.2 f.2 c.2, Bool.and_self]
end
mutual
theorem fk_flat {B : Int} (hB : B ≤ 10 ^ 31) : ∀ d : PyData, fk B d = true → flatD d = true ∧ fine d = true
  | .none, _ | .bool _, _ => ⟨rfl, rfl⟩
  | .int i, h => by
    have h : (decide (0 ≤ i) && decide (i ≤ B)) = true := h
    simp only [Bool.and_eq_true, decide_eq_true_eq] at h
    refine ⟨rfl, ?_⟩
    show (decide (-(10 ^ 31) ≤ i) && decide (i ≤ 10 ^ 31)) = true
    rw [decide_eq_true (by omega), decide_eq_true (by omega)]
    rfl
  | .str x, h => ⟨rfl, h⟩
  | .list _, h => by simp [fk] at h
  | .dict _, h => by simp [fk] at h
  | .tuple ds, h => by
    have := fkAll_flat hB ds (by simpa only [fk] using h)
    exact ⟨by simpa only [flatD] using this.1, by simpa only [fine] using this.2⟩
theorem fkAll_flat {B : Int} (hB : B ≤ 10 ^ 31) : ∀ ds : List PyData, fkAll B ds = true → flatAll ds = true ∧ fineAll ds = true
  | [], _ => ⟨rfl, rfl⟩
  | d :: ds, h => by
    have h : fk B d = true ∧ fkAll B ds = true := by simpa only [fkAll, Bool.and_eq_true] using h
    have a := fk_flat hB d h.1
    have b := fkAll_flat hB ds h.2
    simp only [flatAll, fineAll, a.1, a.2, b.1, b.2, Bool.and_self, and_self]
end
mutual
theorem fk_mono {B B' : Int} (hB : B ≤ B') : ∀ d : PyData, fk B d = true → fk B' d = true
  | .none, _ | .bool _, _ => rfl
  | .int i, h => by
    have h : (decide (0 ≤ i) && decide (i ≤ B)) = true := h
    simp only [Bool.and_eq_true, decide_eq_true_eq] at h
    show (decide (0 ≤ i) && decide (i ≤ B')) = true
    rw [decide_eq_true (by omega), decide_eq_true (by omega)]
    rfl
  | .str x, h => h
  | .list _, h => by simp [fk] at h
  | .dict _, h => by simp [fk] at h
  | .tuple ds, h => fkAll_mono hB ds (by simpa only [fk] using h)
theorem fkAll_mono {B B' : Int} (hB : B ≤ B') : ∀ ds : List PyData, fkAll B ds = true → fkAll B' ds = true
  | [], _ => rfl
  | d :: ds, h => by
    have h : fk B d = true ∧ fkAll B ds = true := by simpa only [fkAll, Bool.and_eq_true] using h
    simp only [fkAll, fk_mono hB d h.1, fkAll_mono hB ds h.2, Bool.and_self]
end
theorem pass01 (w : Str) (i : Int) : 0 ≤ passD w i ∧ passD w i ≤ 1 := by
  unfold passD
  split <;> constructor <;> decide
theorem parted_at : (parts "at").isSome = false := by decide +kernel
theorem fu_at {g : Int → Int → PyData} {n u : Int} (h : noneD (g n u) = false) : fuD g (.tuple [.str "at", .int n]) u = g n u := by
  have e2 : fuD g (.tuple [.str "at", .int n]) u = if noneD (g n u) = true then .tuple [.str "at", .int n] else g n u := by
    rw [fuD]
    exact if_pos rfl
  rw [e2, if_b h]
theorem fu_not {g : Int → Int → PyData} {w : Str} {ds : List PyData} {u : Int} (hw : w ≠ "at") : fuD g (.tuple (.str w :: ds)) u = if (parts w).isSome = true then .tuple (.str w :: fuL g w u 0 ds) else .tuple (.str w :: ds) := by
  show (if w = "at" then _ else if (parts w).isSome = true then PyData.tuple (.str w :: fuL g w u 0 ds) else PyData.tuple (.str w :: ds)) = _
  exact if_neg hw
def GoodG (g : Int → Int → PyData) (B B' lo hi : Int) (G : Nat) : Prop := B ≤ B' ∧ ∀ n u, 0 ≤ n → n ≤ B → lo ≤ u → u ≤ hi → noneD (g n u) = false ∧ tm (g n u) = true ∧ fk B' (g n u) = true ∧ (g n u).depth ≤ G + 1
mutual
theorem fu_good {g : Int → Int → PyData} {B B' lo hi : Int} {G : Nat} (H : GoodG g B B' lo hi G) : ∀ (d : PyData) (u : Int), tm d = true → fk B d = true → lo ≤ u → u + (d.depth : Int) ≤ hi → tm (fuD g d u) = true ∧ fk B' (fuD g d u) = true ∧ (fuD g d u).depth ≤ d.depth + G
  | .tuple (x :: ds), u, t, f, l0, l1 => by
    obtain ⟨w, ds', e⟩ := tm_shape t
    injection e with e
    injection e with e1 e2
    subst e1 e2
    by_cases hw : w = "at"
    · subst hw
      obtain ⟨n, rfl, n0⟩ := at_shape t
      have f' : (fine (.str "at") && (fk B (.int n) && true)) = true := f
      simp only [Bool.and_eq_true] at f'
      have nB : fk B (.int n) = true := f'.2.1
      have nB : (decide (0 ≤ n) && decide (n ≤ B)) = true := nB
      simp only [Bool.and_eq_true, decide_eq_true_eq] at nB
      have dp : (PyData.tuple [.str "at", .int n]).depth = 1 := rfl
      rw [dp] at l1
      obtain ⟨a, b, c, e⟩ := H.2 n u nB.1 nB.2 l0 (by omega)
      rw [fu_at a]
      exact ⟨b, c, by rw [dp]; omega⟩
    · rw [fu_not hw]
      by_cases hp : (parts w).isSome = true
      · rw [if_pos hp]
        have f' : (fine (.str w) && fkAll B ds) = true := f
        simp only [Bool.and_eq_true] at f'
        have dp : (PyData.tuple (.str w :: ds)).depth = max 0 (PyData.depthAll ds) + 1 := rfl
        obtain ⟨a, b, c⟩ := fuL_good H ds w u 0 (tm_dsAll t hp) f'.2 l0 (by rw [dp] at l1; omega)
        obtain ⟨k, hk⟩ := Option.isSome_iff_exists.mp hp
        refine ⟨?_, ?_, ?_⟩
        · rw [tm_parts hk] at t ⊢
          simp only [Bool.and_eq_true, decide_eq_true_eq] at t ⊢
          exact ⟨by rw [fuL_len]; exact t.1, a⟩
        · show (fine (.str w) && fkAll B' (fuL g w u 0 ds)) = true
          rw [f'.1, b]
          rfl
        · show max 0 (PyData.depthAll (fuL g w u 0 ds)) + 1 ≤ _
          rw [dp]
          omega
      · rw [if_neg hp]
        exact ⟨t, fk_mono H.1 _ f, Nat.le_add_right _ _⟩
  | .tuple [], _, h, _, _, _ | .none, _, h, _, _, _ | .bool _, _, h, _, _, _ | .int _, _, h, _, _, _ | .str _, _, h, _, _, _ | .list _, _, h, _, _, _ | .dict _, _, h, _, _, _ => by cases h
theorem fuL_good {g : Int → Int → PyData} {B B' lo hi : Int} {G : Nat} (H : GoodG g B B' lo hi G) : ∀ (ds : List PyData) (w : Str) (u : Int) (i : Nat), tmAll ds = true → fkAll B ds = true → lo ≤ u → u + 1 + (PyData.depthAll ds : Int) ≤ hi → tmAll (fuL g w u i ds) = true ∧ fkAll B' (fuL g w u i ds) = true ∧ PyData.depthAll (fuL g w u i ds) ≤ PyData.depthAll ds + G
  | [], _, _, _, _, _, _, _ => ⟨rfl, rfl, Nat.zero_le _⟩
  | d :: ds, w, u, i, t, f, l0, l1 => by
    have t : tm d = true ∧ tmAll ds = true := by simpa only [tmAll, Bool.and_eq_true] using t
    have f : fk B d = true ∧ fkAll B ds = true := by simpa only [fkAll, Bool.and_eq_true] using f
    have dp : PyData.depthAll (d :: ds) = max d.depth (PyData.depthAll ds) := rfl
    rw [dp] at l1
    have p := pass01 w (i : Int)
    obtain ⟨a, b, c⟩ := fu_good H d (u + passD w (i : Int)) t.1 f.1 (by omega) (by omega)
    obtain ⟨a', b', c'⟩ := fuL_good H ds w u (i + 1) t.2 f.2 l0 (by omega)
    refine ⟨?_, ?_, ?_⟩
    · show (tm (fuD g d (u + passD w (i : Int))) && tmAll (fuL g w u (i + 1) ds)) = true
      rw [a, a']
      rfl
    · show (fk B' (fuD g d (u + passD w (i : Int))) && fkAll B' (fuL g w u (i + 1) ds)) = true
      rw [b, b']
      rfl
    · show max (fuD g d (u + passD w (i : Int))).depth (PyData.depthAll (fuL g w u (i + 1) ds)) ≤ _
      rw [dp]
      omega
end
mutual
theorem raise_nodes {b : Int} : ∀ (d : PyData) (u : Int), tm d = true → nodes (fuD (lawR b) d u) = nodes d
  | .tuple (x :: ds), u, t => by
    obtain ⟨w, ds', e⟩ := tm_shape t
    injection e with e
    injection e with e1 e2
    subst e1 e2
    by_cases hw : w = "at"
    · subst hw
      obtain ⟨n, rfl, n0⟩ := at_shape t
      rw [fu_at rfl]
      rfl
    · rw [fu_not hw]
      by_cases hp : (parts w).isSome = true
      · rw [if_pos hp]
        have := raise_nodesL ds w u 0 (b := b) (tm_dsAll t hp)
        show 1 + nodesAll (fuL (lawR b) w u 0 ds) + 1 = 1 + nodesAll ds + 1
        rw [this]
      · rw [if_neg hp]
  | .tuple [], _, h | .none, _, h | .bool _, _, h | .int _, _, h | .str _, _, h | .list _, _, h | .dict _, _, h => by cases h
theorem raise_nodesL {b : Int} : ∀ (ds : List PyData) (w : Str) (u : Int) (i : Nat), tmAll ds = true → nodesAll (fuL (lawR b) w u i ds) = nodesAll ds
  | [], _, _, _, _ => rfl
  | d :: ds, w, u, i, t => by
    have t : tm d = true ∧ tmAll ds = true := by simpa only [tmAll, Bool.and_eq_true] using t
    show nodes (fuD (lawR b) d _) + nodesAll (fuL (lawR b) w u (i + 1) ds) = nodes d + nodesAll ds
    rw [raise_nodes d _ t.1, raise_nodesL ds w u (i + 1) t.2]
end
theorem at_tm {n : Int} (h : 0 ≤ n) : tm (.tuple [.str "at", .int n]) = true := by
  rw [tm_leaf (by decide +kernel)]
  exact decide_eq_true h
theorem at_fk {n B : Int} (h : 0 ≤ n) (hB : n ≤ B) : fk B (.tuple [.str "at", .int n]) = true := by
  show (fine (.str "at") && ((decide (0 ≤ n) && decide (n ≤ B)) && true)) = true
  rw [decide_eq_true h, decide_eq_true hB]
  decide +kernel
theorem goodR {b B : Int} (b0 : 0 ≤ b) (lo hi : Int) : GoodG (lawR b) B (B + b) lo hi 0 := ⟨by omega, fun n u n0 nB _ _ => by
  unfold lawR
  have h : 0 ≤ b * (if decide (u ≤ n) = true then 1 else 0) ∧ b * (if decide (u ≤ n) = true then 1 else 0) ≤ b := by
    split
    · rw [Int.mul_one]; exact ⟨b0, Int.le_refl _⟩
    · rw [Int.mul_zero]; exact ⟨Int.le_refl _, b0⟩
  exact ⟨rfl, at_tm (by omega), at_fk (by omega) (by omega), Nat.le_refl _⟩⟩
theorem goodGv {o : PyData} {m B : Int} (to_ : tm o = true) (fo : fk B o = true) (m0 : 0 ≤ m) (hi : Int) : GoodG (lawG o m) B (B + hi) 0 hi o.depth ∨ hi < 0 := by
  by_cases hh : 0 ≤ hi
  · refine Or.inl ⟨by omega, fun n u n0 nB u0 u1 => ⟨noneG to_, ?_⟩⟩
    unfold lawG
    split
    · have R := fu_good (goodR (B := B) (b := u) u0 0 (o.depth : Int)) o 0 to_ fo (Int.le_refl _) (by omega)
      exact ⟨R.1, fk_mono (by omega) _ R.2.1, by omega⟩
    · have h : 0 ≤ n - (if decide (m + u < n) = true then 1 else 0) ∧ n - (if decide (m + u < n) = true then 1 else 0) ≤ n := by
        split
        · rename_i c
          have := of_decide_eq_true c
          omega
        · omega
      exact ⟨at_tm h.1, at_fk h.1 (by omega), by show 1 ≤ _; omega⟩
  · exact Or.inr (by omega)
/-- a term as the law has it -/
structure LT (B : Int) (k : Nat) (d : PyData) : Prop where
  t : tm d = true
  f : fk B d = true
  dp : d.depth ≤ k
  nd : nodes d ≤ 900000
theorem LT.sh {B : Int} {k : Nat} {d : PyData} (h : LT B k d) (hB : B ≤ 10 ^ 31 := by decide) (hk : k ≤ 64 := by decide) : SeqAt.shaped d = true := by
  have := fk_flat hB d h.f
  exact shaped_flat this.1 this.2 (Nat.le_trans h.dp hk)
theorem LT.ok {B : Int} {k : Nat} {d : PyData} (h : LT B k d) (hB : B ≤ 10 ^ 31 := by decide) : okT d := ⟨(fk_flat hB d h.f).2, by have := h.nd; omega⟩
theorem LT.raise {B : Int} {k : Nat} {d : PyData} {b s : Int} (h : LT B k d) (b0 : 0 ≤ b) (b1 : b ≤ 999) : LT (B + 999) k (fuD (lawR b) d s) := by
  have R := fu_good (goodR (B := B) b0 s (s + (d.depth : Int))) d s h.t h.f (Int.le_refl _) (Int.le_refl _)
  exact ⟨R.1, fk_mono (by omega) _ R.2.1, by have := h.dp; omega, by rw [raise_nodes d s h.t]; exact h.nd⟩
theorem LT.gave {B : Int} {k j : Nat} {d o : PyData} {m : Int} (h : LT B k d) (ho : LT B j o) (m0 : 0 ≤ m) (hB : B ≤ 10 ^ 30 := by decide) (hk : k + j ≤ 64 := by decide) : SeqAt.shaped (fuD (lawG o m) d 0) = true := by
  rcases goodGv (B := B) ho.t ho.f m0 (d.depth : Int) with G | G
  · have R := fu_good G d 0 h.t h.f (Int.le_refl _) (by omega)
    have e1 := h.dp
    have e2 := ho.dp
    have := fk_flat (B := B + (d.depth : Int)) (by omega) _ R.2.1
    exact shaped_flat this.1 this.2 (by omega)
  · omega
end KP
set_option Elab.async false
set_option linter.unusedVariables false
set_option linter.unusedSectionVars false
set_option maxRecDepth 100000
set_option maxHeartbeats 2000000
namespace KP
open PySem PySem.Spec PyProof.Rows L2 KA OW
/-! ### places of parts -/
abbrev sReached : Stmt := top 11
abbrev sWithPart : Stmt := top 12
def reachD : PyData → List Nat → Int → Option (PyData × Int)
  | d, [], n => some (d, n)
  | d, i :: r, n => match (partsD d)[i]? with
    | some e => reachD e r (n + passD (wdD d) (i : Int))
    | none => none
def chD : PyData → List Nat → PyData → PyData
  | _, [], o => o
  | .tuple es, i :: r, o => .tuple (es.set (i + 1) (chD ((es[i + 1]?).getD .none) r o))
  | d, _ :: _, _ => d
theorem reach_chain : ∀ {is : List Nat} {d : PyData} {n : Int} {r : PyData × Int}, tm d = true → reachD d is n = some r →
    ∃ Pt : Nat → PyData, Pt 0 = d ∧ Pt is.length = r.1 ∧ (∀ k, k ≤ is.length → tm (Pt k) = true) ∧ ∀ k i, is[k]? = some i → ∃ wd es, Pt k = .tuple (.str wd :: es) ∧ es[i]? = some (Pt (k + 1))
  | [], d, n, r, t, h => by
    cases h
    refine ⟨fun _ => d, rfl, rfl, fun _ _ => t, fun k i e => by cases e⟩
  | i :: r, d, n, q, t, h => by
    have h : (match (partsD d)[i]? with | some e => reachD e r (n + passD (wdD d) (i : Int)) | none => none) = some q := h
    cases e : (partsD d)[i]? with
    | none =>
      rw [e] at h
      cases h
    | some f =>
      rw [e] at h
      obtain ⟨wd, ds, rfl⟩ := tm_shape t
      have te : tm f = true := tmAll_mem (parts_tm t) (List.mem_of_getElem? e)
      obtain ⟨Pt, h0, h1, h2, h3⟩ := reach_chain te h
      refine ⟨fun k => match k with | 0 => .tuple (.str wd :: ds) | k + 1 => Pt k, rfl, h1, fun k hk => ?_, fun k j ej => ?_⟩
      · cases k with
        | zero => exact t
        | succ k => exact h2 k (by simpa using hk)
      · cases k with
        | zero =>
          obtain rfl : i = j := Option.some.inj ej
          refine ⟨wd, ds, rfl, ?_⟩
          show ds[i]? = some (Pt 0)
          rw [h0]
          have e' : (if (parts wd).isSome = true then ds else [])[i]? = some f := e
          split at e'
          · exact e'
          · cases e'
        | succ k => exact h3 k j ej
theorem spot_is {x : PyData} (h : spotB x = true) : ∃ is, x = spotT is := by
  obtain ⟨ds, rfl⟩ : ∃ ds, x = .tuple ds := by cases x <;> first | exact ⟨_, rfl⟩ | cases h
  have h : ds.all (cntB 0) = true := h
  have aux : ∀ ds : List PyData, ds.all (cntB 0) = true → ∃ is : List Nat, ds = is.map fun i : Nat => PyData.int (i : Int) := by
    intro ds
    induction ds with
    | nil => exact fun _ => ⟨[], rfl⟩
    | cons d ds ih =>
      intro h
      rw [List.all_cons, Bool.and_eq_true] at h
      obtain ⟨is, rfl⟩ := ih h.2
      cases d with
      | int z =>
        have z0 : 0 ≤ z := of_decide_eq_true h.1
        exact ⟨z.toNat :: is, by rw [List.map_cons, Int.toNat_of_nonneg z0]⟩
      | _ => cases h.1
  obtain ⟨is, e⟩ := aux ds h
  exact ⟨is, by rw [e]; rfl⟩
theorem spotT_B (is : List Nat) : spotB (spotT is) = true := by
  show (is.map fun i : Nat => PyData.int (i : Int)).all (cntB 0) = true
  rw [List.all_map, List.all_eq_true]
  intro i _
  exact decide_eq_true (Int.natCast_nonneg i)
/-- where a thing leads, None else -/
def placeD (d x : PyData) : PyData := if spotB x = true then (match x with
  | .tuple ds => (match reachD d (ds.map fun e => match e with | .int z => z.toNat | _ => 0) 0 with | some r => .tuple [r.1, .int r.2] | none => .none)
  | _ => .none) else .none
theorem placeD_spot (d : PyData) (is : List Nat) : placeD d (spotT is) = match reachD d is 0 with | some r => .tuple [r.1, .int r.2] | none => .none := by
  unfold placeD
  rw [if_pos (spotT_B is)]
  have e : (is.map fun i : Nat => PyData.int (i : Int)).map (fun e => match e with | .int z => z.toNat | _ => 0) = is := by
    rw [List.map_map]
    have : ((fun e : PyData => match e with | .int z => z.toNat | _ => 0) ∘ fun i : Nat => PyData.int (i : Int)) = id := by
      funext i
      exact Int.toNat_natCast i
    rw [this, List.map_id]
  show (match reachD d ((is.map fun i : Nat => PyData.int (i : Int)).map fun e => match e with | .int z => z.toNat | _ => 0) 0 with | some r => PyData.tuple [r.1, .int r.2] | none => .none) = _
  rw [e]
def tReached : List Sl → (Rv → Prop) → Prop := fun as Kr => ∃ d is, as = [.d d, .d (spotT is)] ∧ tm d = true ∧ Kr (.d (match reachD d is 0 with | some r => .tuple [r.1, .int r.2] | none => .none))
section
variable {P : Program} {w : World} {K : PySem.W.Frag} {mg : Str → Option Value} {base : Heap}
abbrev nReached : List Str := ["term", "spot", "part", "above", "at", "below"]
theorem scReached : FnScope nReached ["term", "spot"] (defScope sReached) := ⟨rfl, rfl, rfl, by decide +kernel, rfl, by decide +kernel, by decide +kernel⟩
theorem ok_reached {f : Addr} {fd : FuncData} (F : Fun K "reached" "reached" sReached f fd) (T : Txt K w mg) (C_parts_of : C8.Cal P w K mg base 1 "parts_of" (spD 1 tPartsOf) []) (C_passed : C8.Cal P w K mg base 1 "passed" (spD 2 tPassed) []) : FnOk P w K mg base CX0 2 f fd ["term", "spot"] (spD 2 tReached) := by
  refine fn_d F scReached (body := fun cdv A outer s H E hr => ⟨_, (pss_cons (ps_set (i := 2) scReached.nd rfl (Or.inl rfl) (pv 0))
      (pss_cons (ps_set (i := 3) scReached.nd rfl (Or.inl rfl) pe_int)
      (pss_cons (ps_for PassesOwn.never rfl (pi_tup (pv 1)) (pg_name (i := 4) scReached.nd rfl (Or.inl rfl)) (pss_cons (ps_set (i := 5) scReached.nd rfl (Or.inl rfl) (C8.pe_c C_parts_of hr (by decide) rfl (pa_cons (pv 2) pa_nil)))
      (pss_cons (ps_if (pt_cmpR op_ge (pv 4) (pe_callB call_len_seq (by rfl) T.len PySem.boot_len (pa_cons (pv 5) pa_nil)) (nomark _)) (pss_one (ps_ret pe_non)) pss_nil) (pss_cons (ps_aug (i := 3) scReached.nd rfl (Or.inl rfl) (C8.pe_c C_passed hr (by decide) rfl (pa_cons (pe_ix ix_tup (pv 2) pe_int (fun _ _ => rfl)) (pa_cons (pv 4) pa_nil))) ip_add)
      (pss_one (ps_set (i := 2) scReached.nd rfl (Or.inl rfl) (pe_ix ix_tup (pv 5) (pv 4) (fun _ _ => rfl))))))))
      (pss_one (ps_ret (pe_tup (pa_cons (pv 2) (pa_cons (pv 3) pa_nil)))))))), ?_⟩)
  rintro as Kr _ ⟨d, is, rfl, td, k⟩
  refine (sm_seq (sm_set (ev_var rfl) (sm_seq (sm_set ev_int (sm_seq (sm_for (fi_tup (ev_var (x := spotT is) rfl)) (fun j ρ => ∃ e n s4 s5, ρ = [.d d, .d (spotT is), .d e, .d (.int n), s4, s5] ∧ tm e = true ∧ reachD d is 0 = reachD e (is.drop j) n) ⟨d, 0, .un, .un, rfl, td, rfl⟩ (fun j x ρ ex r => ?_) (fun ρ r => ?_)))))))
  · obtain ⟨e, n, s4, s5, rfl, te, re⟩ := r
    obtain ⟨i, hi, rfl⟩ : ∃ i, is[j]? = some i ∧ x = .int (i : Int) := by
      rw [List.getElem?_map] at ex
      cases z : is[j]? with
      | none => rw [z] at ex; cases ex
      | some i => rw [z] at ex; exact ⟨i, rfl, (Option.some.inj ex).symm⟩
    have dj : is.drop j = i :: is.drop (j + 1) := by
      obtain ⟨lt, he⟩ := List.getElem?_eq_some_iff.mp hi
      rw [List.drop_eq_getElem_cons lt, he]
    rw [dj] at re
    have re : reachD d is 0 = (match (partsD e)[i]? with | some f => reachD f (is.drop (j + 1)) (n + passD (wdD e) (i : Int)) | none => none) := re
    obtain ⟨wd, ds, rfl⟩ := tm_shape te
    refine ⟨_, tg_name, sm_seq (sm_set (ev_call (x := .tuple (partsD (.tuple (.str wd :: ds)))) (es_cons (ev_var rfl) es_nil) ar_nil rfl ⟨wd, ds, rfl, rfl⟩) (sm_seq (sm_if (et_test (ev_op (ev_var rfl) (ev_fn (es_cons (ev_var rfl) es_nil) fv_lenT) fv_cmpI)) (fun h => sm_ret ev_non ?_) (fun h => sm_next ?_))))⟩
    · have h : decide (((partsD (.tuple (.str wd :: ds))).length : Int) ≤ (i : Int)) = true := h
      have le := of_decide_eq_true h
      have e0 : (partsD (.tuple (.str wd :: ds)))[i]? = none := List.getElem?_eq_none (by omega)
      rw [e0] at re
      rw [re] at k
      exact k
    · have h : decide (((partsD (.tuple (.str wd :: ds))).length : Int) ≤ (i : Int)) = false := h
      have nle := of_decide_eq_false h
      have il : i < (partsD (.tuple (.str wd :: ds))).length := by omega
      have hz := List.getElem?_eq_getElem il
      rw [hz] at re
      refine sm_seq (sm_augI rfl (ev_call (x := .int (passD wd (i : Int))) (es_cons (ev_op (ev_var rfl) ev_int (fv_ixT at0)) (es_cons (ev_var rfl) es_nil)) ar_nil rfl ⟨wd, _, rfl, rfl⟩) (sm_set (ev_op (ev_var rfl) (ev_var rfl) (fv_ixT (at_nat hz))) ?_))
      exact ⟨_, _, _, _, rfl, tmAll_mem (parts_tm te) (List.mem_of_getElem? hz), re⟩
  · obtain ⟨e, n, s4, s5, rfl, te, re⟩ := r
    rw [List.length_map, List.drop_length] at re
    have re : reachD d is 0 = some (e, n) := re
    rw [re] at k
    exact sm_ret (ev_tup (eds_cons (ev_var rfl) (eds_cons (ev_var rfl) eds_nil))) k
def tWithPart : List Sl → (Rv → Prop) → Prop := fun as Kr => ∃ d is o r, as = [.d d, .d (spotT is), .d o] ∧ tm d = true ∧ nodes d ≤ 1000000 ∧ is.length ≤ 1000000 ∧ reachD d is 0 = some r ∧ Kr (.d (chD d is o))
abbrev nWithPart : List Str := ["term", "spot", "other", "way", "part", "at", "made"]
theorem scWithPart : FnScope nWithPart ["term", "spot", "other"] (defScope sWithPart) := ⟨rfl, rfl, rfl, by decide +kernel, rfl, by decide +kernel, by decide +kernel⟩
theorem set_cut {es : List PyData} {n : Nat} {x : PyData} (h : n < es.length) : es.take n ++ (x :: es.drop (n + 1)) = es.set n x := by
  rw [List.set_eq_take_append_cons_drop, if_pos h]
theorem ok_withpart {f : Addr} {fd : FuncData} (F : Fun K "with_part" "with_part" sWithPart f fd) (T : Txt K w mg) (Trev : mg "reversed" = none) : FnOk P w K mg base CX0 1 f fd ["term", "spot", "other"] (spD 3 tWithPart) := by
  refine fn_d F scWithPart (body := fun cdv A outer s H E hr => ⟨_, (pss_cons (ps_set (i := 3) scWithPart.nd rfl (Or.inl rfl) (pe_lst pa_nil))
      (pss_cons (ps_set (i := 4) scWithPart.nd rfl (Or.inl rfl) (pv 0))
      (pss_cons (ps_for PassesOwn.never rfl (pi_tup (pv 1)) (pg_name (i := 5) scWithPart.nd rfl (Or.inl rfl)) (pss_cons (ps_expr (pe_bm PySem.F.plainAttrs_list PySem.F.slot_list_append PySem.F.type_list_append mt_append (pv 3) (pa_cons (pe_tup (pa_cons (pv 4) (pa_cons (pe_op op_add (pv 5) pe_int) pa_nil))) pa_nil)))
      (pss_one (ps_set (i := 4) scWithPart.nd rfl (Or.inl rfl) (pe_ix ix_tup (pv 4) (pe_op op_add (pv 5) pe_int) (fun _ _ => rfl))))))
      (pss_cons (ps_set (i := 6) scWithPart.nd rfl (Or.inl rfl) (pv 2))
      (pss_cons (ps_for PassesOwn.never rfl (RT.pi_revA (by rfl) Trev (pv 3)) (pg_tup rfl (pgs_cons (pg_name (i := 4) scWithPart.nd rfl (Or.inl rfl)) (pgs_cons (pg_name (i := 5) scWithPart.nd rfl (Or.inl rfl)) pgs_nil))) (pss_one (ps_set (i := 6) scWithPart.nd rfl (Or.inl rfl) (pe_tup (StX.pa_star (pe_slice sl_tupA (pv 4) po_none (po_some (pv 5))) (pa_cons (pv 6) (StX.pa_star (pe_slice sl_tupA (pv 4) (po_some (pe_op op_add (pv 5) pe_int)) po_none) pa_nil)))))))
      (pss_one (ps_ret (pv 6)))))))), ?_⟩)
  rintro as Kr _ ⟨d, is, o, r, rfl, td, nd, li, re, k⟩
  obtain ⟨Pt, p0, p1, p2, p3⟩ := reach_chain td re
  have sl : ∀ j, j ≤ is.length → nodes (Pt j) ≤ 1000000 := by
    intro j
    induction j with
    | zero =>
      intro _
      rw [p0]
      exact nd
    | succ j ih =>
      intro hj
      obtain ⟨i, hi⟩ : ∃ i, is[j]? = some i := ⟨_, List.getElem?_eq_getElem (by omega)⟩
      obtain ⟨wd, es, e1, e2⟩ := p3 j i hi
      have := ih (by omega)
      rw [e1] at this
      have m := mem_nodes (List.mem_of_getElem? e2)
      have e3 : nodes (.tuple (.str wd :: es)) = (1 + nodesAll es) + 1 := rfl
      omega
  let wy : List PyData := (List.range is.length).map fun j => PyData.tuple [Pt j, .int (((is[j]?).getD 0 + 1 : Nat) : Int)]
  have wyl : wy.length = is.length := by
    show ((List.range is.length).map _).length = _
    rw [List.length_map, List.length_range]
  have wya : ∀ j i, is[j]? = some i → wy[j]? = some (PyData.tuple [Pt j, .int ((i + 1 : Nat) : Int)]) := fun j i h => by
    show ((List.range is.length).map _)[j]? = _
    rw [List.getElem?_map, List.getElem?_range (List.getElem?_eq_some_iff.mp h).1]
    show some (PyData.tuple [Pt j, .int (((is[j]?).getD 0 + 1 : Nat) : Int)]) = _
    rw [h]
    rfl
  refine (sm_seq (sm_setL (el_lst eds_nil) (sm_seq (sm_set (ev_var rfl) (sm_seq (sm_for (fi_tup (ev_var (x := spotT is) rfl)) (fun j ρ => ∃ s5, ρ = [.d d, .d (spotT is), .d o, .l (wy.take j), .d (Pt j), s5, .un]) ⟨.un, by rw [p0]; rfl⟩ (fun j x ρ ex q => ?_) (fun ρ q => ?_)))))))
  · obtain ⟨s5, rfl⟩ := q
    obtain ⟨i, hi, rfl⟩ : ∃ i, is[j]? = some i ∧ x = .int (i : Int) := by
      rw [List.getElem?_map] at ex
      cases z : is[j]? with
      | none => rw [z] at ex; cases ex
      | some i => rw [z] at ex; exact ⟨i, rfl, (Option.some.inj ex).symm⟩
    obtain ⟨wd, es, e1, e2⟩ := p3 j i hi
    have jl := (List.getElem?_eq_some_iff.mp hi).1
    rw [e1]
    refine ⟨_, tg_name, (sm_seq (sm_app rfl (ev_tup (eds_cons (ev_var rfl) (eds_cons (ev_op (ev_var rfl) ev_int fv_int) eds_nil))) rfl ?_ (sm_set (ev_op (ev_var rfl) (ev_op (ev_var rfl) ev_int fv_int) (fv_ixT (x := Pt (j + 1)) ?_)) ?_)))⟩
    · rw [List.length_take]
      exact Nat.lt_of_le_of_lt (Nat.min_le_left _ _) (Nat.lt_of_lt_of_le jl (Nat.le_trans li (by rw [sizeLine_eq]; decide)))
    · have : ((i : Int) + 1) = ((i + 1 : Nat) : Int) := rfl
      rw [this]
      exact at_nat (by rw [List.getElem?_cons_succ]; exact e2)
    · refine ⟨.d (.int (i : Int)), ?_⟩
      rw [take_snoc (wya j i hi), e1]
      rfl
  · obtain ⟨s5, rfl⟩ := q
    have full : (is.map fun i : Nat => PyData.int (i : Int)).length = is.length := List.length_map _
    rw [full, List.take_of_length_le (by omega)]
    refine (sm_seq (sm_set (ev_var rfl) (sm_seq (sm_for (fi_revA_l (ev_varF rfl)) (fun j ρ => ∃ s4 s5, ρ = [.d d, .d (spotT is), .d o, .d (.list wy), s4, s5, .d (chD (Pt (is.length - j)) (is.drop (is.length - j)) o)]) ⟨.d (Pt is.length), s5, ?_⟩ (fun j x ρ ex q => ?_) (fun ρ q => ?_)))))
    · rw [Nat.sub_zero, List.drop_length]
      rfl
    · obtain ⟨s4, s5, rfl⟩ := q
      have jl : j < is.length := by
        have := (List.getElem?_eq_some_iff.mp ex).1
        rw [List.length_reverse, wyl] at this
        exact this
      rw [List.getElem?_reverse (by rw [wyl]; exact jl), wyl] at ex
      obtain ⟨m, hm⟩ : ∃ m, is.length - 1 - j = m := ⟨_, rfl⟩
      rw [hm] at ex
      obtain ⟨i, hi⟩ : ∃ i, is[m]? = some i := ⟨_, List.getElem?_eq_getElem (by omega)⟩
      rw [wya m i hi] at ex
      obtain rfl := Option.some.inj ex
      obtain ⟨wd, es, e1, e2⟩ := p3 m i hi
      have m1 : is.length - j = m + 1 := by omega
      have m2 : is.length - (j + 1) = m := by omega
      have il := (List.getElem?_eq_some_iff.mp e2).1
      have dm : is.drop m = i :: is.drop (m + 1) := by
        obtain ⟨lt, he⟩ := List.getElem?_eq_some_iff.mp hi
        rw [List.drop_eq_getElem_cons lt, he]
      have e3 : chD (.tuple (.str wd :: es)) (i :: is.drop (m + 1)) o = .tuple ((.str wd :: es).set (i + 1) (chD (Pt (m + 1)) (is.drop (m + 1)) o)) := by
        show PyData.tuple ((.str wd :: es).set (i + 1) (chD ((((.str wd :: es : List PyData))[i + 1]?).getD .none) (is.drop (m + 1)) o)) = _
        rw [List.getElem?_cons_succ, e2, Option.getD_some]
      have sz := sl m (by omega)
      rw [e1] at sz
      have e4 : nodes (.tuple (.str wd :: es)) = (1 + nodesAll es) + 1 := rfl
      have e5 := len_nodes es
      rw [e1, m1]
      refine ⟨_, (tg_tup (xs := [PyData.tuple (.str wd :: es), .int ((i + 1 : Nat) : Int)]) (tgs_cons tg_name (tgs_cons tg_name tgs_nil))), (sm_set (ev_tup (eds_star (ev_slA (ev_var rfl) eo_none (eo_some (ev_var rfl))) (eds_cons (ev_var rfl) (eds_star (ev_slA (ev_var rfl) (eo_some (ev_op (ev_var rfl) ev_int fv_int)) eo_none) eds_nil))) ?_) ?_)⟩
      · rw [List.append_nil, show (((i + 1 : Nat) : Int) + 1) = ((i + 1 + 1 : Nat) : Int) from rfl, cutD_to', cutD_from', List.length_append, List.length_cons, List.length_take, List.length_drop, List.length_cons, sizeLine_eq]
        omega
      · refine ⟨Sl.d (PyData.tuple (.str wd :: es)), Sl.d (.int ((i + 1 : Nat) : Int)), ?_⟩
        rw [m2, dm, e1, e3, List.append_nil, show (((i + 1 : Nat) : Int) + 1) = ((i + 1 + 1 : Nat) : Int) from rfl, cutD_to', cutD_from', set_cut (by rw [List.length_cons]; omega)]
        rfl
    · obtain ⟨s4, s5, rfl⟩ := q
      rw [List.length_reverse, wyl, Nat.sub_self, List.drop_zero, p0]
      exact sm_ret (ev_var rfl) k
end
end KP
set_option Elab.async false
set_option linter.unusedVariables false
set_option linter.unusedSectionVars false
set_option maxRecDepth 100000
set_option maxHeartbeats 1000000
namespace OW
open PySem PySem.Spec PyProof.Rows L2 KA
variable [Tbs]
/-! ### calls by the arguments' names, in any order, with defaults in between -/
def pm {α : Type} (idx : List Nat) (l : List α) : List α := idx.filterMap fun i => l[i]?
theorem vals_get : ∀ {vs : List V} {us : List Value} (i : Nat), Vals vs us → (vs[i]? = none ∧ us[i]? = none) ∨ ∃ v u, vs[i]? = some v ∧ us[i]? = some u ∧ RelV v u
  | _, _, _, .nil => Or.inl ⟨rfl, rfl⟩
  | _, _, 0, .cons r _ => Or.inr ⟨_, _, rfl, rfl, r⟩
  | _, _, i + 1, .cons _ t => vals_get i t
theorem pm_vals {vs : List V} {us : List Value} (h : Vals vs us) : ∀ idx : List Nat, Vals (pm idx vs) (pm idx us)
  | [] => .nil
  | i :: idx => by
    have ih := pm_vals h idx
    unfold pm at ih ⊢
    rw [List.filterMap_cons, List.filterMap_cons]
    rcases vals_get i h with ⟨e1, e2⟩ | ⟨v, u, e1, e2, r⟩
    · rw [e1, e2]
      exact ih
    · rw [e1, e2]
      exact .cons r ih
theorem ar_get {W : Hp} : ∀ {vs : List V} {ss : List Sl} (i : Nat), ArAll W vs ss → (vs[i]? = none ∧ ss[i]? = none) ∨ ∃ v s, vs[i]? = some v ∧ ss[i]? = some s ∧ ArOk W v s
  | [], [], _, _ => Or.inl ⟨rfl, rfl⟩
  | v :: _, s :: _, 0, h => Or.inr ⟨v, s, rfl, rfl, h.1⟩
  | _ :: vs, _ :: ss, i + 1, h => ar_get (vs := vs) (ss := ss) i h.2
  | [], _ :: _, _, h => h.elim
  | _ :: _, [], _, h => h.elim
theorem pm_ar {W : Hp} {vs : List V} {ss : List Sl} (h : ArAll W vs ss) : ∀ idx : List Nat, ArAll W (pm idx vs) (pm idx ss)
  | [] => trivial
  | i :: idx => by
    have ih := pm_ar h idx
    unfold pm at ih ⊢
    rw [List.filterMap_cons, List.filterMap_cons]
    rcases ar_get i h with ⟨e1, e2⟩ | ⟨v, s, e1, e2, r⟩
    · rw [e1, e2]
      exact ih
    · rw [e1, e2]
      exact ⟨r, ih⟩
theorem vals_app {vs ws : List V} {us zs : List Value} (h : Vals vs us) (g : Vals ws zs) : Vals (vs ++ ws) (us ++ zs) := h.append g
abbrev gN {α : Type} (idx : List Nat) (ds : List α) : List α → List α → List α := fun us ws => pm idx (us ++ (ds ++ ws))
structure CalN (P : Program) (w : World) (K : PySem.W.Frag) (mg : Str → Option Value) (base : Heap) (k : Nat) (x : Str) (n : Nat) (ks : List Str) (idx : List Nat) (dvs : List V) (sp : Sp) : Prop where
  ex : ∃ (f : Addr) (fd : FuncData) (ps : List Str) (its : List Value), FnOk P w K mg base CX0 k f fd ps sp ∧ mg x = some (.ref f) ∧ PySem.W.keepIn K (.ref f) = true ∧ KBn K fd ps n ks (gN idx its) (gN idx dvs)
section
variable {X : Cx} {k j n : Nat} {ks : List Str} {idx : List Nat} {dvs : List V} {sp : Sp} {x : Str} {p pos : Pos} {kws : List Keyword} {e : Expr} {es : List Expr} {t tk : TA}
theorem pe_n0 (c : CalN X.prog X.w X.K X.mg X.base k x 0 ks idx dvs sp) (hr : Room j X.A) (hk : k ≤ j) (hg : Gl X x)
    (hkw : PK X kws tk) (hall : (backToKw pos (keywordEach kws X.env)).all (·.1.isSome) = true := by rfl) (hks : (backToKw pos (keywordEach kws X.env)).filterMap (·.1) = ks := by rfl)
    (hdb : (x == ("__debug__" : Str)) = false := by decide) (hpl : ((backTo pos (starEach [] X.env)).any (·.1) || (backToKw pos (keywordEach kws X.env)).any (·.1.isNone)) = false := by rfl) :
    PE X (.Call (.Name x p) [] kws pos) (tCallN 0 ks.length sp (gN idx dvs) C8.E0 tNil tk) := by
  obtain ⟨f, fd, ps, its, F, hm, kp, hb⟩ := c.ex
  refine ⟨fun pins s σ H Q I h => ?_⟩
  have h : tk σ H fun zs H2 => ([] : List V).length = 0 ∧ zs.length = ks.length ∧ sp (gN idx dvs [] zs) H2 Q C8.E0 := h
  refine wpAny_Call_Name_kw (ld_glob I hg hm ?_ hdb)
  refine PySem.W.callWith_KW0 (h₀ := X.base) I.ok.mod.kin kp hall (thn (hkw.run pos pins s σ H _ I h) fun ws s2 ⟨zs, H2, I2, rz, l1, l2, q2⟩ => ⟨I2.kIn, ?_⟩) hpl
  rw [hks]
  exact run_fnN (us := []) (vs := []) F (hr.mono hk) hb pass0 I2 .nil rz l1 l2 q2
theorem pe_n (c : CalN X.prog X.w X.K X.mg X.base k x n ks idx dvs sp) (hr : Room j X.A) (hk : k ≤ j) (hg : Gl X x) (ha : PA X (e :: es) t)
    (hkw : PK X kws tk) (hall : (backToKw pos (keywordEach kws X.env)).all (·.1.isSome) = true := by rfl) (hks : (backToKw pos (keywordEach kws X.env)).filterMap (·.1) = ks := by rfl)
    (hdb : (x == ("__debug__" : Str)) = false := by decide) (he : starEach (e :: es) X.env = (false, eval e X.env) :: starEach es X.env := by rfl)
    (hpl : ((backTo pos (starEach (e :: es) X.env)).any (·.1) || (backToKw pos (keywordEach kws X.env)).any (·.1.isNone)) = false := by rfl) :
    PE X (.Call (.Name x p) (e :: es) kws pos) (tCallN n ks.length sp (gN idx dvs) C8.E0 t tk) := by
  obtain ⟨f, fd, ps, its, F, hm, kp, hb⟩ := c.ex
  exact pe_callN F (hr.mono hk) hg hm kp hb pass0 ha hkw hall hks hdb he hpl
end
section
variable {P : Program} {w : World} {K : PySem.W.Frag} {mg : Str → Option Value} {base : Heap} {x qual : Str} {st : Stmt} {f : Addr} {fd : FuncData} {k n : Nat} {ps ks : List Str} {idx : List Nat} {sp : Sp}
theorem kbn_of (F : Fun K x qual st f fd) (h : ∀ (kV doc pm' : Value) (an : Option Addr) (cdv ct : Value) (us ws : List Value), us.length = n → ws.length = ks.length → bindArgs (PySem.W.fnOf x qual (defArgs st) (defBody st) (defScope st) .none kV doc pm' an cdv ct) ⟨us, ks.zip ws⟩ = pure (ps.zip (gN idx [] us ws))) :
    KBn K fd ps n ks (gN idx []) (gN idx []) := by
  obtain ⟨oc, od, kV, doc, pm', an, cdv, ct, osl, rfl, lk, hcd⟩ := F.ex
  exact ⟨fun s us ws _ l1 l2 => .of_eq (h kV doc pm' an cdv ct us ws l1 l2), fun r1 r2 => pm_vals (vals_app r1 (vals_app .nil r2)) _⟩
theorem kbn_d {params : Arguments} {body : List Stmt} {scope : Scope} {dvs : List V} {kws : List (Str × V)} (F : FunD K x qual params body scope dvs kws f fd) (hd : dvs ≠ [])
    (h : ∀ (T : Addr) (kV doc pm' : Value) (an : Option Addr) (cdv ct : Value) (us its ws : List Value), us.length = n → its.length = dvs.length → ws.length = ks.length →
      ∃ k, bindArgs (PySem.W.fnOf x qual params body scope (.ref T) kV doc pm' an cdv ct) ⟨us, ks.zip ws⟩ = seqItems? (.ref T) >>= k ∧ k (some its.toArray) = pure (ps.zip (gN idx its us ws))) :
    ∃ its, KBn K fd ps n ks (gN idx its) (gN idx dvs) :=
  F.kbindsD n ks (fun us ds ws => pm idx (us ++ (ds ++ ws))) hd (fun r1 r2 r3 => pm_vals (vals_app r1 (vals_app r2 r3)) _) h
end
section
variable {ρ ρ1 ρ' : List Sl} {t tk : TA} {ss zs ds : List Sl} {x : PyData} {xs : List PyData} {idx : List Nat} {dvs : List V} {n m k : Nat} {E : XK} {T : List Sl → (Rv → Prop) → Prop}
theorem ev_n (h : Es t ρ ss ρ1) (hk : Es tk ρ1 zs ρ') (hd : ∀ W, ArAll W dvs ds) (l1 : ss.length = n) (l2 : zs.length = m) (hn : (gN idx ds ss zs).length = k) (g : T (gN idx ds ss zs) fun r => r = .d x) : Ev (tCallN n m (spD k T) (gN idx dvs) E t tk) ρ (.d x) ρ' := fun c A σ H Q R f q =>
  h c A σ H _ R f fun vs A1 H1 R1 f1 S1 o1 => hk c A1 σ H1 _ R1 f1 fun us A2 H2 R2 f2 S2 o2 => by
    refine ⟨o1.length.trans l1, o2.length.trans l2, zz c.Z A2, gN idx ds ss zs, _, zz_ok R2, by rw [hz_eq]; exact pm_ar ((o1.mono S2).append ((hd _).append o2)) _, hn, g, fun r v H' hr S o => ?_⟩
    subst hr
    have o : Dn (hz (zz c.Z A2) H') v x := o
    rw [hz_eq] at o
    exact q v A2 H' (R2.upA S) f2 ((S1.trans S2).trans (vw_upA R2 S)) o
theorem el_n (h : Es t ρ ss ρ1) (hk : Es tk ρ1 zs ρ') (hd : ∀ W, ArAll W dvs ds) (l1 : ss.length = n) (l2 : zs.length = m) (hn : (gN idx ds ss zs).length = k) (g : T (gN idx ds ss zs) fun r => r = .l xs) : El (tCallN n m (spD k T) (gN idx dvs) E t tk) ρ xs ρ' := fun c A σ H Q R f q =>
  h c A σ H _ R f fun vs A1 H1 R1 f1 S1 o1 => hk c A1 σ H1 _ R1 f1 fun us A2 H2 R2 f2 S2 o2 => by
    refine ⟨o1.length.trans l1, o2.length.trans l2, zz c.Z A2, gN idx ds ss zs, _, zz_ok R2, by rw [hz_eq]; exact pm_ar ((o1.mono S2).append ((hd _).append o2)) _, hn, g, fun r v H' hr S o => ?_⟩
    subst hr
    obtain ⟨a, us', rfl, n', e, dx⟩ := o
    rw [hz_eq] at dx
    refine q a us' _ H' (R2.adopt S n' e) aset_at ((S1.trans S2).trans ?_) e (DnAll.mono vw_adopt dx)
    exact fun b o z => vw_adopt (A := A2) b o (by rw [hid_ne (ne_of_none (vw_some z).2.2 n')]; exact vw_upA R2 S _ _ z)
end
end OW
set_option Elab.async false
set_option linter.unusedVariables false
set_option linter.unusedSectionVars false
set_option maxRecDepth 100000
set_option maxHeartbeats 2000000
namespace KP
open PySem PySem.Spec PyProof.Rows L2 KA OW
/-! ### the defs of terms, where nothing is refused -/
abbrev sWantTerm : Stmt := top 33
abbrev nWantTerm : List Str := ["thing"]
theorem scWantTerm : FnScope nWantTerm ["thing"] (defScope sWantTerm) := ⟨rfl, rfl, rfl, by decide +kernel, rfl, by decide +kernel, by decide +kernel⟩
abbrev sWantWhole : Stmt := top 34
abbrev nWantWhole : List Str := ["thing", "low", "high"]
theorem scWantWhole : FnScope nWantWhole ["thing", "low", "high"] (defScope sWantWhole) := ⟨rfl, rfl, rfl, by decide +kernel, rfl, by decide +kernel, by decide +kernel⟩
abbrev sPlaceOf : Stmt := top 35
abbrev nPlaceOf : List Str := ["term", "spot", "place"]
theorem scPlaceOf : FnScope nPlaceOf ["term", "spot"] (defScope sPlaceOf) := ⟨rfl, rfl, rfl, by decide +kernel, rfl, by decide +kernel, by decide +kernel⟩
abbrev sPartAt : Stmt := top 36
abbrev nPartAt : List Str := ["term", "spot"]
theorem scPartAt : FnScope nPartAt ["term", "spot"] (defScope sPartAt) := ⟨rfl, rfl, rfl, by decide +kernel, rfl, by decide +kernel, by decide +kernel⟩
abbrev sSpots : Stmt := top 37
abbrev nSpots : List Str := ["term"]
theorem scSpots : FnScope nSpots ["term"] (defScope sSpots) := ⟨rfl, rfl, rfl, by decide +kernel, rfl, by decide +kernel, by decide +kernel⟩
abbrev sChanged : Stmt := top 38
abbrev nChanged : List Str := ["term", "spot", "other"]
theorem scChanged : FnScope nChanged ["term", "spot", "other"] (defScope sChanged) := ⟨rfl, rfl, rfl, by decide +kernel, rfl, by decide +kernel, by decide +kernel⟩
abbrev sSize : Stmt := top 39
abbrev nSize : List Str := ["term"]
theorem scSize : FnScope nSize ["term"] (defScope sSize) := ⟨rfl, rfl, rfl, by decide +kernel, rfl, by decide +kernel, by decide +kernel⟩
def tWantY : List Sl → (Rv → Prop) → Prop := fun as Kr => ∃ d, as = [.d d] ∧ tm d = true ∧ okT d ∧ Kr (.d .none)
def tWantWY : List Sl → (Rv → Prop) → Prop := fun as Kr => ∃ z lo hi, as = [.d (.int z), .d (.int lo), .d (.int hi)] ∧ lo ≤ z ∧ z ≤ hi ∧ Kr (.d .none)
def tPlaceY : List Sl → (Rv → Prop) → Prop := fun as Kr => ∃ d q r, as = [.d d, .d (spotT q)] ∧ tm d = true ∧ okT d ∧ okT (spotT q) ∧ reachD d q 0 = some r ∧ Kr (.d (.tuple [r.1, .int r.2]))
def tAtY (g : PyData × Int → PyData) : List Sl → (Rv → Prop) → Prop := fun as Kr => ∃ d q r, as = [.d d, .d (spotT q)] ∧ tm d = true ∧ okT d ∧ okT (spotT q) ∧ reachD d q 0 = some r ∧ Kr (.d (g r))
def tPartsY : List Sl → (Rv → Prop) → Prop := fun as Kr => ∃ d, as = [.d d] ∧ tm d = true ∧ okT d ∧ Kr (.l (partsD d))
def tSpotsY : List Sl → (Rv → Prop) → Prop := fun as Kr => ∃ d, as = [.d d] ∧ tm d = true ∧ okT d ∧ Kr (.l ((wk d [] 0).map rowS))
def tSizeY : List Sl → (Rv → Prop) → Prop := fun as Kr => ∃ d, as = [.d d] ∧ tm d = true ∧ okT d ∧ Kr (.d (.int ((wk d [] 0).length : Int)))
def tChangedY : List Sl → (Rv → Prop) → Prop := fun as Kr => ∃ d q o r, as = [.d d, .d (spotT q), .d o] ∧ tm d = true ∧ okT d ∧ okT (spotT q) ∧ tm o = true ∧ okT o ∧ q.length ≤ 1000000 ∧ reachD d q 0 = some r ∧ Kr (.d (chD d q o))
section
variable {ρ ρ' : List Sl} {tr : TA} {d : PyData}
theorem ev_wholeY {lo hi : Int} {E : XK} (h : Es tr ρ [.d d, .d (.int lo), .d (.int hi)] ρ') : Ev (tCall spWhole [] E tr) ρ (.d (.bool (wholeB lo hi d))) ρ' := fun c A σ H Q R f q =>
  h c A σ H _ R f fun vs A1 H1 R1 f1 S1 o1 => by
    match vs, o1 with
    | [v, l, h'], o1 =>
      obtain rfl := int_v o1.2.1
      obtain rfl := int_v o1.2.2.1
      exact ⟨v, d, lo, hi, rfl, Dn.mono vw_sub o1.1, fun H2 S2 => q _ A1 H2 (R1.up S2) f1 (S1.trans (vw_up S2)) (.bl _)⟩
end
theorem whole_in {z lo hi : Int} (h0 : lo ≤ z) (h1 : z ≤ hi) : wholeB lo hi (.int z) = true := by
  show (decide (lo ≤ z) && decide (z ≤ hi)) = true
  rw [decide_eq_true h0, decide_eq_true h1]
  rfl
section
variable {P : Program} {w : World} {K : PySem.W.Frag} {mg : Str → Option Value} {base : Heap}
theorem ok_wantY {f : Addr} {fd : FuncData} (F : Fun K "want_term" "want_term" sWantTerm f fd) (C_is_term : C8.Cal P w K mg base 4 "is_term" (sp1 okT tm) []) : FnOk P w K mg base CX0 5 f fd ["thing"] (spD 1 tWantY) := by
  refine fn_d F scWantTerm (body := fun cdv A outer s H E hr => ⟨_, (pss_one (ps_if (pt_not (pt_val (C8.pe_c C_is_term hr (by omega) rfl (pa_cons (pv 0) pa_nil)))) (pss_one ps_never) pss_nil)), ?_⟩)
  rintro as Kr _ ⟨d, rfl, td, ok, k⟩
  exact sm_if (et_not (et_B (ev_sp1 (es_cons (ev_var rfl) es_nil) ok))) (fun h => by rw [td] at h; cases h) (fun h => sm_next k)
theorem ok_wantWY {f : Addr} {fd : FuncData} (F : Fun K "want_whole" "want_whole" sWantWhole f fd) (C_is_whole : C8.Cal P w K mg base 2 "is_whole" spWhole []) : FnOk P w K mg base CX0 3 f fd ["thing", "low", "high"] (spD 3 tWantWY) := by
  refine fn_d F scWantWhole (body := fun cdv A outer s H E hr => ⟨_, (pss_one (ps_if (pt_not (pt_val (C8.pe_c C_is_whole hr (by omega) rfl (pa_cons (pv 0) (pa_cons (pv 1) (pa_cons (pv 2) pa_nil)))))) (pss_one ps_never) pss_nil)), ?_⟩)
  rintro as Kr _ ⟨z, lo, hi, rfl, h0, h1, k⟩
  exact sm_if (et_not (et_B (ev_wholeY (es_cons (ev_var rfl) (es_cons (ev_var rfl) (es_cons (ev_var rfl) es_nil)))))) (fun h => by rw [whole_in h0 h1] at h; cases h) (fun h => sm_next k)
theorem ok_placeY {f : Addr} {fd : FuncData} (F : Fun K "_place_of" "_place_of" sPlaceOf f fd) (C_want_term : C8.Cal P w K mg base 5 "want_term" (spD 1 tWantY) []) (C_is_spot : C8.Cal P w K mg base 2 "is_spot" (sp1 okT spotB) []) (C_reached : C8.Cal P w K mg base 2 "reached" (spD 2 tReached) []) : FnOk P w K mg base CX0 6 f fd ["term", "spot"] (spD 2 tPlaceY) := by
  refine fn_d F scPlaceOf (body := fun cdv A outer s H E hr => ⟨_, (pss_cons (ps_expr (C8.pe_c C_want_term hr (by omega) rfl (pa_cons (pv 0) pa_nil)))
      (pss_cons (ps_set (i := 2) scPlaceOf.nd rfl (Or.inl rfl) (pe_ifExp (pt_val (C8.pe_c C_is_spot hr (by omega) rfl (pa_cons (pv 1) pa_nil))) (C8.pe_c C_reached hr (by omega) rfl (pa_cons (pv 0) (pa_cons (pv 1) pa_nil))) pe_non))
      (pss_cons (ps_if (pt_cmpR op_isN (pv 2) pe_non (nomark _)) (pss_one ps_never) pss_nil) (pss_one (ps_ret (pv 2)))))), ?_⟩)
  rintro as Kr _ ⟨d, q, r, rfl, td, ok, okq, re, k⟩
  exact (sm_seq (sm_drop (ev_call (x := .none) (es_cons (ev_var rfl) es_nil) ar_nil rfl ⟨_, rfl, td, ok, rfl⟩) (sm_seq (sm_set (ev_if (et_B (ev_sp1 (es_cons (ev_var rfl) es_nil) okq)) (fun h => (ev_call (x := .tuple [r.1, .int r.2]) (es_cons (ev_var rfl) (es_cons (ev_var rfl) es_nil)) ar_nil rfl ⟨d, q, rfl, td, by rw [re]⟩)) (fun h => by rw [spotT_B] at h; cases h)) (sm_seq (sm_if (et_test (ev_op (ev_var rfl) ev_non fv_isN)) (fun h => by cases h) (fun h => (sm_next (sm_ret (ev_var rfl) k)))))))))
theorem ok_partatY {f : Addr} {fd : FuncData} (F : Fun K "part_at" "part_at" sPartAt f fd) (C_place_of : C8.Cal P w K mg base 6 "_place_of" (spD 2 tPlaceY) []) : FnOk P w K mg base CX0 7 f fd ["term", "spot"] (spD 2 (tAtY (·.1))) := by
  refine fn_d F scPartAt (body := fun cdv A outer s H E hr => ⟨_, (pss_one (ps_ret (pe_ix ix_tup (C8.pe_c C_place_of hr (by omega) rfl (pa_cons (pv 0) (pa_cons (pv 1) pa_nil))) pe_int (fun _ _ => rfl)))), ?_⟩)
  rintro as Kr _ ⟨d, q, r, rfl, td, ok, okq, re, k⟩
  exact (sm_ret (ev_op (ev_call (x := .tuple [r.1, .int r.2]) (es_cons (ev_var rfl) (es_cons (ev_var rfl) es_nil)) ar_nil rfl ⟨d, q, r, rfl, td, ok, okq, re, rfl⟩) ev_int (fv_ixT at0)) k)
theorem ok_spotsY {f : Addr} {fd : FuncData} (F : Fun K "spots" "spots" sSpots f fd) (C_want_term : C8.Cal P w K mg base 5 "want_term" (spD 1 tWantY) []) (C_all_spots : C8.Cal P w K mg base 2 "all_spots" (spD 1 tAllSpots) []) : FnOk P w K mg base CX0 6 f fd ["term"] (spD 1 tSpotsY) := by
  refine fn_d F scSpots (body := fun cdv A outer s H E hr => ⟨_, (pss_cons (ps_expr (C8.pe_c C_want_term hr (by omega) rfl (pa_cons (pv 0) pa_nil)))
      (pss_one (ps_ret (C8.pe_c C_all_spots hr (by omega) rfl (pa_cons (pv 0) pa_nil))))), ?_⟩)
  rintro as Kr _ ⟨d, rfl, td, ok, k⟩
  exact (sm_seq (sm_drop (ev_call (x := .none) (es_cons (ev_var rfl) es_nil) ar_nil rfl ⟨_, rfl, td, ok, rfl⟩) (sm_retL (el_call (es_cons (ev_var rfl) es_nil) ar_nil rfl ⟨_, rfl, td, ok.2, rfl⟩) k)))
theorem ok_changedY {f : Addr} {fd : FuncData} (F : Fun K "changed" "changed" sChanged f fd) (C_want_term : C8.Cal P w K mg base 5 "want_term" (spD 1 tWantY) []) (C_place_of : C8.Cal P w K mg base 6 "_place_of" (spD 2 tPlaceY) []) (C_with_part : C8.Cal P w K mg base 1 "with_part" (spD 3 tWithPart) []) : FnOk P w K mg base CX0 7 f fd ["term", "spot", "other"] (spD 3 tChangedY) := by
  refine fn_d F scChanged (body := fun cdv A outer s H E hr => ⟨_, (pss_cons (ps_expr (C8.pe_c C_place_of hr (by omega) rfl (pa_cons (pv 0) (pa_cons (pv 1) pa_nil))))
      (pss_cons (ps_expr (C8.pe_c C_want_term hr (by omega) rfl (pa_cons (pv 2) pa_nil)))
      (pss_one (ps_ret (C8.pe_c C_with_part hr (by omega) rfl (pa_cons (pv 0) (pa_cons (pv 1) (pa_cons (pv 2) pa_nil)))))))), ?_⟩)
  rintro as Kr _ ⟨d, q, o, r, rfl, td, ok, okq, to_, oko, ql, re, k⟩
  exact (sm_seq (sm_drop (ev_call (x := .tuple [r.1, .int r.2]) (es_cons (ev_var rfl) (es_cons (ev_var rfl) es_nil)) ar_nil rfl ⟨d, q, r, rfl, td, ok, okq, re, rfl⟩) (sm_seq (sm_drop (ev_call (x := .none) (es_cons (ev_var rfl) es_nil) ar_nil rfl ⟨_, rfl, to_, oko, rfl⟩) (sm_ret (ev_call (es_cons (ev_var rfl) (es_cons (ev_var rfl) (es_cons (ev_var rfl) es_nil))) ar_nil rfl ⟨d, q, o, r, rfl, td, ok.2, ql, re, rfl⟩) k)))))
theorem ok_sizeY {f : Addr} {fd : FuncData} (F : Fun K "size" "size" sSize f fd) (T : Txt K w mg) (C_want_term : C8.Cal P w K mg base 5 "want_term" (spD 1 tWantY) []) (C_inner_terms : C8.Cal P w K mg base 2 "inner_terms" (spD 1 tInner) []) : FnOk P w K mg base CX0 6 f fd ["term"] (spD 1 tSizeY) := by
  refine fn_d F scSize (body := fun cdv A outer s H E hr => ⟨_, (pss_cons (ps_expr (C8.pe_c C_want_term hr (by omega) rfl (pa_cons (pv 0) pa_nil)))
      (pss_one (ps_ret (pe_callB call_len_seq (by rfl) T.len PySem.boot_len (pa_cons (C8.pe_c C_inner_terms hr (by omega) rfl (pa_cons (pv 0) pa_nil)) pa_nil))))), ?_⟩)
  rintro as Kr _ ⟨d, rfl, td, ok, k⟩
  refine (sm_seq (sm_drop (ev_call (x := .none) (es_cons (ev_var rfl) es_nil) ar_nil rfl ⟨_, rfl, td, ok, rfl⟩) (sm_ret (ev_fn (es_cons (Ev.of_el (el_call (xs := (wk d [] 0).map rowI) (es_cons (ev_var rfl) es_nil) ar_nil rfl ⟨_, rfl, td, ok.2, rfl⟩)) es_nil) fv_lenL) ?_)))
  rw [List.length_map]
  exact k
end
end KP
set_option Elab.async false
set_option linter.unusedVariables false
set_option linter.unusedSectionVars false
set_option maxRecDepth 100000
set_option maxHeartbeats 2000000
namespace OW
open PySem PySem.Spec PyProof.Rows L2 KA
variable [Tbs]
/-! ### a dict that only its slot has; a list of things of any kind that only its slot has -/
section
variable {c : Fr} {A : Am} {ρ ρ' ρ1 ρ2 : List Sl} {σ : L2.St} {H : Hp} {te tk tv : TE} {i : Nat} {K : KK} {ss rs : List Sl} {s : Sl} {ta : TA} {KF : PySem.W.Frag}
/-- the new thing goes to a slot, in whatever form -/
theorem Rp.setO (R : Rp c A ρ σ H) {a : Addr} (i0 : i ≠ 0) (hi : i < ρ.length) (e : A fl = some a) (hs : ∀ W, Same (vw c.Z A H) W → SlOk W H (some (some (.ref a))) (some a) s) : Rp c (aset (aset A i (some a)) fl none) (ρ.set i s) (σ.set i (some (.ref a))) H := by
  have ne : i ≠ fl := by have := R.sz; omega
  have back : ∀ j b, aset (aset A i (some a)) fl none j = some b → (j = i ∧ b = a) ∨ (j ≠ i ∧ j ≠ fl ∧ A j = some b) := fun j b z => by
    by_cases q : j = fl
    · rw [q, aset_at] at z
      cases z
    · rw [aset_ne q] at z
      by_cases q' : j = i
      · rw [q', aset_at] at z
        exact Or.inl ⟨q', (Option.some.inj z).symm⟩
      · rw [aset_ne q'] at z
        exact Or.inr ⟨q', q, z⟩
  have more : Same (vw c.Z A H) (vw c.Z (aset (aset A i (some a)) fl none) H) := vw_less fun j b z => by
    rcases back j b z with ⟨_, rfl⟩ | ⟨_, _, z⟩
    · exact ⟨_, e⟩
    · exact ⟨_, z⟩
  refine ⟨by rw [List.length_set, List.length_set, R.len], by rw [List.length_set]; exact R.sz, ?_, ?_, ?_, R.keep, R.old.trans more, ?_, ?_, R.tz, R.tb.mono more fun _ _ => rfl⟩
  · intro k j b z z'
    rcases back k b z with ⟨q1, q2⟩ | ⟨n1, n2, y⟩
    · rcases back j _ z' with ⟨q3, _⟩ | ⟨n3, n4, y'⟩
      · rw [q1, q3]
      · exact absurd (R.inj _ _ _ (q2 ▸ y') e) n4
    · rcases back j b z' with ⟨q3, q4⟩ | ⟨n3, n4, y'⟩
      · exact absurd (R.inj _ _ _ (q4 ▸ y) e) n2
      · exact R.inj _ _ _ y y'
  · intro j b z
    rcases back j b z with ⟨rfl, rfl⟩ | ⟨n1, n2, z⟩
    · exact R.off _ _ e
    · exact R.off _ _ z
  · intro j b z
    rcases back j b z with ⟨rfl, rfl⟩ | ⟨n1, n2, z⟩
    · exact R.live _ _ e
    · exact R.live _ _ z
  · intro p q
    rw [aset_ne (by decide), aset_ne i0.symm]
    exact R.bor p q
  · intro j t z
    by_cases q : j = i
    · subst q
      rw [aset_ne ne, aset_at]
      rw [List.getElem?_set_self (by rw [R.len]; exact hi)]
      rw [List.getElem?_set_self hi] at z
      cases z
      exact hs _ more
    · rw [List.getElem?_set_ne (Ne.symm q)] at z ⊢
      rw [aset_ne (idx_small R.sz z), aset_ne q]
      exact (R.sl j t z).mono more fun _ _ _ h => h
/-- the thing that a slot has changes, and is of a form -/
theorem Rp.mutO (R : Rp c A ρ σ H) {a : Addr} {o : HO} (hi : i < ρ.length) (e : A i = some a) (hs : ∀ H', H' a = some o → SlOk (vw c.Z A H) H' σ[i]? (some a) s) : Rp c A (ρ.set i s) σ (upd H a o) := by
  have hv : vw c.Z A (upd H a o) = vw c.Z A H := vw_mut e
  refine ⟨by rw [List.length_set, R.len], by rw [List.length_set]; exact R.sz, R.inj, R.off, ?_, ?_, ?_, R.bor, ?_, R.tz, by rw [hv]; exact R.tb.mono (Same.refl _) (R.tb.upd_ (R.nt e))⟩
  · intro j b z
    by_cases q : b = a
    · rw [q, upd_same]
      simp
    · rw [upd_ne q]
      exact R.live _ _ z
  · intro b z t
    have nb : b ≠ a := fun q => R.off _ _ e (q ▸ z)
    rw [upd_ne nb]
    exact R.keep b z t
  · rw [hv]
    exact R.old
  · intro j t z
    rw [hv]
    by_cases q : j = i
    · subst q
      rw [List.getElem?_set_self hi] at z
      cases z
      rw [e]
      exact hs _ upd_same
    · rw [List.getElem?_set_ne (Ne.symm q)] at z
      refine (R.sl j t z).mono (Same.refl _) fun b ws e' hb => ?_
      have nb : b ≠ a := fun eb => q (R.inj _ _ _ e' (eb ▸ e))
      rw [upd_ne nb]
      exact hb
theorem sm_dk0 (k : K.nx (ρ.set i (.dk []))) (i0 : i ≠ 0 := by decide) (hi : i < ρ.length := by simp [uns]) : Sm (tAsg tDNewK (gName i)) ρ K := fun c A σ H D R f dk => fun p hp => by
  have R1 := R.fly (o := .dK []) hp
  exact dk.nx _ _ _ _ k (R1.setO (s := .dk []) i0 hi aset_at fun W S => ⟨p, rfl, rfl, upd_same⟩) aset_at
theorem sm_dkSet {kvs : List (Key × V)} {z : Int} {v : V} (h0 : ρ[i]? = some (.dk kvs)) (hv : Ev tv ρ (.p (isV v)) ρ) (hk : Ev tk ρ (.d (.int z)) ρ) (len : kvs.length < sizeLine) (k : K.nx (ρ.set i (.dk (putK kvs (Sum.inl z) v)))) : Sm (tAsg tv (gSub (tVar i) tk rSetD)) ρ K := fun c A σ H D R f dk =>
  hv c A σ H _ R f fun u A1 H1 R1 f1 S1 o1 => by
    obtain rfl := isv_v o1
    obtain ⟨a, e, e1, e2⟩ := R1.sl i _ h0
    refine ⟨_, e1, hk c A1 σ H1 _ R1 f1 fun w A2 H2 R2 f2 S2 o2 => ?_⟩
    obtain rfl := int_v o2
    obtain ⟨a', g, g1, g2⟩ := R2.sl i _ h0
    rw [e1] at g1
    cases g1
    refine ⟨a, _, rfl, DPut.k (k := Sum.inl z) g2 len, dk.nx _ _ _ _ k (R2.mutO (s := .dk _) (List.getElem?_eq_some_iff.mp h0).1 g fun H' h' => ⟨a, rfl, e1, h'⟩) f2⟩
theorem el_sortedDk {kvs : List (Key × V)} {ks ys : List Int} (h0 : ρ[i]? = some (.dk kvs)) (hks : kvs.map (·.1) = ks.map Sum.inl) (h64 : ks.length < 64) (hy : ∀ zs : List Int, zs.Perm ks → zs.Pairwise (· ≤ ·) → zs = ys) :
    El (tCB (fun xs H Q => ∃ (a : Addr) (kvs : List (Key × V)) (ks : List Int), xs = [.ref a] ∧ Rd H a (.dK kvs) ∧ kvs.map (·.1) = ks.map Sum.inl ∧ ks.length < 64 ∧
    ∀ (ys : List Int) (p : Addr), ys.Perm ks → ys.Pairwise (· ≤ ·) → H p = none → Q (.ref p) (upd H p (.lst (ys.map V.int)))) (tCons (tVar i) tNil)) ρ (ys.map .int) ρ := fun c A σ H Q R f q => by
  obtain ⟨a, e, e1, e2⟩ := R.sl i _ h0
  refine ⟨_, e1, a, kvs, ks, rfl, Rd.of e2, hks, h64, fun zs p hp hs n => ?_⟩
  rw [hy zs hp hs]
  refine q p _ _ _ (R.fly n) aset_at (vw_fly n) upd_same ?_
  have : ∀ zs : List Int, DnAll (vw c.Z (aset A fl (some p)) (upd H p (.lst (ys.map V.int)))) (zs.map V.int) (zs.map .int) := fun zs => by
    induction zs with
    | nil => exact .nil
    | cons z zs ih => exact .cons (.int z) ih
  exact this ys
end
end OW
set_option Elab.async false
set_option linter.unusedVariables false
set_option linter.unusedSectionVars false
set_option maxRecDepth 100000
set_option maxHeartbeats 2000000
namespace OW
open PySem PySem.Spec PyProof.Rows L2 KA
variable [Tbs]
/-! ### a def with defaults that refuses; calls of it; the script -/
structure CalXD (P : Program) (w : World) (K : PySem.W.Frag) (mg : Str → Option Value) (base : Heap) (k : Nat) (x : Str) (ps : List Str) (sp : Sp) (dvs : List V) : Prop where
  ex : ∃ (f : Addr) (fd : FuncData) (ds : List Value), FnOk P w K mg base (L2.CX P w) k f fd ps sp ∧ mg x = some (.ref f) ∧ PySem.W.keepIn K (.ref f) = true ∧ Binds K fd ps ds ∧ Vals dvs ds
theorem passF {X : Cx} {σ : L2.St} : PassesAt (L2.CX X.prog X.w) X σ (fun _ _ _ => False) := fun _ _ _ _ _ _ c => by
  obtain ⟨_, _, _, _, _, _, _, _, _, _, _, _, z⟩ := c
  exact z.elim
section
variable {X : Cx} {j k : Nat} {x : Str} {ps : List Str} {sp : Sp} {dvs : List V} {W : WX} {e : Expr} {es : List Expr} {t : TA} {p pos : Pos}
theorem pe_xF (c : CalX X.prog X.w X.K X.mg X.base k x ps sp) (hr : Room j X.A) (hk : k ≤ j) (hg : Gl X x) (ha : PA X (e :: es) t)
    (hdb : (x == ("__debug__" : Str)) = false := by decide) (he : starEach (e :: es) X.env = (false, eval e X.env) :: starEach es X.env := by rfl) (hpl : (backTo pos (starEach es X.env)).any (·.1) = false := by rfl) : PE X (.Call (.Name x p) (e :: es) [] pos) (tCallS sp (fun _ => fun _ _ _ => False) t) := by
  obtain ⟨f, fd, F, m, kp, b⟩ := c.ex
  exact pe_callS F (hr.mono hk) hg m kp b (fun σ => passF) ha hdb he hpl
theorem pe_xDF (c : CalXD X.prog X.w X.K X.mg X.base k x ps sp dvs) (hr : Room j X.A) (hk : k ≤ j) (hg : Gl X x) (ha : PA X (e :: es) t)
    (hdb : (x == ("__debug__" : Str)) = false := by decide) (he : starEach (e :: es) X.env = (false, eval e X.env) :: starEach es X.env := by rfl) (hpl : (backTo pos (starEach es X.env)).any (·.1) = false := by rfl) : PE X (.Call (.Name x p) (e :: es) [] pos) (tCallSD sp dvs (fun _ => fun _ _ _ => False) t) := by
  obtain ⟨f, fd, ds, F, m, kp, b, v⟩ := c.ex
  exact pe_callSD F (hr.mono hk) hg m kp b v (fun σ => passF) ha hdb he hpl
end
section
variable {ρ ρ' : List Sl} {tr : TA} {ss ds : List Sl} {x : PyData} {xs : List PyData} {n : Nat} {E : L2.St → XK} {T : List Sl → (Rv → Prop) → (Addr → Sl → Prop) → Prop} {dvs : List V}
theorem ev_callXD (h : Es tr ρ ss ρ') (hd : ∀ W, ArAll W dvs ds) (hn : (ss ++ ds).length = n) (g : T (ss ++ ds) (fun r => r = .d x) fun _ _ => False) : Ev (tCallSD (spX n T) dvs E tr) ρ (.d x) ρ' := fun c A σ H Q R f q =>
  h c A σ H _ R f fun vs A1 H1 R1 f1 S1 o1 => by
    refine ⟨zz c.Z A1, ss ++ ds, _, _, zz_ok R1, by rw [hz_eq]; exact o1.append (hd _), hn, g, fun r v H' hr S o => ?_, fun _ _ _ _ _ z => z.elim⟩
    subst hr
    have o : Dn (hz (zz c.Z A1) H') v x := o
    rw [hz_eq] at o
    exact q v A1 H' (R1.upA S) f1 (S1.trans (vw_upA R1 S)) o
end
section
variable {P : Program} {w : World} {K : PySem.W.Frag} {mg : Str → Option Value} {base : Heap}
theorem fn_xD {x qual : Str} {st : Stmt} {f : Addr} {fd : FuncData} {N ps : List Str} {k n : Nat} {dvs : List V} {kws : List (Str × V)} {T : List Sl → (Rv → Prop) → (Addr → Sl → Prop) → Prop} (F : FunD K x qual (defArgs st) (defBody st) (defScope st) dvs kws f fd) (S : FnScope N ps (defScope st)) (hn : ps.length = n := by rfl) (hN : n + N.length < fl := by decide)
    (body : ∀ (cdv : Value) (A : Around) (outer : List Env) (s : Shared) (H : Hp) (E : XK), Room k (A.deeper (envOfC qual (defScope st) s.heap.objs.size f cdv)) →
      ∃ t, PSs (cxOf (L2.CX P w) P w K mg base N qual (defScope st) f cdv A outer s H E) (defBody st) t ∧ ∀ as Kr X, as.length = n → T as Kr X →
        Sm t (as ++ uns (N.length - n)) { nx := fun _ => Kr (.d .none), rt := fun r _ => Kr r } ∨ ∃ C s ρ', X C s ∧ Rs (fun cls d _ H => E cls d H) t (as ++ uns (N.length - n)) C s ρ') :
    FnOk P w K mg base (L2.CX P w) (k + 1) f fd ps (spX n T) := by
  refine F.ok S (fun vs H Q E h => ?_) (fun cdv A outer s H vs Q E hr h => ?_)
  · obtain ⟨Z, as, Kr, X, hZ, ha, hl, _⟩ := h
    rw [ha.length, hl, hn]
  · obtain ⟨Z, as, Kr, X, hZ, ha, hl, hT, go, bad⟩ := h
    obtain ⟨t, ht, hb⟩ := body cdv A outer s H E hr
    have start := rp_start (N := N) (vs := vs) hN hZ ha hl
    rcases hb as Kr X hl hT with hb | ⟨C, s, ρ', hX, hb⟩
    · refine ⟨t, ht, hb ⟨Z, none, H, hz Z H⟩ _ _ H _ start rfl ?_⟩
      refine ⟨fun ρ' A' σ' H' hk R f => go _ _ _ hk (rp_aft R) .non, fun r ρ' v A' σ' H' hk R o => go r v H' hk (rp_aft R) ?_, fun _ _ _ _ h => h.elim, fun _ _ _ _ h => h.elim⟩
      exact rv_out (fun b o e nz _ => R.old _ _ (hz_mk nz e)) (fun b z => Or.inl z) R.inj R.off R.bor o
    · refine ⟨t, ht, hb ⟨Z, none, H, hz Z H⟩ _ _ H _ start rfl fun d v A' σ' H' R' f' e o => bad C s d v H' hX (rp_aft R') (vw_hz _ _ e) (o.mono vw_hz)⟩
end
/-! the script, where tables are hidden -/
theorem sql_mono {K : PySem.W.Frag} {H H' : Hp} {a : Addr} {xs : List V} (S : Same H H') (h : SqL K H a xs) : SqL K H' a xs := by
  rcases h with (h | ⟨ob, h⟩) | h
  · exact Or.inl (Or.inl (S _ _ h))
  · exact Or.inl (Or.inr ⟨ob, S _ _ h⟩)
  · exact Or.inr h
def scrMo (K : PySem.W.Frag) (ns : List Int) : Mo := ⟨fun u W => ∃ a, u = .ref a ∧ SqL K W a (ns.map V.int), fun S ⟨a, e, h⟩ => ⟨a, e, sql_mono S h⟩⟩
theorem sql_tabs {K : PySem.W.Frag} {H : Hp} {a : Addr} {xs : List V} (t : ∀ b, tabA b → H b = some (.tbl #[])) (h : SqL K H a xs) : SqL K (hz tabA H) a xs := by
  have no : ∀ o, H a = some o → o ≠ .tbl #[] → ¬ tabA a := fun o e n q => by
    rw [t a q] at e
    exact n (Option.some.inj e).symm
  rcases h with (h | ⟨ob, h⟩) | h
  · exact Or.inl (Or.inl (hz_mk (no _ h (by simp)) h))
  · exact Or.inl (Or.inr ⟨ob, hz_mk (no _ h (by simp)) h⟩)
  · exact Or.inr h
theorem zok_tabs {H : Hp} (t : ∀ b, tabA b → H b = some (.tbl #[])) : ZOk tabA H := ⟨fun a h => by rw [t a h]; simp, fun _ h => h, fun p hp => ⟨#[], t _ ⟨p, hp, rfl⟩, True.intro, fun pos cv h => by simp [codeAmong] at h⟩⟩
section
variable {ρ ρ' ρ1 ρ2 : List Sl} {te ta tb ti : TE} {x y : PyData} {K KF : PySem.W.Frag} {ns : List Int}
theorem fv_lenScr : FV (fun xs H Q => ∃ p ys, xs = [.ref p] ∧ (SqL K H p ys ∨ SqT K H p ys) ∧ Q (.int ys.length) H) [.p (scrMo K ns)] (.d (.int (ns.length : Int))) := by
  intro W H vs Q S o q
  cases vs with
  | nil => exact o.elim
  | cons v vs => cases vs with
    | cons w vs => exact o.2.elim
    | nil =>
      have o1 : ∃ a, v = .ref a ∧ SqL K W a (ns.map V.int) := o.1
      obtain ⟨a, rfl, h⟩ := o1
      refine ⟨a, ns.map V.int, rfl, Or.inl (sql_mono S h), ?_⟩
      rw [List.length_map]
      exact q _ _ (Same.refl _) fun _ _ _ => Dn.int _
theorem et_neD (ha : Ev ta ρ (.d x) ρ1) (hb : Ev tb ρ1 (.d x) ρ2) (sh : SeqAt.shaped x = true) : Et (tTest (tOp KA.rNeD ta tb)) ρ false ρ2 :=
  (et_test (ev_op ha hb (fv_neD sh sh))).is (by rw [SeqAt.eqv_refl _ (SeqAt.canLay_of_shaped sh)]; rfl)
end
theorem pe_ixKT {X : Cx} {K : PySem.W.Frag} (e3 : X.K = K) {a b : Expr} {ta tb : TE} {pos : Pos} (ha : PE X a ta) (hb : PE X b tb) (hs : PlainIx b) : PE X (.Subscript a b pos) (tOp (rIxT K) ta tb) := by
  subst e3
  exact pe_ix ix_tup ha hb hs
end OW
set_option Elab.async false
set_option linter.unusedVariables false
set_option linter.unusedSectionVars false
set_option maxRecDepth 100000
set_option maxHeartbeats 2000000
namespace OW
open PySem PySem.Spec PyProof.Rows L2 KA
variable [Tbs]
/-! ### tuples and lists of things that are known by more than their data -/
def tupMo (ss : List Sl) : Mo := ⟨fun u W => ∃ t us, u = .ref t ∧ W t = some (.tup us) ∧ ArAll W us ss, fun S ⟨t, us, e, h, o⟩ => ⟨t, us, e, S _ _ h, o.mono S⟩⟩
def arL (ss : List Sl) : MoL := ⟨fun vs W => ArAll W vs ss, fun S h => h.mono S⟩
def lstsMo (ss : List Sl) : Mo := ⟨fun u W => ∃ b us, u = .ref b ∧ W b = some (.lst us) ∧ ArAll W us ss, fun S ⟨b, us, e, h, o⟩ => ⟨b, us, e, S _ _ h, o.mono S⟩⟩
def Elp (te : TE) (ρ : List Sl) (ss : List Sl) (ρ' : List Sl) : Prop := ∀ (c : Fr) (A : Am) (σ : L2.St) (H : Hp) (Q : VK), Rp c A ρ σ H → A fl = none →
  (∀ a vs A' H', Rp c A' ρ' σ H' → A' fl = some a → Same (vw c.Z A H) (vw c.Z A' H') → H' a = some (.lst vs) → ArAll (vw c.Z A' H') vs ss → Q (.ref a) H') → te σ H Q
/-! a thing in a slot: data whose value is told, or a list at a known address -/
inductive TK where
  | dat (v : V) (x : PyData)
  | lst (a : Addr) (xs : List PyData)
def TK.sl : TK → Sl | .dat v x => .p (exactMo v x) | .lst a xs => .la a xs
def TK.v : TK → V | .dat v _ => v | .lst a _ => .ref a
def TK.x : TK → PyData | .dat _ x => x | .lst _ xs => .list xs
def TK.isL : TK → Bool | .dat _ _ => false | .lst _ _ => true
section
variable {c : Fr} {A : Am} {ρ ρ' ρ1 ρ2 : List Sl} {σ : L2.St} {H H' : Hp} {te ta tb ti : TE} {s s' : Sl} {x y : PyData} {i j k m : Nat} {tr : TA} {xs ys : List PyData} {ss rs : List Sl} {K : KK} {a : Addr} {KF : PySem.W.Frag} {g : TG} {gs : TGs} {t : TS}
theorem ev_tupP (h : Es tr ρ ss ρ') (len : ss.length ≤ sizeLine := by simp [sizeLine_eq]) : Ev (tTup tr) ρ (.p (tupMo ss)) ρ' := fun c A σ H Q R f q =>
  h c A σ H _ R f fun vs A1 H1 R1 f1 S1 o1 => ⟨by rw [o1.length]; exact len, fun a ha =>
    q _ A1 _ (R1.up (Same.new ha)) f1 (S1.trans (vw_up (Same.new ha))) ⟨a, vs, rfl, new_view R1 ha upd_same, o1.mono (vw_up (Same.new ha))⟩⟩
theorem elp_lst (h : Es tr ρ ss ρ') (len : ss.length ≤ sizeLine := by simp [sizeLine_eq]) : Elp (tLst tr) ρ ss ρ' := fun c A σ H Q R f q =>
  h c A σ H _ R f fun vs A1 H1 R1 f1 S1 o1 => ⟨by rw [o1.length]; exact len, fun a ha =>
    q a vs _ _ (R1.fly ha) aset_at (S1.trans (vw_fly ha)) upd_same (o1.mono (vw_fly ha))⟩
theorem elp_cat (h0 : ρ[i]? = some (.lm (arL rs))) (h : Elp te ρ ss ρ) (len : rs.length + ss.length ≤ sizeLine) : Elp (tOp rCat (tVar i) te) ρ (rs ++ ss) ρ := fun c A σ H Q R f q => by
  obtain ⟨b, us, e, e1, e2, o⟩ := R.sl i _ h0
  refine ⟨_, e1, h c A σ H _ R f fun a vs A1 H1 R1 f1 S1 ea o1 => ?_⟩
  obtain ⟨b', us', g, g1, g2, o'⟩ := R1.sl i _ h0
  rw [e1] at g1
  cases g1
  have o' : ArAll (vw c.Z A1 H1) us' rs := o'
  refine ⟨b, a, us', vs, rfl, rfl, g2, ea, by rw [o'.length, o1.length]; exact len, fun p hp => ?_⟩
  have R2 := R1.land.fly (o := .lst (us' ++ vs)) hp
  have S2 : Same (vw c.Z A1 H1) (vw c.Z (aset (aset A1 fl none) fl (some p)) (upd H1 p (.lst (us' ++ vs)))) := vw_land.trans (vw_fly hp)
  exact q p _ _ _ R2 aset_at (S1.trans S2) upd_same ((o'.mono S2).append (o1.mono S2))
theorem sm_setLM (h : Elp te ρ ss ρ1) (k : K.nx (ρ1.set i (.lm (arL ss)))) (i0 : i ≠ 0 := by decide) (hi : i < ρ1.length := by simp [uns]) : Sm (tAsg te (gName i)) ρ K := fun c A σ H D R f dk =>
  h c A σ H _ R f fun a vs A1 H1 R1 f1 S1 e o => dk.nx _ _ _ _ k (R1.setO (s := .lm (arL ss)) i0 hi f1 fun W S => ⟨a, vs, rfl, rfl, e, o.mono S⟩) aset_at
theorem sm_appM (h0 : ρ[k]? = some (.lm (arL ss))) (h : Ev te ρ s ρ) (len : ss.length < sizeLine) (q : K.nx (ρ.set k (.lm (arL (ss ++ [s]))))) : Sm (tDrop (tBM KF "list" rAppend (tVar k) (tCons te tNil))) ρ K := fun c A σ H D R f dk => by
  obtain ⟨b, us, e, e1, e2, o⟩ := R.sl k _ h0
  refine ⟨_, e1, Or.inl ⟨rfl, us, SqL.of e2⟩, h c A σ H _ R f fun v A1 H1 R1 f1 S1 o1 => ?_⟩
  obtain ⟨b', us', g, g1, g2, o'⟩ := R1.sl k _ h0
  rw [e1] at g1
  cases g1
  have o' : ArAll (vw c.Z A1 H1) us' ss := o'
  exact ⟨b, us', v, rfl, rfl, g2, by rw [o'.length]; exact len, dk.nx _ _ _ _ q (R1.mutO (s := .lm (arL (ss ++ [s]))) (List.getElem?_eq_some_iff.mp h0).1 g fun H' h' => ⟨b, us' ++ [v], rfl, e1, h', o'.append ⟨o1, trivial⟩⟩) f1⟩
/-- what a slot has goes to no slot -/
theorem Rp.toFlG (R : Rp c A ρ σ H) (i0 : i ≠ 0) (h : ρ[i]? = some s) (e : A i = some a) : Rp c (aset (aset A i none) fl (some a)) (ρ.set i .any) σ H := by
  have ni : i ≠ fl := idx_small R.sz h
  have back : ∀ j b, aset (aset A i none) fl (some a) j = some b → (j = fl ∧ b = a) ∨ (j ≠ i ∧ j ≠ fl ∧ A j = some b) := fun j b z => by
    by_cases q : j = fl
    · rw [q, aset_at] at z
      exact Or.inl ⟨q, (Option.some.inj z).symm⟩
    · rw [aset_ne q] at z
      by_cases q' : j = i
      · rw [q', aset_at] at z
        cases z
      · rw [aset_ne q'] at z
        exact Or.inr ⟨q', q, z⟩
  refine ⟨by rw [List.length_set, R.len], by rw [List.length_set]; exact R.sz, ?_, ?_, ?_, R.keep, R.old.trans (vw_toFl e), ?_, ?_, R.tz, R.tb.mono (vw_toFl e) fun _ _ => rfl⟩
  · intro k j b z z'
    rcases back k b z with ⟨q1, q2⟩ | ⟨n1, n2, y⟩
    · rcases back j b z' with ⟨q3, _⟩ | ⟨n3, n4, y'⟩
      · rw [q1, q3]
      · exact absurd (R.inj _ _ _ (q2 ▸ y') e) n3
    · rcases back j b z' with ⟨q3, q4⟩ | ⟨n3, n4, y'⟩
      · exact absurd (R.inj _ _ _ (q4 ▸ y) e) n1
      · exact R.inj _ _ _ y y'
  · intro j b z
    rcases back j b z with ⟨_, q⟩ | ⟨_, _, y⟩
    · rw [q]
      exact R.off _ _ e
    · exact R.off _ _ y
  · intro j b z
    rcases back j b z with ⟨_, q⟩ | ⟨_, _, y⟩
    · rw [q]
      exact R.live _ _ e
    · exact R.live _ _ y
  · intro p z
    rw [aset_ne (by decide), aset_ne i0.symm]
    exact R.bor p z
  · intro j t z
    by_cases q : j = i
    · subst q
      have lt := (List.getElem?_eq_some_iff.mp h).1
      rw [List.getElem?_set_self lt] at z
      cases z
      show aset (aset A j none) fl (some a) j = none
      rw [aset_ne ni, aset_at]
    · rw [List.getElem?_set_ne (Ne.symm q)] at z
      rw [aset_ne (idx_small R.sz z), aset_ne q]
      exact (R.sl j t z).mono (vw_toFl e) fun _ _ _ h => h
/-- such a list is seen from then on -/
theorem ev_lmF (h : ρ[i]? = some (.lm (arL ss))) (i0 : i ≠ 0 := by decide) : Ev (tVar i) ρ (.p (lstsMo ss)) (ρ.set i .any) := fun c A σ H Q R f q => by
  obtain ⟨b, us, e, e1, e2, o⟩ := R.sl i _ h
  have R1 := R.toFlG i0 h e
  have R2 := R1.land
  have S : Same (vw c.Z A H) (vw c.Z (aset (aset (aset A i none) fl (some b)) fl none) H) := (vw_toFl e).trans vw_land
  have nb : vw c.Z (aset (aset (aset A i none) fl (some b)) fl none) H b = some (.lst us) := vw_mk (R1.off _ _ aset_at) (fun k z => by
    by_cases q : k = fl
    · rw [q, aset_at] at z
      cases z
    · rw [aset_ne q] at z
      exact q (R1.inj _ _ _ z aset_at)) e2
  exact ⟨_, e1, q _ _ H R2 aset_at S ⟨b, us, rfl, nb, ArAll.mono S o⟩⟩
theorem sm_forP (h : Ev te ρ (.p (lstsMo ss)) ρ1) (R : Nat → List Sl → Prop) (h0 : R 0 ρ1) (hs : ∀ (j : Nat) s ρ', ss[j]? = some s → R j ρ' → Turn g t s ρ' (R (j + 1)) K) (hd : ∀ ρ', R ss.length ρ' → K.nx ρ') : Sm (tFor (iList KF te) g t) ρ K := fun c A σ H D R0 f dk =>
  h c A σ H _ R0 f fun v A1 H1 R1 f1 S1 o1 => by
    obtain ⟨a, vs, rfl, e, dx⟩ := o1
    refine ⟨a, rfl, ⟨_, SqL.of (vw_sub _ _ e)⟩, for_list (xs := vs) (fun j σ' H' => Stp (c.to (vw c.Z A1 H1)) (R j) σ' H') ⟨ρ1, A1, h0, R1.refr, f1⟩ ?_ ?_ ?_⟩
    · rintro j σ' H' _ ⟨ρ', A', r, R', f'⟩
      exact SqL.of (vw_sub _ _ (R'.old _ _ e))
    · rintro j w σ' H' hj ⟨ρ', A', r, R', f'⟩
      have lt : j < ss.length := by rw [← dx.length]; exact (List.getElem?_eq_some_iff.mp hj).1
      have hs' := List.getElem?_eq_getElem lt
      obtain ⟨w', hw, o⟩ := arAll_at dx hs'
      rw [hj] at hw
      cases hw
      exact (hs j _ ρ' hs' r).run R' f' (o.mono R'.old) R1.old dk
    · rintro σ' H' ⟨ρ', A', r, R', f'⟩
      rw [dx.length] at r
      exact dk.nx _ _ _ _ (hd _ r) (R'.unfr R1.old) f'
theorem tg_tupP {n : Nat} (h : Tgs gs ss ρ ρ1) (len : ss.length = n := by rfl) : Tg (gTup KF n gs) (.p (tupMo ss)) ρ ρ1 := fun c A σ H v Q R f o q => by
  obtain ⟨a, vs, rfl, e, dx⟩ := o
  exact ⟨a, vs, rfl, SqT.of (vw_sub _ _ e), dx.length.trans len, h c A σ H vs _ R f dx q⟩
theorem Ev.w {P P' : Mo} (h : Ev te ρ (.p P) ρ') (hw : ∀ v W, P.P v W → P'.P v W) : Ev te ρ (.p P') ρ' := fun c A σ H Q R f q => h c A σ H Q R f fun v A1 H1 R1 f1 S1 o1 => q v A1 H1 R1 f1 S1 (hw _ _ o1)
theorem ev_tk {q : TK} (h : ρ[i]? = some q.sl) : Ev (tVar i) ρ (.p (isV q.v)) ρ := by
  cases q with
  | dat v x => exact (ev_varp h).w fun u W z => z.1
  | lst a xs =>
    intro c A σ H Q R f q
    obtain ⟨vs, e, e1, e2, dx⟩ := R.sl i _ h
    exact ⟨_, e1, q _ A H R f (Same.refl _) rfl⟩
/-- in the whole heap it is its data -/
theorem Rp.tk (R : Rp c A ρ σ H) {q : TK} (h : ρ[i]? = some q.sl) : σ[i]? = some (some q.v) ∧ Dn H q.v q.x := by
  cases q with
  | dat v x =>
    obtain ⟨_, u, e, rfl, d⟩ := R.sl i _ h
    exact ⟨e, Dn.mono vw_sub d⟩
  | lst a xs =>
    obtain ⟨vs, e, e1, e2, dx⟩ := R.sl i _ h
    exact ⟨e1, .lst e2 (DnAll.mono vw_sub dx)⟩
/-- what is lent to a call: the lists of some slots -/
def lentZ (c : Fr) (A : Am) (L : List Nat) : Addr → Prop := fun b => c.Z b ∨ ∃ i, i ∉ L ∧ A i = some b
theorem lent_same {L : List Nat} : Same (vw c.Z A H) (hz (lentZ c A L) H) := fun b o e => by
  obtain ⟨h1, h2, h3⟩ := vw_some e
  refine hz_mk ?_ h3
  rintro (z | ⟨i, _, z⟩)
  · exact h1 z
  · exact h2 i z
theorem Rp.lentOk (R : Rp c A ρ σ H) (L : List Nat) : ZOk (lentZ c A L) H where
  there b z := by
    rcases z with z | ⟨i, _, z⟩
    · exact R.there z
    · exact R.live _ _ z
  tz b t := Or.inl (R.tz b t)
  tb := R.tb.mono lent_same fun _ _ => rfl
theorem Rp.lentDn (R : Rp c A ρ σ H) {L : List Nat} {q : TK} (h : ρ[i]? = some q.sl) (hi : i ∈ L) : Dn (hz (lentZ c A L) H) q.v q.x := by
  cases q with
  | dat v x =>
    obtain ⟨_, u, e, rfl, d⟩ := R.sl i _ h
    exact Dn.mono lent_same d
  | lst a xs =>
    obtain ⟨vs, e, e1, e2, dx⟩ := R.sl i _ h
    refine .lst (hz_mk ?_ e2) (DnAll.mono lent_same dx)
    rintro (z | ⟨j, hj, z⟩)
    · exact R.off _ _ e z
    · rw [R.inj _ _ _ z e] at hj
      exact hj hi
/-- what is seen where lists are lent is seen else, but for these lists -/
theorem Rp.lentBack (R : Rp c A ρ σ H) {L : List Nat} (SS : Aft (lentZ c A L) H H') {b : Addr} {o : HO} (nl : ∀ vs, o ≠ .lst vs) (hL : ∀ i ∈ L, ∃ q : TK, ρ[i]? = some q.sl) (e : hz (lentZ c A L) H' b = some o) : vw c.Z A H' b = some o := by
  obtain ⟨h1, h2⟩ := hz_some e
  refine vw_mk (fun z => h1 (Or.inl z)) (fun i z => ?_) h2
  by_cases hi : i ∈ L
  · obtain ⟨q, hq⟩ := hL i hi
    cases q with
    | dat v x =>
      obtain ⟨e0, _⟩ := R.sl i _ hq
      rw [e0] at z
      cases z
    | lst a xs =>
      obtain ⟨vs, g, g1, g2, _⟩ := R.sl i _ hq
      rw [g] at z
      cases z
      rw [SS.same _ _ g2 (R.nt g)] at h2
      exact nl _ (Option.some.inj h2).symm
  · exact h1 (Or.inr ⟨i, hi, z⟩)
theorem Rp.upLentG (R : Rp c A ρ σ H) {L : List Nat} (SS : Aft (lentZ c A L) H H') (hL : ∀ i ∈ L, ∃ q : TK, ρ[i]? = some q.sl) : Rp c A ρ σ H' := by
  refine R.upA ⟨SS.same, ?_⟩
  rw [hz_eq]
  intro p hp
  obtain ⟨ps, g1, g2, g3⟩ := SS.tb p hp
  refine ⟨ps, g1, g2, fun pos cv h => ?_⟩
  obtain ⟨cc, k1, k2⟩ := g3 pos cv h
  refine ⟨cc, k1, R.lentBack SS (fun vs z => ?_) hL k2⟩
  unfold LamX.CodeO at z
  cases z
/-- a call of variables, lists lent: a pair of a word and the very thing comes of it -/
theorem evp_lendG {n : Nat} {T : List Sl → (Rv → Prop) → Prop} {E : XK} {P S : Mo} (L : List Nat) (hL : ∀ i ∈ L, ∃ q : TK, ρ[i]? = some q.sl)
    (args : ∀ (c : Fr) (A : Am) (σ : L2.St) (H : Hp), Rp c A ρ σ H → ∃ vs : List V, (∀ Q : List V → Hp → Prop, Q vs H → tr σ H Q) ∧ ArAll (hz (lentZ c A L) H) vs ss) (hn : ss.length = n) (g : T ss fun r => r = .p S)
    (conv : ∀ u (W1 W : Hp), (∀ b o, (∀ vs, o ≠ .lst vs) → W1 b = some o → W b = some o) → S.P u W1 → P.P u W) : Ev (tCall (spD n T) [] E tr) ρ (.p P) ρ := fun c A σ H Q R f q => by
  obtain ⟨vs, hv, ha⟩ := args c A σ H R
  refine hv _ ⟨lentZ c A L, ss, _, R.lentOk L, by rw [List.append_nil]; exact ha, hn, g, fun r v H' hr SS o => ?_⟩
  subst hr
  have up : Same (vw c.Z A H) (vw c.Z A H') := R.vwLent SS
  exact q v A H' (R.upLentG SS hL) f up (conv v _ _ (fun b o nl e => R.lentBack SS nl hL e) o)
/-- such a list changes, by another name of it -/
theorem sm_appV {n : Int} (hk : ρ[k]? = some (.p (isV (.ref a)))) (h0 : ρ[i]? = some (.la a xs)) (len : xs.length < sizeLine) (q : K.nx (ρ.set i (.la a (xs ++ [.int n])))) : Sm (tDrop (tBM KF "list" rAppend (tVar k) (tCons (tC (.int n)) tNil))) ρ K := fun c A σ H D R f dk => by
  obtain ⟨vs, e, e1, e2, dx⟩ := R.sl i _ h0
  obtain ⟨_, u, eu, hu⟩ := R.sl k _ hk
  obtain rfl : u = .ref a := hu
  exact ⟨_, eu, Or.inl ⟨rfl, vs, SqL.of e2⟩, a, vs, .int n, rfl, rfl, e2, by rw [dx.length]; exact len, dk.nx _ _ _ _ q (R.mutA h0 (dx.snoc (.int n))) f⟩
theorem sm_pickB {z : Int} (h5 : ρ[j]? = some (.p (lstMo m k a))) (he : El te ρ ys ρ) (hi : Ev ti ρ (.d (.int z)) ρ1) (h6 : ρ1[i]? = some (.wa a xs)) (ez : z = (k : Int)) (len : m + ys.length ≤ sizeLine) (q : K.nx ((ρ1.set i .any).set j (.la a xs))) (i0 : i ≠ 0 := by decide) (j0 : j ≠ 0 := by decide) (hj : j < (ρ1.set i .any).length := by simp [uns]) :
    Sm (tAsg (tOp (rIxL KF) (tOp rCat (tVar j) te) ti) (gName j)) ρ K := fun c A σ H D R f dk => by
  obtain ⟨_, u, e, b, vs, eu, eb, l, ek⟩ := R.sl j _ h5
  subst eu
  refine ⟨_, e, he c A σ H _ R f fun b2 us A1 H1 R1 f1 S1 e1 du => ?_⟩
  refine ⟨b, b2, vs, us, rfl, rfl, vw_sub _ _ (S1 _ _ eb), e1, by rw [l, du.length]; exact len, fun p hp => ?_⟩
  have R2 := R1.land.up (Same.new (o := .lst (vs ++ us)) hp)
  refine hi c _ σ _ _ R2 aset_at fun w A3 H3 R3 f3 S3 o3 => ?_
  obtain rfl := int_v o3
  have ep : H3 p = some (.lst (vs ++ us)) := vw_sub _ _ (S3 _ _ (new_view R1.land hp upd_same))
  have lt : k < vs.length := (List.getElem?_eq_some_iff.mp ek).1
  have at' : (vs ++ us)[k]? = some (.ref a) := by rw [List.getElem?_append_left lt]; exact ek
  obtain ⟨ws, e4, e5, dx⟩ := R3.sl i _ h6
  have R4 := R3.toFlG i0 h6 e4
  refine ⟨p, _, z, .ref a, rfl, rfl, SqL.of ep, ?_, dk.nx _ _ _ _ q (R4.setO (s := .la a xs) j0 hj aset_at fun W S => ⟨ws, rfl, rfl, e5, DnAll.mono ((vw_toFl e4).trans S) dx⟩) aset_at⟩
  subst ez
  exact at_of rfl at'
theorem sm_pick1 {z : Int} (h : Ew tr ρ i k m xs) (len : m ≤ sizeLine) (ρq : Addr → List Sl) (hi : ∀ a, Ev ti (ρ.set i (.wa a xs)) (.d (.int z)) (ρq a)) (h6 : ∀ a, (ρq a)[i]? = some (.wa a xs)) (ez : z = (k : Int)) (q : ∀ a, K.nx ((ρq a).set i (.la a xs))) :
    Sm (tAsg (tOp (rIxL KF) (tLst tr) ti) (gName i)) ρ K := fun c A σ H D R f dk =>
  h c A σ H _ R f fun a vs A1 H1 R1 f1 l e => ⟨by rw [l]; exact len, fun p hp => by
    have R2 := R1.up (Same.new (o := .lst vs) hp)
    refine hi a c _ σ _ _ R2 f1 fun w A3 H3 R3 f3 S3 o3 => ?_
    obtain rfl := int_v o3
    have ep : H3 p = some (.lst vs) := vw_sub _ _ (S3 _ _ (new_view R1 hp upd_same))
    refine ⟨p, vs, z, .ref a, rfl, rfl, SqL.of ep, ?_, dk.nx _ _ _ _ (q a) (R3.fillA (h6 a)) f3⟩
    subst ez
    exact at_of rfl e⟩
end
end OW
set_option Elab.async false
set_option linter.unusedVariables false
set_option linter.unusedSectionVars false
set_option maxRecDepth 100000
set_option maxHeartbeats 1000000
namespace OW
open PySem PySem.Spec PyProof.Rows L2 KA
variable [Tbs]
/-! ### a walk over a list or a tuple; isinstance of these two; a whole number in a list -/
theorem call_isSeq {X : Cx} : CallR X (.builtin "isinstance") (fun xs H Q => ∃ x tp d, xs = [x, .ref tp] ∧ H tp = some (.tup [.ty "list", .ty "tuple"]) ∧ Dn H x d ∧ Q (.bl (isLstD d || isTupD d)) H) := by
  intro pins s σ H xs us Q I r h
  obtain ⟨x, tp, d, rfl, ht, hd, q⟩ := h
  refine call_isiT pins s σ H _ us Q I r ⟨x, tp, _, _, [.type "list", .type "tuple"], _, rfl, ht, .cons (.ty _) (.cons (.ty _) .nil), hd.ty, ?_, q⟩
  have h1 := kit_ty (K := X.K) (KA.is_lst d)
  have h2 := kit_ty (K := X.K) (KA.is_tup d)
  unfold PySem.W.kitAny
  rw [h1]
  cases isLstD d with
  | true => rfl
  | false =>
    simp only [PySem.W.kitAny, h2]
    cases isTupD d <;> rfl
section
variable {X : Cx} {tg : Expr}
def iSeq (K : PySem.W.Frag) (tl : TE) : TI := fun σ H R => iList K tl σ H R ∨ iTup K tl σ H R
theorem pi_seq {l : Expr} {tl : TE} (hl : PE X l tl) : PI X tg l (iSeq X.K tl) :=
  ⟨fun pins s σ H R I h => h.elim (fun h => (pi_list hl).run pins s σ H R I h) fun h => (pi_tup hl).run pins s σ H R I h⟩
end
section
variable {ρ ρ1 ρ' : List Sl} {te : TE} {x : PyData} {xs : List PyData} {KF : PySem.W.Frag}
theorem fi_seqL (h : Ev te ρ (.d (.list xs)) ρ1) : Fi (iSeq KF te) ρ xs ρ1 := fun c A σ H R R0 f k => Or.inl (fi_list h c A σ H R R0 f k)
theorem fi_seqT (h : Ev te ρ (.d (.tuple xs)) ρ1) : Fi (iSeq KF te) ρ xs ρ1 := fun c A σ H R R0 f k => Or.inr (fi_tup h c A σ H R R0 f k)
theorem fv_isSeq : FV (fun xs H Q => ∃ x tp d, xs = [x, .ref tp] ∧ H tp = some (.tup [.ty "list", .ty "tuple"]) ∧ Dn H x d ∧ Q (.bl (isLstD d || isTupD d)) H) [.d x, .p (tupMo [.p (isV (.ty "list")), .p (isV (.ty "tuple"))])] (.d (.bool (isLstD x || isTupD x))) := fv_s (dB (isLstD x || isTupD x)) fun W H vs Q S o q => by
  cases vs with
  | nil => exact o.elim
  | cons v vs => cases vs with
    | nil => exact o.2.elim
    | cons u vs => cases vs with
      | cons _ _ => exact o.2.2.elim
      | nil =>
        have o2 : ∃ t us, u = .ref t ∧ W t = some (.tup us) ∧ ArAll W us [.p (isV (.ty "list")), .p (isV (.ty "tuple"))] := o.2.1
        obtain ⟨t, us, rfl, e, ar⟩ := o2
        cases us with
        | nil => exact ar.elim
        | cons a us => cases us with
          | nil => exact ar.2.elim
          | cons b us => cases us with
            | cons _ _ => exact ar.2.2.elim
            | nil =>
              obtain rfl := isv_v ar.1
              obtain rfl := isv_v ar.2.1
              exact ⟨v, t, x, rfl, S _ _ e, Dn.mono S o.1, q⟩
theorem inV_int {W : Hp} (a : Int) : ∀ {vs : List V} {bs : List Int}, DnAll W vs (bs.map .int) → vs.all flatV = true ∧ inV (.int a) vs = bs.any fun b => b == a
  | [], [], _ => ⟨rfl, rfl⟩
  | v :: vs, b :: bs, h => by
    cases h with
    | cons h t =>
      cases h
      obtain ⟨p, q⟩ := inV_int a t
      refine ⟨by rw [List.all_cons, p]; rfl, ?_⟩
      unfold inV at q ⊢
      rw [List.any_cons, List.any_cons, q]
      rfl
theorem fv_inI {a : Int} {bs : List Int} : FV2 (rIn KF false) (.d (.int a)) (.d (.list (bs.map .int))) (.d (.bool (bs.any fun b => b == a))) := fv2_s (dB (bs.any fun b => b == a)) fun W H v w Q S o o' q => by
  obtain rfl := int_v o
  obtain ⟨p, vs, rfl, e, dx⟩ := lst_v o'
  obtain ⟨h1, h2⟩ := inV_int a dx
  exact ⟨p, vs, rfl, Or.inl (SqL.of (S _ _ e)), rfl, h1, by rw [h2]; exact q⟩
end
end OW
set_option Elab.async false
set_option linter.unusedVariables false
set_option linter.unusedSectionVars false
set_option maxRecDepth 100000
set_option maxHeartbeats 2000000
namespace KP
open PySem PySem.Spec PyProof.Rows L2 KA OW
/-! ### free places -/
abbrev sFreePlaces : Stmt := top 13
abbrev nFreePlaces : List Str := ["term", "found", "part", "above"]
theorem scFreePlaces : FnScope nFreePlaces ["term"] (defScope sFreePlaces) := ⟨rfl, rfl, rfl, by decide +kernel, rfl, by decide +kernel, by decide +kernel⟩
abbrev sFree : Stmt := top 40
abbrev nFree : List Str := ["term"]
theorem scFree : FnScope nFree ["term"] (defScope sFree) := ⟨rfl, rfl, rfl, by decide +kernel, rfl, by decide +kernel, by decide +kernel⟩
abbrev sLoweredOnce : Stmt := top 18
abbrev nLoweredOnce : List Str := ["term"]
theorem scLoweredOnce : FnScope nLoweredOnce ["term"] (defScope sLoweredOnce) := ⟨rfl, rfl, rfl, by decide +kernel, rfl, by decide +kernel, by decide +kernel⟩
abbrev sLowered : Stmt := top 43
abbrev nLowered : List Str := ["term"]
theorem scLowered : FnScope nLowered ["term"] (defScope sLowered) := ⟨rfl, rfl, rfl, by decide +kernel, rfl, by decide +kernel, by decide +kernel⟩
mutual
theorem wk_tm : ∀ (d : PyData) (p : List Nat) (u : Int), tm d = true → ∀ r ∈ wk d p u, tm r.2.1 = true
  | .tuple (x :: ds), p, u, t, r, h => by
    obtain ⟨w, ds', e⟩ := tm_shape t
    injection e with e
    injection e with e1 e2
    subst e1 e2
    have h : r ∈ (p, PyData.tuple (.str w :: ds), u) :: (if (parts w).isSome = true then wkL ds w p u 0 else []) := h
    rcases List.mem_cons.mp h with rfl | h
    · exact t
    · split at h
      · rename_i hp
        have tp := parts_tm t
        rw [show partsD (.tuple (.str w :: ds)) = ds from if_pos hp] at tp
        exact wkL_tm ds w p u 0 tp r h
      · cases h
  | .tuple [], _, _, h, _, _ | .none, _, _, h, _, _ | .bool _, _, _, h, _, _ | .int _, _, _, h, _, _ | .str _, _, _, h, _, _ | .list _, _, _, h, _, _ | .dict _, _, _, h, _, _ => by cases h
theorem wkL_tm : ∀ (ds : List PyData) (w : Str) (p : List Nat) (u : Int) (i : Nat), tmAll ds = true → ∀ r ∈ wkL ds w p u i, tm r.2.1 = true
  | [], _, _, _, _, _, r, h => by cases h
  | d :: ds, w, p, u, i, t, r, h => by
    have t : tm d = true ∧ tmAll ds = true := by simpa only [tmAll, Bool.and_eq_true] using t
    have h : r ∈ wk d (p ++ [i]) (u + passD w (i : Int)) ++ wkL ds w p u (i + 1) := h
    rcases List.mem_append.mp h with h | h
    · exact wk_tm d _ _ t.1 r h
    · exact wkL_tm ds w p u (i + 1) t.2 r h
end
mutual
theorem wk_len : ∀ (d : PyData) (p : List Nat) (u : Int), (wk d p u).length ≤ nodes d
  | .tuple (.str w :: ds), p, u => by
    have := wkL_len ds w p u 0
    show ((p, PyData.tuple (.str w :: ds), u) :: (if (parts w).isSome = true then wkL ds w p u 0 else [])).length ≤ 1 + nodesAll ds + 1
    split
    · rw [List.length_cons]
      omega
    · rw [List.length_cons]
      show 0 + 1 ≤ _
      omega
  | .tuple [], p, u | .none, p, u | .bool _, p, u | .int _, p, u | .str _, p, u | .list _, p, u | .dict _, p, u => by
    simp only [wk, nodes, nodesAll, List.length_cons, List.length_nil]
    try omega
  | .tuple (.none :: ds), p, u | .tuple (.bool _ :: ds), p, u | .tuple (.int _ :: ds), p, u | .tuple (.list _ :: ds), p, u | .tuple (.tuple _ :: ds), p, u | .tuple (.dict _ :: ds), p, u => by
    simp only [wk, nodes, nodesAll, List.length_cons, List.length_nil]
    try omega
theorem wkL_len : ∀ (ds : List PyData) (w : Str) (p : List Nat) (u : Int) (i : Nat), (wkL ds w p u i).length ≤ nodesAll ds
  | [], _, _, _, _ => Nat.le_refl _
  | d :: ds, w, p, u, i => by
    have h1 := wk_len d (p ++ [i]) (u + passD w (i : Int))
    have h2 := wkL_len ds w p u (i + 1)
    show (wk d (p ++ [i]) (u + passD w (i : Int)) ++ wkL ds w p u (i + 1)).length ≤ nodes d + nodesAll ds
    rw [List.length_append]
    omega
end
/-- the free place that a part is -/
def keyOf (r : Row3) : Option Int := match r.2.1 with
  | .tuple [.str w, .int n] => if w = "at" ∧ r.2.2 ≤ n then some (n - r.2.2) else none
  | _ => none
def putI (ks : List Int) (z : Int) : List Int := if z ∈ ks then ks else ks ++ [z]
def stepI (ks : List Int) (r : Row3) : List Int := match keyOf r with
  | some z => putI ks z
  | none => ks
def keysF (rs : List Row3) : List Int := rs.foldl stepI []
def freeD (d : PyData) : List Int := (keysF (wk d [] 0)).mergeSort fun a b => decide (a ≤ b)
theorem keysF_snoc {rs : List Row3} {r : Row3} : keysF (rs ++ [r]) = stepI (keysF rs) r := by
  unfold keysF
  rw [List.foldl_append]
  rfl
theorem putI_len {ks : List Int} {z : Int} : (putI ks z).length ≤ ks.length + 1 := by
  unfold putI
  split
  · omega
  · rw [List.length_append]
    exact Nat.le_refl _
theorem stepI_len {ks : List Int} {r : Row3} : (stepI ks r).length ≤ ks.length + 1 := by
  unfold stepI
  split
  · exact putI_len
  · omega
theorem foldI_len : ∀ (rs : List Row3) (ks : List Int), (rs.foldl stepI ks).length ≤ ks.length + rs.length
  | [], ks => Nat.le_refl _
  | r :: rs, ks => by
    have := foldI_len rs (stepI ks r)
    have h := stepI_len (ks := ks) (r := r)
    rw [List.length_cons]
    show (rs.foldl stepI (stepI ks r)).length ≤ _
    omega
theorem keysF_len (rs : List Row3) : (keysF rs).length ≤ rs.length := by
  have := foldI_len rs []
  rw [List.length_nil, Nat.zero_add] at this
  exact this
theorem put_keys {kvs : List (Key × V)} {ks : List Int} {z : Int} {v : V} (h : kvs.map (·.1) = ks.map Sum.inl) : (putK kvs (Sum.inl z) v).map (·.1) = (putI ks z).map Sum.inl := by
  have an : (kvs.any fun kv => decide (kv.1 = Sum.inl z)) = true ↔ z ∈ ks := by
    rw [List.any_eq_true]
    constructor
    · rintro ⟨kv, hm, e⟩
      have e := of_decide_eq_true e
      have m : kv.1 ∈ ks.map Sum.inl := h ▸ List.mem_map_of_mem hm
      rw [e] at m
      obtain ⟨y, hy, ey⟩ := List.mem_map.mp m
      injection ey with ey
      exact ey ▸ hy
    · intro hz
      have m : (Sum.inl z : Key) ∈ kvs.map (·.1) := by
        rw [h]
        exact List.mem_map_of_mem hz
      obtain ⟨kv, hm, e⟩ := List.mem_map.mp m
      exact ⟨kv, hm, decide_eq_true e⟩
  unfold putK putI
  by_cases c : z ∈ ks
  · rw [if_pos (an.mpr c), if_pos c, ← h, List.map_map]
    refine List.map_congr_left fun kv _ => ?_
    show (if kv.1 = Sum.inl z then (kv.1, v) else kv).1 = kv.1
    split <;> rfl
  · rw [if_neg (fun q => c (an.mp q)), if_neg c, List.map_append, List.map_append, h]
    rfl
theorem sorted_is {ks : List Int} : ∀ zs : List Int, zs.Perm ks → zs.Pairwise (· ≤ ·) → zs = ks.mergeSort fun a b => decide (a ≤ b) := fun zs p h => by
  have s := List.pairwise_mergeSort (le := fun a b : Int => decide (a ≤ b)) (fun a b c h1 h2 => by simp only [decide_eq_true_eq] at *; omega) (fun a b => by simp only [Bool.or_eq_true, decide_eq_true_eq]; omega) ks
  have s' : (ks.mergeSort fun a b => decide (a ≤ b)).Pairwise (· ≤ ·) := s.imp fun h => of_decide_eq_true h
  exact List.Perm.eq_of_pairwise (le := (· ≤ ·)) (fun a b _ _ h1 h2 => Int.le_antisymm h1 h2) h s' (p.trans (List.mergeSort_perm ks _).symm)
def tFreePlaces : List Sl → (Rv → Prop) → Prop := fun as Kr => ∃ d, as = [.d d] ∧ tm d = true ∧ nodes d ≤ 900000 ∧ (keysF (wk d [] 0)).length < 64 ∧ Kr (.l ((freeD d).map .int))
def tFreeY : List Sl → (Rv → Prop) → Prop := fun as Kr => ∃ d, as = [.d d] ∧ tm d = true ∧ fine d = true ∧ nodes d ≤ 900000 ∧ (keysF (wk d [] 0)).length < 64 ∧ Kr (.l ((freeD d).map .int))
def lowD (d : PyData) : PyData := if (freeD d).any (fun b => b == 0) = true then .none else raiseD (-1) 0 d
def tLowOnce : List Sl → (Rv → Prop) → Prop := fun as Kr => ∃ d, as = [.d d] ∧ tm d = true ∧ nodes d ≤ 900000 ∧ (keysF (wk d [] 0)).length < 64 ∧ Kr (.d (lowD d))
def tLowY : List Sl → (Rv → Prop) → Prop := fun as Kr => ∃ d, as = [.d d] ∧ tm d = true ∧ fine d = true ∧ nodes d ≤ 900000 ∧ (keysF (wk d [] 0)).length < 64 ∧ Kr (.d (lowD d))
theorem ok_of9 {d : PyData} (f : fine d = true) (n : nodes d ≤ 900000) : okT d := ⟨f, by omega⟩
section
variable {P : Program} {w : World} {K : PySem.W.Frag} {mg : Str → Option Value} {base : Heap}
theorem ok_freeplaces {f : Addr} {fd : FuncData} (F : Fun K "free_places" "free_places" sFreePlaces f fd) (Tsorted : mg "sorted" = none) (C_inner_terms : C8.Cal P w K mg base 2 "inner_terms" (spD 1 tInner) []) : FnOk P w K mg base CX0 3 f fd ["term"] (spD 1 tFreePlaces) := by
  refine fn_d F scFreePlaces (body := fun cdv A outer s H E hr => ?_)
  have hu1 : (A.deeper (envOfC "free_places" (defScope sFreePlaces) s.heap.objs.size f cdv)).units + 1 < cLine := by have := hr.un; omega
  refine ⟨_, (pss_cons (ps_set (i := 1) scFreePlaces.nd rfl (Or.inl rfl) pe_dnewK)
      (pss_cons (ps_for PassesOwn.never rfl (pi_list (C8.pe_c C_inner_terms hr (by omega) rfl (pa_cons (pv 0) pa_nil))) (pg_tup rfl (pgs_cons (pg_name (i := 2) scFreePlaces.nd rfl (Or.inl rfl)) (pgs_cons (pg_name (i := 3) scFreePlaces.nd rfl (Or.inl rfl)) pgs_nil))) (pss_one (ps_if (PW.pt (pw_and (pt_cmpR op_eq (pe_ix ix_tup (pv 2) pe_int (fun _ _ => rfl)) pe_str (nomark _)) (pw_and1 (pt_cmpR op_ge (pe_ix ix_tup (pv 2) pe_int (fun _ _ => rfl)) (pv 3) (nomark _))))) (pss_one (ps_asg pe_bl (pg_sub (pv 1) (pe_op op_sub (pe_ix ix_tup (pv 2) pe_int (fun _ _ => rfl)) (pv 3)) (set_dict hu1)))) pss_nil)))
      (pss_one (ps_ret (pe_callB (call_sortedDI (by rfl)) (by rfl) Tsorted (by decide +kernel) (pa_cons (pv 1) pa_nil)))))), ?_⟩
  rintro as Kr _ ⟨d, rfl, td, nd, k64, k⟩
  have wl := wk_len d [] 0
  refine (sm_seq (sm_dk0 (i := 1) (sm_seq (sm_for (fi_list (Ev.of_el (el_call (xs := (wk d [] 0).map rowI) (es_cons (ev_var rfl) es_nil) ar_nil rfl ⟨_, rfl, td, by omega, rfl⟩))) (fun j ρ => ∃ kvs s2 s3, ρ = [.d d, .dk kvs, s2, s3] ∧ kvs.map (·.1) = (keysF ((wk d [] 0).take j)).map Sum.inl) ⟨_, _, _, rfl, rfl⟩ (fun j x ρ e r => ?_) (fun ρ r => ?_)))))
  · obtain ⟨kvs, s2, s3, rfl, hk⟩ := r
    rw [List.getElem?_map] at e
    cases er : (wk d [] 0)[j]? with
    | none => rw [er] at e; cases e
    | some r =>
    rw [er] at e
    obtain rfl := Option.some.inj e
    have rm := List.mem_of_getElem? er
    have tr := wk_tm d [] 0 td r rm
    have hj := (List.getElem?_eq_some_iff.mp er).1
    obtain ⟨p, g, u⟩ := r
    have tr : tm g = true := tr
    obtain ⟨wd, ds, rfl⟩ := tm_shape tr
    have hlen : kvs.length < sizeLine := by
      have e1 : kvs.length = (keysF ((wk d [] 0).take j)).length := by
        have := congrArg List.length hk
        rw [List.length_map, List.length_map] at this
        exact this
      have e2 := keysF_len ((wk d [] 0).take j)
      rw [List.length_take] at e2
      rw [sizeLine_eq]
      omega
    refine ⟨_, (tg_tup (xs := [.tuple (.str wd :: ds), .int u]) (tgs_cons tg_name (tgs_cons tg_name tgs_nil))), ?_⟩
    by_cases hw : wd = "at"
    · subst hw
      obtain ⟨n, rfl, n0⟩ := at_shape tr
      refine (sm_if (et_and (a := true) ((et_test (ev_op (ev_op (ev_var rfl) ev_int (fv_ixT at0)) ev_str fv_eqS)).is (by simp)) fun _ => (et_test (ev_op (ev_op (ev_var rfl) ev_int (fv_ixT at1)) (ev_var rfl) fv_cmpI))) (fun h => (sm_dkSet (i := 1) (z := n - u) rfl ev_cv (ev_op (ev_op (ev_var rfl) ev_int (fv_ixT at1)) (ev_var rfl) fv_int) hlen ?_)) (fun h => (sm_next ?_)))
      · refine ⟨_, _, _, rfl, ?_⟩
        have hn : u ≤ n := by simpa using h
        rw [put_keys hk, take_snoc er, keysF_snoc]
        have : keyOf (p, PyData.tuple [.str "at", .int n], u) = some (n - u) := if_pos ⟨rfl, hn⟩
        unfold stepI
        rw [this]
      · refine ⟨_, _, _, rfl, ?_⟩
        have hn : ¬ u ≤ n := by simpa using h
        rw [hk, take_snoc er, keysF_snoc]
        have : keyOf (p, PyData.tuple [.str "at", .int n], u) = none := if_neg fun z => hn z.2
        unfold stepI
        rw [this]
    · refine (sm_if (et_and (a := false) (b := true) (ρ2 := _) ((et_test (ev_op (ev_op (ev_var rfl) ev_int (fv_ixT at0)) ev_str fv_eqS)).is (by simp [hw])) (fun h => by cases h)) (fun h => by cases h) (fun h => (sm_next ?_)))
      refine ⟨_, _, _, rfl, ?_⟩
      rw [hk, take_snoc er, keysF_snoc]
      have : keyOf (p, PyData.tuple (.str wd :: ds), u) = none := by
        unfold keyOf
        split
        · rename_i e
          injection e with e
          injection e with e1 e2
          injection e1 with e1
          subst e1
          exact if_neg fun z => hw z.1
        · rfl
      unfold stepI
      rw [this]
  · obtain ⟨kvs, s2, s3, rfl, hk⟩ := r
    rw [List.length_map, List.take_length] at hk
    exact sm_retL (el_sortedDk (i := 1) rfl hk k64 sorted_is) k
theorem ok_freeY {f : Addr} {fd : FuncData} (F : Fun K "free" "free" sFree f fd) (C_want_term : C8.Cal P w K mg base 5 "want_term" (spD 1 tWantY) []) (C_free_places : C8.Cal P w K mg base 3 "free_places" (spD 1 tFreePlaces) []) : FnOk P w K mg base CX0 6 f fd ["term"] (spD 1 tFreeY) := by
  refine fn_d F scFree (body := fun cdv A outer s H E hr => ⟨_, (pss_cons (ps_expr (C8.pe_c C_want_term hr (by omega) rfl (pa_cons (pv 0) pa_nil)))
      (pss_one (ps_ret (C8.pe_c C_free_places hr (by omega) rfl (pa_cons (pv 0) pa_nil))))), ?_⟩)
  rintro as Kr _ ⟨d, rfl, td, fd, nd, k64, k⟩
  exact (sm_seq (sm_drop (ev_call (x := .none) (es_cons (ev_var rfl) es_nil) ar_nil rfl ⟨_, rfl, td, ok_of9 fd nd, rfl⟩) (sm_retL (el_call (es_cons (ev_var rfl) es_nil) ar_nil rfl ⟨_, rfl, td, nd, k64, rfl⟩) k)))
theorem ok_lowonce {f : Addr} {fd : FuncData} (F : Fun K "lowered_once" "lowered_once" sLoweredOnce f fd) (C_free_places : C8.Cal P w K mg base 3 "free_places" (spD 1 tFreePlaces) []) (C_raised_by : C8.Cal P w K mg base 4 "raised_by" (spD 3 tRaised) []) : FnOk P w K mg base CX0 5 f fd ["term"] (spD 1 tLowOnce) := by
  refine fn_d F scLoweredOnce (body := fun cdv A outer s H E hr => ⟨_, (pss_cons (ps_if (pt_cmpR op_in_seq pe_int (C8.pe_c C_free_places hr (by omega) rfl (pa_cons (pv 0) pa_nil)) rfl) (pss_one (ps_ret pe_non)) pss_nil) (pss_one (ps_ret (C8.pe_c C_raised_by hr (by omega) rfl (pa_cons (pv 0) (pa_cons (pe_un un_neg pe_int) (pa_cons pe_int pa_nil))))))), ?_⟩)
  rintro as Kr _ ⟨d, rfl, td, nd, k64, k⟩
  unfold lowD at k
  refine (sm_seq (sm_if (et_test (ev_op ev_int (Ev.of_el (el_call (es_cons (ev_var rfl) es_nil) ar_nil rfl ⟨_, rfl, td, nd, k64, rfl⟩)) fv_inI)) (fun h => (sm_ret ev_non ?_)) (fun h => (sm_next (sm_ret (ev_call (es_cons (ev_var rfl) (es_cons (ev_negI ev_int) (es_cons ev_int es_nil))) ar_nil rfl ⟨_, _, _, rfl, td, nd, rfl⟩) ?_)))))
  · rw [if_pos h] at k
    exact k
  · rw [if_neg (by rw [h]; exact Bool.false_ne_true)] at k
    exact k
theorem ok_lowY {f : Addr} {fd : FuncData} (F : Fun K "lowered" "lowered" sLowered f fd) (C_want_term : C8.Cal P w K mg base 5 "want_term" (spD 1 tWantY) []) (C_lowered_once : C8.Cal P w K mg base 5 "lowered_once" (spD 1 tLowOnce) []) : FnOk P w K mg base CX0 6 f fd ["term"] (spD 1 tLowY) := by
  refine fn_d F scLowered (body := fun cdv A outer s H E hr => ⟨_, (pss_cons (ps_expr (C8.pe_c C_want_term hr (by omega) rfl (pa_cons (pv 0) pa_nil)))
      (pss_one (ps_ret (C8.pe_c C_lowered_once hr (by omega) rfl (pa_cons (pv 0) pa_nil))))), ?_⟩)
  rintro as Kr _ ⟨d, rfl, td, fd, nd, k64, k⟩
  exact (sm_seq (sm_drop (ev_call (x := .none) (es_cons (ev_var rfl) es_nil) ar_nil rfl ⟨_, rfl, td, ok_of9 fd nd, rfl⟩) (sm_ret (ev_call (es_cons (ev_var rfl) es_nil) ar_nil rfl ⟨_, rfl, td, nd, k64, rfl⟩) k)))
end
end KP
set_option Elab.async false
set_option linter.unusedVariables false
set_option linter.unusedSectionVars false
set_option maxRecDepth 100000
set_option maxHeartbeats 2000000
namespace OW
open PySem PySem.Spec PyProof.Rows L2 KA
theorem fn_dD {P : Program} {w : World} {K : PySem.W.Frag} {mg : Str → Option Value} {base : Heap} {x qual : Str} {st : Stmt} {f : Addr} {fd : FuncData} {N ps : List Str} {k n : Nat} {dvs : List V} {kws : List (Str × V)} {T : List Sl → (Rv → Prop) → Prop} (F : FunD K x qual (defArgs st) (defBody st) (defScope st) dvs kws f fd) (S : FnScope N ps (defScope st)) (hn : ps.length = n := by rfl) (hN : n + N.length < fl := by decide)
    (body : ∀ (cdv : Value) (A : Around) (outer : List Env) (s : Shared) (H : Hp) (E : XK), Room k (A.deeper (envOfC qual (defScope st) s.heap.objs.size f cdv)) →
      ∃ t, PSs (cxOf CX0 P w K mg base N qual (defScope st) f cdv A outer s H E).nox (defBody st) t ∧ ∀ as Kr, as.length = n → T as Kr → Sm t (as ++ uns (N.length - n)) { nx := fun _ => Kr (.d .none), rt := fun r _ => Kr r }) :
    FnOk P w K mg base CX0 (k + 1) f fd ps (spD n T) := by
  refine F.ok S (fun vs H Q E h => ?_) (fun cdv A outer s H vs Q E hr h => ?_)
  · obtain ⟨Z, as, Kr, hZ, ha, hl, _⟩ := h
    rw [ha.length, hl, hn]
  · obtain ⟨Z, as, Kr, hZ, ha, hl, hT, go⟩ := h
    obtain ⟨t, ht, hb⟩ := body cdv A outer s H E hr
    refine ⟨t, PSs.nox ht, hb as Kr hl hT ⟨Z, none, H, hz Z H⟩ _ _ H _ (rp_start hN hZ ha hl) rfl ?_⟩
    have same : ∀ {A' : Am} {ρ' : List Sl} {σ' : L2.St} {H' : Hp}, Rp ⟨Z, none, H, hz Z H⟩ A' ρ' σ' H' → Aft Z H H' := rp_aft
    refine ⟨fun ρ' A' σ' H' hk R f => go _ _ _ hk (same R) .non, fun r ρ' v A' σ' H' hk R o => go r v H' hk (same R) ?_, fun _ _ _ _ h => h.elim, fun _ _ _ _ h => h.elim⟩
    exact rv_out (fun b o e nz _ => R.old _ _ (hz_mk nz e)) (fun b z => Or.inl z) R.inj R.off R.bor o
end OW
namespace KP
open PySem PySem.Spec PyProof.Rows L2 KA OW
/-! ### heads given, opened; raised, given -/
abbrev sGivenAll : Stmt := top 19
abbrev nGivenAll : List Str := ["head", "some", "made", "term"]
theorem scGivenAll : FnScope nGivenAll ["head", "some"] (defScope sGivenAll) := ⟨rfl, rfl, rfl, by decide +kernel, rfl, by decide +kernel, by decide +kernel⟩
abbrev sApplied : Stmt := top 44
abbrev nApplied : List Str := ["head", "some", "term"]
theorem scApplied : FnScope nApplied ["head", "some"] (defScope sApplied) := ⟨rfl, rfl, rfl, by decide +kernel, rfl, by decide +kernel, by decide +kernel⟩
abbrev sHeadAndGiven : Stmt := top 20
abbrev nHeadAndGiven : List Str := ["term", "head", "given"]
theorem scHeadAndGiven : FnScope nHeadAndGiven ["term"] (defScope sHeadAndGiven) := ⟨rfl, rfl, rfl, by decide +kernel, rfl, by decide +kernel, by decide +kernel⟩
abbrev sOpened : Stmt := top 45
abbrev nOpened : List Str := ["term"]
theorem scOpened : FnScope nOpened ["term"] (defScope sOpened) := ⟨rfl, rfl, rfl, by decide +kernel, rfl, by decide +kernel, by decide +kernel⟩
abbrev sRaised : Stmt := top 41
abbrev nRaised : List Str := ["term", "by", "start"]
theorem scRaised : FnScope nRaised ["term", "by", "start"] (defScope sRaised) := ⟨rfl, rfl, rfl, by decide +kernel, rfl, by decide +kernel, by decide +kernel⟩
abbrev sGiving : Stmt := top 42
abbrev nGiving : List Str := ["term", "other", "number"]
theorem scGiving : FnScope nGiving ["term", "other", "number"] (defScope sGiving) := ⟨rfl, rfl, rfl, by decide +kernel, rfl, by decide +kernel, by decide +kernel⟩
def givenD (h : PyData) (ss : List PyData) : PyData := ss.foldl (fun acc s => .tuple [.str "app", acc, s]) h
theorem givenD_snoc {h s : PyData} {ss : List PyData} : givenD h (ss ++ [s]) = .tuple [.str "app", givenD h ss, s] := by
  unfold givenD
  rw [List.foldl_append]
  rfl
def SeqP (x : PyData) (ss : List PyData) : Prop := x = .list ss ∨ x = .tuple ss
theorem fi_seq {KF : PySem.W.Frag} {te : TE} {ρ ρ1 : List Sl} {x : PyData} {ss : List PyData} (h : Ev te ρ (.d x) ρ1) (hx : SeqP x ss) : Fi (iSeq KF te) ρ ss ρ1 := by
  rcases hx with rfl | rfl
  · exact fi_seqL h
  · exact fi_seqT h
def tGivenAll : List Sl → (Rv → Prop) → Prop := fun as Kr => ∃ h x ss, as = [.d h, .d x] ∧ SeqP x ss ∧ Kr (.d (givenD h ss))
def tAppliedY : List Sl → (Rv → Prop) → Prop := fun as Kr => ∃ h x ss, as = [.d h, .d x] ∧ SeqP x ss ∧ tm h = true ∧ okT h ∧ (∀ s ∈ ss, tm s = true ∧ okT s) ∧ Kr (.d (givenD h ss))
def tHeadGiven : List Sl → (Rv → Prop) → Prop := fun as Kr => ∃ h ss, as = [.d (givenD h ss)] ∧ tm h = true ∧ wdD h ≠ "app" ∧ ss.length ≤ 1000000 ∧ Kr (.d (.tuple [h, .list ss]))
def tOpenedY : List Sl → (Rv → Prop) → Prop := fun as Kr => ∃ h ss, as = [.d (givenD h ss)] ∧ tm (givenD h ss) = true ∧ okT (givenD h ss) ∧ tm h = true ∧ wdD h ≠ "app" ∧ ss.length ≤ 1000000 ∧ Kr (.d (.tuple [h, .list ss]))
def tRaisedY : List Sl → (Rv → Prop) → Prop := fun as Kr => ∃ d b s, as = [.d d, .d (.int b), .d (.int s)] ∧ tm d = true ∧ fine d = true ∧ nodes d ≤ 900000 ∧ 0 ≤ b ∧ b ≤ 999 ∧ 0 ≤ s ∧ s ≤ 999 ∧ Kr (.d (raiseD b s d))
def tGivingY : List Sl → (Rv → Prop) → Prop := fun as Kr => ∃ d o m, as = [.d d, .d o, .d (.int m)] ∧ tm d = true ∧ fine d = true ∧ nodes d ≤ 900000 ∧ tm o = true ∧ fine o = true ∧ nodes o ≤ 900000 ∧ 0 ≤ m ∧ m ≤ 999 ∧ Kr (.d (giveD o m d))
section
variable {P : Program} {w : World} {K : PySem.W.Frag} {mg : Str → Option Value} {base : Heap}
theorem ok_givenall {f : Addr} {fd : FuncData} (F : Fun K "given_all" "given_all" sGivenAll f fd) : FnOk P w K mg base CX0 1 f fd ["head", "some"] (spD 2 tGivenAll) := by
  refine fn_d F scGivenAll (body := fun cdv A outer s H E hr => ⟨_, (pss_cons (ps_set (i := 2) scGivenAll.nd rfl (Or.inl rfl) (pv 0))
      (pss_cons (ps_for PassesOwn.never rfl (pi_seq (pv 1)) (pg_name (i := 3) scGivenAll.nd rfl (Or.inl rfl)) (pss_one (ps_set (i := 2) scGivenAll.nd rfl (Or.inl rfl) (pe_tup (pa_cons pe_str (pa_cons (pv 2) (pa_cons (pv 3) pa_nil)))))))
      (pss_one (ps_ret (pv 2))))), ?_⟩)
  rintro as Kr _ ⟨h, y, ss, rfl, sq, k⟩
  refine (sm_seq (sm_set (ev_var rfl) (sm_seq (sm_for (fi_seq (ev_var rfl) sq) (fun j ρ => ∃ s3, ρ = [.d h, .d y, .d (givenD h (ss.take j)), s3]) ⟨_, rfl⟩ (fun j x ρ e r => ?_) (fun ρ r => ?_)))))
  · obtain ⟨s3, rfl⟩ := r
    refine ⟨_, tg_name, (sm_set (ev_tup (eds_cons ev_str (eds_cons (ev_var rfl) (eds_cons (ev_var rfl) eds_nil)))) ?_)⟩
    refine ⟨.d x, ?_⟩
    rw [take_snoc e, givenD_snoc]
    rfl
  · obtain ⟨s3, rfl⟩ := r
    rw [List.take_length]
    exact sm_ret (ev_var rfl) k
theorem ok_appliedY {f : Addr} {fd : FuncData} (F : Fun K "applied" "applied" sApplied f fd) (T : Txt K w mg) (C_want_term : C8.Cal P w K mg base 5 "want_term" (spD 1 tWantY) []) (C_given_all : C8.Cal P w K mg base 1 "given_all" (spD 2 tGivenAll) []) : FnOk P w K mg base CX0 6 f fd ["head", "some"] (spD 2 tAppliedY) := by
  refine fn_d F scApplied (body := fun cdv A outer s H E hr => ⟨_, (pss_cons (ps_expr (C8.pe_c C_want_term hr (by omega) rfl (pa_cons (pv 0) pa_nil)))
      (pss_cons (ps_if (pt_not (pt_val (pe_callB call_isSeq (by rfl) T.isi (by decide +kernel) (pa_cons (pv 1) (pa_cons (pe_tup (pa_cons (pe_bltn (v := .ty "list") rfl T.list (by decide +kernel) rfl) (pa_cons (pe_bltn (v := .ty "tuple") rfl T.tuple (by decide +kernel) rfl) pa_nil))) pa_nil))))) (pss_one ps_never) pss_nil) (pss_cons (ps_for PassesOwn.never rfl (pi_seq (pv 1)) (pg_name (i := 2) scApplied.nd rfl (Or.inl rfl)) (pss_one (ps_expr (C8.pe_c C_want_term hr (by omega) rfl (pa_cons (pv 2) pa_nil)))))
      (pss_one (ps_ret (C8.pe_c C_given_all hr (by omega) rfl (pa_cons (pv 0) (pa_cons (pv 1) pa_nil)))))))), ?_⟩)
  rintro as Kr _ ⟨h, y, ss, rfl, sq, th, okh, oks, k⟩
  have isq : (isLstD y || isTupD y) = true := by
    rcases sq with rfl | rfl <;> rfl
  refine (sm_seq (sm_drop (ev_call (x := .none) (es_cons (ev_var rfl) es_nil) ar_nil rfl ⟨_, rfl, th, okh, rfl⟩) (sm_seq (sm_if (et_not (et_B (ev_fn (es_cons (ev_var rfl) (es_cons (ev_tupP (es_cons ev_cv (es_cons ev_cv es_nil))) es_nil)) fv_isSeq))) (fun q => by rw [isq] at q; cases q) (fun q => (sm_next ?_))))))
  refine (sm_seq (sm_for (fi_seq (ev_var rfl) sq) (fun j ρ => ∃ s2, ρ = [.d h, .d y, s2]) ⟨_, rfl⟩ (fun j x ρ e r => ?_) (fun ρ r => ?_)))
  · obtain ⟨s2, rfl⟩ := r
    have o := oks x (List.mem_of_getElem? e)
    exact ⟨_, tg_name, (sm_drop (ev_call (x := .none) (es_cons (ev_var rfl) es_nil) ar_nil rfl ⟨_, rfl, o.1, o.2, rfl⟩) ⟨_, rfl⟩)⟩
  · obtain ⟨s2, rfl⟩ := r
    exact (sm_ret (ev_call (es_cons (ev_var rfl) (es_cons (ev_var rfl) es_nil)) ar_nil rfl ⟨_, _, _, rfl, sq, rfl⟩) k)
theorem ok_headgiven {f : Addr} {fd : FuncData} (F : Fun K "head_and_given" "head_and_given" sHeadAndGiven f fd) : FnOk P w K mg base CX0 1 f fd ["term"] (spD 1 tHeadGiven) := by
  refine fn_d F scHeadAndGiven (body := fun cdv A outer s H E hr => ⟨_, (pss_cons (ps_set (i := 1) scHeadAndGiven.nd rfl (Or.inl rfl) (pv 0))
      (pss_cons (ps_set (i := 2) scHeadAndGiven.nd rfl (Or.inl rfl) (pe_lst pa_nil))
      (pss_cons (ps_while PassesOwn.never (pt_cmpR op_eq (pe_ix ix_tup (pv 1) pe_int (fun _ _ => rfl)) pe_str (nomark _)) (pss_cons (ps_expr (pe_bm PySem.F.plainAttrs_list PySem.F.slot_list_append PySem.F.type_list_append mt_append (pv 2) (pa_cons (pe_ix ix_tup (pv 1) pe_int (fun _ _ => rfl)) pa_nil)))
      (pss_one (ps_set (i := 1) scHeadAndGiven.nd rfl (Or.inl rfl) (pe_ix ix_tup (pv 1) pe_int (fun _ _ => rfl))))))
      (pss_cons (ps_expr (pe_bm0 PySem.F.plainAttrs_list PySem.F.slot_list_reverse PySem.F.type_list_reverse mt_reverse (pv 2)))
      (pss_one (ps_ret (pe_tup (pa_cons (pv 1) (pa_cons (pv 2) pa_nil))))))))), ?_⟩)
  rintro as Kr _ ⟨h, ss, rfl, th, wn, ln, k⟩
  obtain ⟨wd, ds, rfl⟩ := tm_shape th
  have wn : wd ≠ "app" := wn
  refine (sm_seq (sm_set (ev_var rfl) (sm_seq (sm_setL (el_lst eds_nil) (sm_seq (sm_while (fun m ρ => ∃ pre post, ss = pre ++ post ∧ m = pre.length ∧ ρ = [.d (givenD (.tuple (.str wd :: ds)) ss), .d (givenD (.tuple (.str wd :: ds)) pre), .l post.reverse]) ⟨_, ss, [], by simp, rfl, rfl⟩ (fun m ρ w => ?_)))))))
  obtain ⟨pre, post, e, rfl, rfl⟩ := w
  rcases List.eq_nil_or_concat pre with rfl | ⟨pre', s, rfl⟩
  · rw [show givenD (.tuple (.str wd :: ds)) [] = .tuple (.str wd :: ds) from rfl]
    refine ⟨false, _, (et_test (ev_op (ev_op (ev_var rfl) ev_int (fv_ixT at0)) ev_str fv_eqS)).is (by simp [wn]), (fun q => by cases q), fun _ => ?_⟩
    have e : ss = post := e
    subst e
    refine (sm_seq (sm_rev (k := 2) rfl (sm_ret (ev_tup (eds_cons (ev_var rfl) (eds_cons (ev_varF (xs := ss) (i := 2) ?_) eds_nil))) k)))
    rw [List.reverse_reverse]
    rfl
  · simp only [List.concat_eq_append] at e ⊢
    rw [givenD_snoc]
    have lp : post.length < sizeLine := by
      have := congrArg List.length e
      rw [List.length_append] at this
      rw [sizeLine_eq]
      omega
    refine ⟨true, _, (et_test (ev_op (ev_op (ev_var rfl) ev_int (fv_ixT at0)) ev_str fv_eqS)).is (by simp), (fun _ => (sm_seq (sm_app rfl (ev_op (ev_var rfl) ev_int (fv_ixT at2)) rfl (by rw [List.length_reverse]; exact lp) (sm_set (ev_op (ev_var rfl) ev_int (fv_ixT at1)) ?_)))), fun q => by cases q⟩
    refine ⟨pre'.length, by rw [List.length_append]; exact Nat.lt_succ_self _, pre', s :: post, by rw [e, List.append_assoc]; rfl, rfl, ?_⟩
    rw [List.reverse_cons]
    rfl
theorem ok_openedY {f : Addr} {fd : FuncData} (F : Fun K "opened" "opened" sOpened f fd) (C_want_term : C8.Cal P w K mg base 5 "want_term" (spD 1 tWantY) []) (C_head_and_given : C8.Cal P w K mg base 1 "head_and_given" (spD 1 tHeadGiven) []) : FnOk P w K mg base CX0 6 f fd ["term"] (spD 1 tOpenedY) := by
  refine fn_d F scOpened (body := fun cdv A outer s H E hr => ⟨_, (pss_cons (ps_expr (C8.pe_c C_want_term hr (by omega) rfl (pa_cons (pv 0) pa_nil)))
      (pss_one (ps_ret (C8.pe_c C_head_and_given hr (by omega) rfl (pa_cons (pv 0) pa_nil))))), ?_⟩)
  rintro as Kr _ ⟨h, ss, rfl, t, ok, th, wn, ln, k⟩
  exact (sm_seq (sm_drop (ev_call (x := .none) (es_cons (ev_var rfl) es_nil) ar_nil rfl ⟨_, rfl, t, ok, rfl⟩) (sm_ret (ev_call (es_cons (ev_var rfl) es_nil) ar_nil rfl ⟨_, _, rfl, th, wn, ln, rfl⟩) k)))
theorem ok_raisedY {f : Addr} {fd : FuncData} {dvs : List V} {kws : List (Str × V)} (F : FunD K "raised" "raised" (defArgs sRaised) (defBody sRaised) (defScope sRaised) dvs kws f fd) (MN : ∃ u, mg "MOST_NUMBER" = some u ∧ RelV (.int 999) u)
    (C_want_term : C8.Cal P w K mg base 5 "want_term" (spD 1 tWantY) []) (C_want_whole : C8.Cal P w K mg base 3 "want_whole" (spD 3 tWantWY) []) (C_raised_by : C8.Cal P w K mg base 4 "raised_by" (spD 3 tRaised) []) : FnOk P w K mg base CX0 6 f fd ["term", "by", "start"] (spD 3 tRaisedY) := by
  refine fn_dD F scRaised (body := fun cdv A outer s H E hr => ⟨_, pss_cons (ps_expr (C8.pe_c C_want_term hr (by omega) rfl (pa_cons (pv 0) pa_nil))) (pss_cons (ps_expr (C8.pe_c C_want_whole hr (by omega) rfl (pa_cons (pv 1) (pa_cons pe_int (pa_cons (C8.pe_gc rfl MN) pa_nil))))) (pss_cons (ps_expr (C8.pe_c C_want_whole hr (by omega) rfl (pa_cons (pv 2) (pa_cons pe_int (pa_cons (C8.pe_gc rfl MN) pa_nil))))) (pss_one (ps_ret (C8.pe_c C_raised_by hr (by omega) rfl (pa_cons (pv 0) (pa_cons (pv 1) (pa_cons (pv 2) pa_nil)))))))), ?_⟩)
  rintro as Kr _ ⟨d, b, s, rfl, td, fd, nd, b0, b1, s0, s1, k⟩
  exact (sm_seq (sm_drop (ev_call (x := .none) (es_cons (ev_var rfl) es_nil) ar_nil rfl ⟨_, rfl, td, ok_of9 fd nd, rfl⟩) (sm_seq (sm_drop (ev_call (x := .none) (es_cons (ev_var rfl) (es_cons ev_int (es_cons ev_int es_nil))) ar_nil rfl ⟨_, _, _, rfl, b0, b1, rfl⟩) (sm_seq (sm_drop (ev_call (x := .none) (es_cons (ev_var rfl) (es_cons ev_int (es_cons ev_int es_nil))) ar_nil rfl ⟨_, _, _, rfl, s0, s1, rfl⟩) (sm_ret (ev_call (es_cons (ev_var rfl) (es_cons (ev_var rfl) (es_cons (ev_var rfl) es_nil))) ar_nil rfl ⟨_, _, _, rfl, td, nd, rfl⟩) k)))))))
theorem ok_givingY {f : Addr} {fd : FuncData} {dvs : List V} {kws : List (Str × V)} (F : FunD K "giving" "giving" (defArgs sGiving) (defBody sGiving) (defScope sGiving) dvs kws f fd) (MN : ∃ u, mg "MOST_NUMBER" = some u ∧ RelV (.int 999) u)
    (C_want_term : C8.Cal P w K mg base 5 "want_term" (spD 1 tWantY) []) (C_want_whole : C8.Cal P w K mg base 3 "want_whole" (spD 3 tWantWY) []) (C_given_at : C8.Cal P w K mg base 8 "given_at" (spD 3 tGiven) []) : FnOk P w K mg base CX0 9 f fd ["term", "other", "number"] (spD 3 tGivingY) := by
  refine fn_dD F scGiving (body := fun cdv A outer s H E hr => ⟨_, pss_cons (ps_expr (C8.pe_c C_want_term hr (by omega) rfl (pa_cons (pv 0) pa_nil))) (pss_cons (ps_expr (C8.pe_c C_want_term hr (by omega) rfl (pa_cons (pv 1) pa_nil))) (pss_cons (ps_expr (C8.pe_c C_want_whole hr (by omega) rfl (pa_cons (pv 2) (pa_cons pe_int (pa_cons (C8.pe_gc rfl MN) pa_nil))))) (pss_one (ps_ret (C8.pe_c C_given_at hr (by omega) rfl (pa_cons (pv 0) (pa_cons (pv 1) (pa_cons (pv 2) pa_nil)))))))), ?_⟩)
  rintro as Kr _ ⟨d, o, m, rfl, td, fd, nd, to_, fo, no, m0, m1, k⟩
  exact (sm_seq (sm_drop (ev_call (x := .none) (es_cons (ev_var rfl) es_nil) ar_nil rfl ⟨_, rfl, td, ok_of9 fd nd, rfl⟩) (sm_seq (sm_drop (ev_call (x := .none) (es_cons (ev_var rfl) es_nil) ar_nil rfl ⟨_, rfl, to_, ok_of9 fo no, rfl⟩) (sm_seq (sm_drop (ev_call (x := .none) (es_cons (ev_var rfl) (es_cons ev_int (es_cons ev_int es_nil))) ar_nil rfl ⟨_, _, _, rfl, m0, m1, rfl⟩) (sm_ret (ev_call (es_cons (ev_var rfl) (es_cons (ev_var rfl) (es_cons (ev_var rfl) es_nil))) ar_nil rfl ⟨_, _, _, rfl, td, nd, to_, no, rfl⟩) k)))))))
end
end KP
set_option Elab.async false
set_option linter.unusedVariables false
set_option linter.unusedSectionVars false
set_option maxRecDepth 100000
set_option maxHeartbeats 4000000
namespace KP
open PySem PySem.Spec PyProof.Rows L2 KA OW
/-! ### how large what is told is -/
theorem parts_le {wd : Str} {n : Nat} (h : parts wd = some n) : n ≤ 3 := by
  unfold parts at h
  repeat' split at h
  all_goals first | (cases h; decide) | cases h
theorem partsD_le {d : PyData} (t : tm d = true) : (partsD d).length ≤ 3 := by
  obtain ⟨wd, ds, rfl⟩ := tm_shape t
  show (if (parts wd).isSome = true then ds else []).length ≤ 3
  cases hp : parts wd with
  | none => exact Nat.zero_le _
  | some n =>
    rw [tm_parts hp, Bool.and_eq_true] at t
    have l : ds.length = n := of_decide_eq_true t.1
    have := parts_le hp
    show ds.length ≤ 3
    omega
theorem reach_facts : ∀ {q : List Nat} {d : PyData} {n : Int} {r : PyData × Int}, tm d = true → reachD d q n = some r → tm r.1 = true ∧ q.length + r.1.depth ≤ d.depth ∧ (∀ i ∈ q, i < 3) ∧ nodes r.1 ≤ nodes d ∧ ∃ r2, reachD d q 0 = some r2 ∧ r2.1 = r.1
  | [], d, n, r, t, h => by
    cases h
    exact ⟨t, by simp, (fun i hi => absurd hi List.not_mem_nil), Nat.le_refl _, _, rfl, rfl⟩
  | i :: q, d, n, r, t, h => by
    have h : (match (partsD d)[i]? with | some e => reachD e q (n + passD (wdD d) (i : Int)) | none => none) = some r := h
    show _ ∧ _ ∧ _ ∧ _ ∧ ∃ r2, (match (partsD d)[i]? with | some e => reachD e q (0 + passD (wdD d) (i : Int)) | none => none) = some r2 ∧ _
    cases e : (partsD d)[i]? with
    | none =>
      rw [e] at h
      cases h
    | some f =>
      rw [e] at h
      have m := List.mem_of_getElem? e
      have te := tmAll_mem (parts_tm t) m
      obtain ⟨a, b, c, n1, _⟩ := reach_facts te h
      have dp := parts_depth m t
      have il := (List.getElem?_eq_some_iff.mp e).1
      have := partsD_le t
      have nn := mem_nodes m
      have pn := parts_nodes t
      refine ⟨a, by rw [List.length_cons]; omega, fun j hj => ?_, by omega, ?_⟩
      · rcases List.mem_cons.mp hj with rfl | hj
        · omega
        · exact c j hj
      · have ex : ∀ (q : List Nat) (f : PyData) (n m : Int) (r : PyData × Int), reachD f q n = some r → ∃ r2, reachD f q m = some r2 ∧ r2.1 = r.1 := by
          intro q
          induction q with
          | nil =>
            intro f n m r h
            cases h
            exact ⟨_, rfl, rfl⟩
          | cons j q ih =>
            intro f n m r h
            have h : (match (partsD f)[j]? with | some e => reachD e q (n + passD (wdD f) (j : Int)) | none => none) = some r := h
            show ∃ r2, (match (partsD f)[j]? with | some e => reachD e q (m + passD (wdD f) (j : Int)) | none => none) = some r2 ∧ _
            cases e : (partsD f)[j]? with
            | none =>
              rw [e] at h
              cases h
            | some g =>
              rw [e] at h
              exact ih g _ _ _ h
        exact ex q f _ _ r h
theorem bd_all {a c : Nat} : ∀ {ds : List PyData}, (∀ d ∈ ds, Bd a c d) → BdAll a (ds.length * (c + 2)) ds
  | [], _ => BdAll.nil
  | d :: ds, h => (BdAll.cons (h d List.mem_cons_self) (bd_all fun e he => h e (List.mem_cons_of_mem _ he))).mono (Nat.le_refl _) (by rw [List.length_cons, Nat.succ_mul]; omega)
theorem spot_bd {q : List Nat} {n : Nat} (l : q.length ≤ n) (h : ∀ i ∈ q, i < 3) : BdAll 0 (n * 42) (q.map fun i : Nat => PyData.int (i : Int)) := by
  have := bd_all (a := 0) (c := 40) (ds := q.map fun i : Nat => PyData.int (i : Int)) fun d hd => by
    obtain ⟨i, hi, rfl⟩ := List.mem_map.mp hd
    have := h i hi
    exact Bd.int (by constructor <;> omega)
  rw [List.length_map] at this
  exact this.mono (Nat.le_refl _) (Nat.mul_le_mul_right 42 l)
theorem set_all {y : PyData} (fy : flatD y = true) (gy : fine y = true) : ∀ {es : List PyData} (i : Nat), flatAll es = true → fineAll es = true → flatAll (es.set i y) = true ∧ fineAll (es.set i y) = true ∧ PyData.depthAll (es.set i y) ≤ max (PyData.depthAll es) y.depth
  | [], i, f, g => ⟨f, g, Nat.zero_le _⟩
  | a :: es, 0, f, g => by
    have f : flatD a = true ∧ flatAll es = true := by simpa only [flatAll, Bool.and_eq_true] using f
    have g : fine a = true ∧ fineAll es = true := by simpa only [fineAll, Bool.and_eq_true] using g
    refine ⟨by simp only [List.set, flatAll, fy, f.2, Bool.and_self], by simp only [List.set, fineAll, gy, g.2, Bool.and_self], ?_⟩
    show max y.depth (PyData.depthAll es) ≤ max (max a.depth (PyData.depthAll es)) y.depth
    omega
  | a :: es, i + 1, f, g => by
    have f : flatD a = true ∧ flatAll es = true := by simpa only [flatAll, Bool.and_eq_true] using f
    have g : fine a = true ∧ fineAll es = true := by simpa only [fineAll, Bool.and_eq_true] using g
    obtain ⟨x, z, w⟩ := set_all fy gy i f.2 g.2
    refine ⟨by simp only [List.set, flatAll, f.1, x, Bool.and_self], by simp only [List.set, fineAll, g.1, z, Bool.and_self], ?_⟩
    show max a.depth (PyData.depthAll (es.set i y)) ≤ max (max a.depth (PyData.depthAll es)) y.depth
    omega
theorem ch_ok {o : PyData} (fo : flatD o = true) (go : fine o = true) : ∀ {q : List Nat} {d : PyData}, flatD d = true → fine d = true → flatD (chD d q o) = true ∧ fine (chD d q o) = true ∧ (chD d q o).depth ≤ max d.depth (q.length + o.depth)
  | [], d, f, g => by
    have e : chD d [] o = o := by cases d <;> rfl
    rw [e]
    exact ⟨fo, go, by simp only [List.length_nil]; omega⟩
  | i :: r, .tuple es, f, g => by
    have f : flatAll es = true := by simpa only [flatD] using f
    have g : fineAll es = true := by simpa only [fine] using g
    have cs : flatD ((es[i + 1]?).getD .none) = true ∧ fine ((es[i + 1]?).getD .none) = true ∧ ((es[i + 1]?).getD .none).depth ≤ PyData.depthAll es := by
      cases h : es[i + 1]? with
      | none => exact ⟨rfl, rfl, Nat.zero_le _⟩
      | some e =>
        have m := List.mem_of_getElem? h
        exact ⟨flat_in f m, fine_in g m, depth_in m⟩
    obtain ⟨x, y, z⟩ := ch_ok fo go (q := r) cs.1 cs.2.1
    obtain ⟨a, b, c⟩ := set_all x y (i + 1) f g
    have e : chD (.tuple es) (i :: r) o = .tuple (es.set (i + 1) (chD ((es[i + 1]?).getD .none) r o)) := rfl
    rw [e]
    refine ⟨by simpa only [flatD] using a, by simpa only [fine] using b, ?_⟩
    show PyData.depthAll _ + 1 ≤ max (PyData.depthAll es + 1) ((i :: r).length + o.depth)
    rw [List.length_cons]
    have := cs.2.2
    omega
  | i :: r, .none, f, g | i :: r, .bool _, f, g | i :: r, .int _, f, g | i :: r, .str _, f, g => ⟨f, g, Nat.le_max_left _ _⟩
  | i :: r, .list _, f, g | i :: r, .dict _, f, g => by cases f
theorem part_fine {d y : PyData} (t : tm d = true) (f : fine d = true) (hy : y ∈ partsD d) : fine y = true := by
  obtain ⟨wd, ds, rfl⟩ := tm_shape t
  have f1 : fineAll (.str wd :: ds) = true := by simpa only [fine] using f
  have hy : y ∈ (if (parts wd).isSome = true then ds else []) := hy
  split at hy
  · exact fine_in f1 (List.mem_cons_of_mem _ hy)
  · cases hy
theorem reach_more : ∀ {q : List Nat} {d : PyData} {n : Int} {r : PyData × Int}, tm d = true → fine d = true → reachD d q n = some r → fine r.1 = true ∧ n ≤ r.2 ∧ r.2 ≤ n + q.length
  | [], d, n, r, t, f, h => by
    cases h
    exact ⟨f, Int.le_refl _, by simp⟩
  | i :: q, d, n, r, t, f, h => by
    have h : (match (partsD d)[i]? with | some e => reachD e q (n + passD (wdD d) (i : Int)) | none => none) = some r := h
    cases e : (partsD d)[i]? with
    | none =>
      rw [e] at h
      cases h
    | some g =>
      rw [e] at h
      have m := List.mem_of_getElem? e
      obtain ⟨a, b, c⟩ := reach_more (tmAll_mem (parts_tm t) m) (part_fine t f m) h
      have p : 0 ≤ passD (wdD d) (i : Int) ∧ passD (wdD d) (i : Int) ≤ 1 := by
        unfold passD
        split <;> constructor <;> decide
      refine ⟨a, by omega, ?_⟩
      rw [List.length_cons]
      omega
mutual
theorem nodes2_wt : ∀ d : PyData, 2 * nodes d ≤ wt d
  | .none => by simp [nodes, wt]
  | .bool b => by simp [nodes, wt]
  | .int i => by simp [nodes, wt]
  | .str x => by simp [nodes, wt]
  | .list ds => by simp only [nodes, wt]; omega
  | .dict kvs => by simp only [nodes, wt]; omega
  | .tuple ds => by
    have := nodes2All_wt ds
    simp only [nodes, wt]
    omega
theorem nodes2All_wt : ∀ ds : List PyData, 2 * nodesAll ds ≤ wtAll ds
  | [] => by simp [nodesAll, wtAll]
  | d :: ds => by
    have h1 := nodes2_wt d
    have h2 := nodes2All_wt ds
    simp only [nodesAll, wtAll]
    omega
end
theorem wt_mem : ∀ {ds : List PyData} {d : PyData}, d ∈ ds → wt d + 2 ≤ wtAll ds
  | e :: es, d, h => by
    show _ ≤ wt e + 2 + wtAll es
    rcases List.mem_cons.mp h with rfl | h
    · omega
    · have := wt_mem h
      omega
theorem parts_wt {d : PyData} (t : tm d = true) : wtAll (partsD d) + 226 ≤ wt d := by
  obtain ⟨w, ds, rfl⟩ := tm_shape t
  have e : partsD (.tuple (.str w :: ds)) = if (parts w).isSome = true then ds else [] := rfl
  rw [e]
  show _ ≤ 220 + 2 + wtAll ds + 4
  split
  · omega
  · show 0 + 226 ≤ _
    omega
theorem reach_wt : ∀ {q : List Nat} {d : PyData} {n : Int} {r : PyData × Int}, tm d = true → reachD d q n = some r → wt r.1 ≤ wt d
  | [], d, n, r, t, h => by
    cases h
    exact Nat.le_refl _
  | i :: q, d, n, r, t, h => by
    have h : (match (partsD d)[i]? with | some e => reachD e q (n + passD (wdD d) (i : Int)) | none => none) = some r := h
    cases e : (partsD d)[i]? with
    | none =>
      rw [e] at h
      cases h
    | some g =>
      rw [e] at h
      have m := List.mem_of_getElem? e
      have a := reach_wt (tmAll_mem (parts_tm t) m) h
      have b := wt_mem m
      have c := parts_wt t
      omega
/-! rows of a walk -/
mutual
theorem wk_reach : ∀ (d : PyData) (p : List Nat) (u : Int), tm d = true → ∀ r ∈ wk d p u, ∃ q, r.1 = p ++ q ∧ reachD d q u = some (r.2.1, r.2.2)
  | .tuple (x :: ds), p, u, t, r, h => by
    obtain ⟨w, ds', e⟩ := tm_shape t
    injection e with e
    injection e with e1 e2
    subst e1 e2
    have h : r ∈ (p, PyData.tuple (.str w :: ds), u) :: (if (parts w).isSome = true then wkL ds w p u 0 else []) := h
    rcases List.mem_cons.mp h with rfl | h
    · exact ⟨[], by simp, rfl⟩
    · split at h
      · rename_i hp
        have tp := parts_tm t
        have pe : partsD (.tuple (.str w :: ds)) = ds := if_pos hp
        rw [pe] at tp
        obtain ⟨k, q, g, hg, e1, e2⟩ := wkL_reach ds w p u 0 tp r h
        refine ⟨k :: q, ?_, ?_⟩
        · rw [e1, Nat.zero_add]
        · show (match (partsD (.tuple (.str w :: ds)))[k]? with | some e => reachD e q (u + passD w (k : Int)) | none => none) = _
          rw [pe, hg]
          rw [Nat.zero_add] at e2
          exact e2
      · cases h
  | .tuple [], _, _, h, _, _ | .none, _, _, h, _, _ | .bool _, _, _, h, _, _ | .int _, _, _, h, _, _ | .str _, _, _, h, _, _ | .list _, _, _, h, _, _ | .dict _, _, _, h, _, _ => by cases h
theorem wkL_reach : ∀ (ds : List PyData) (w : Str) (p : List Nat) (u : Int) (i : Nat), tmAll ds = true → ∀ r ∈ wkL ds w p u i, ∃ k q g, ds[k]? = some g ∧ r.1 = p ++ (i + k) :: q ∧ reachD g q (u + passD w ((i + k : Nat) : Int)) = some (r.2.1, r.2.2)
  | [], _, _, _, _, _, r, h => by cases h
  | d :: ds, w, p, u, i, t, r, h => by
    have t : tm d = true ∧ tmAll ds = true := by simpa only [tmAll, Bool.and_eq_true] using t
    have h : r ∈ wk d (p ++ [i]) (u + passD w (i : Int)) ++ wkL ds w p u (i + 1) := h
    rcases List.mem_append.mp h with h | h
    · obtain ⟨q, e1, e2⟩ := wk_reach d _ _ t.1 r h
      exact ⟨0, q, d, rfl, by rw [e1]; simp, e2⟩
    · obtain ⟨k, q, g, hg, e1, e2⟩ := wkL_reach ds w p u (i + 1) t.2 r h
      refine ⟨k + 1, q, g, hg, ?_, ?_⟩
      · rw [e1, show i + 1 + k = i + (k + 1) by omega]
      · rw [show i + (k + 1) = i + 1 + k by omega]
        exact e2
end
mutual
theorem wk_wt : ∀ (d : PyData) (p : List Nat) (u : Int), tm d = true → (wk d p u).length * 226 ≤ wt d
  | .tuple (x :: ds), p, u, t => by
    obtain ⟨w, ds', e⟩ := tm_shape t
    injection e with e
    injection e with e1 e2
    subst e1 e2
    show ((p, PyData.tuple (.str w :: ds), u) :: (if (parts w).isSome = true then wkL ds w p u 0 else [])).length * 226 ≤ 220 + 2 + wtAll ds + 4
    split
    · rename_i hp
      have tp := parts_tm t
      rw [show partsD (.tuple (.str w :: ds)) = ds from if_pos hp] at tp
      have := wkL_wt ds w p u 0 tp
      rw [List.length_cons]
      omega
    · rw [List.length_cons, List.length_nil]
      omega
  | .tuple [], _, _, h | .none, _, _, h | .bool _, _, _, h | .int _, _, _, h | .str _, _, _, h | .list _, _, _, h | .dict _, _, _, h => by cases h
theorem wkL_wt : ∀ (ds : List PyData) (w : Str) (p : List Nat) (u : Int) (i : Nat), tmAll ds = true → (wkL ds w p u i).length * 226 ≤ wtAll ds
  | [], _, _, _, _, _ => by simp [wkL]
  | d :: ds, w, p, u, i, t => by
    have t : tm d = true ∧ tmAll ds = true := by simpa only [tmAll, Bool.and_eq_true] using t
    have h1 := wk_wt d (p ++ [i]) (u + passD w (i : Int)) t.1
    have h2 := wkL_wt ds w p u (i + 1) t.2
    show (wk d (p ++ [i]) (u + passD w (i : Int)) ++ wkL ds w p u (i + 1)).length * 226 ≤ wt d + 2 + wtAll ds
    rw [List.length_append, Nat.add_mul]
    omega
end
/-! free places are few -/
theorem fkAll_mem {B : Int} : ∀ {ds : List PyData} {g : PyData}, fkAll B ds = true → g ∈ ds → fk B g = true
  | a :: ds, g, f, h => by
    have f : fk B a = true ∧ fkAll B ds = true := by simpa only [fkAll, Bool.and_eq_true] using f
    rcases List.mem_cons.mp h with rfl | h
    · exact f.1
    · exact fkAll_mem f.2 h
theorem reach_fk {B : Int} : ∀ {q : List Nat} {d : PyData} {n : Int} {r : PyData × Int}, tm d = true → fk B d = true → reachD d q n = some r → fk B r.1 = true
  | [], d, n, r, t, f, h => by
    cases h
    exact f
  | i :: q, d, n, r, t, f, h => by
    have h : (match (partsD d)[i]? with | some e => reachD e q (n + passD (wdD d) (i : Int)) | none => none) = some r := h
    cases e : (partsD d)[i]? with
    | none =>
      rw [e] at h
      cases h
    | some g =>
      rw [e] at h
      have m := List.mem_of_getElem? e
      refine reach_fk (tmAll_mem (parts_tm t) m) ?_ h
      obtain ⟨w, ds, rfl⟩ := tm_shape t
      have f1 : (fine (.str w) && fkAll B ds) = true := f
      simp only [Bool.and_eq_true] at f1
      have m : g ∈ (if (parts w).isSome = true then ds else []) := m
      split at m
      · exact fkAll_mem f1.2 m
      · cases m
theorem key_in {B : Int} {d : PyData} {r : Row3} {z : Int} (t : tm d = true) (f : fk B d = true) (fi : fine d = true) (h : r ∈ wk d [] 0) (e : keyOf r = some z) : 0 ≤ z ∧ z ≤ B := by
  obtain ⟨q, _, re⟩ := wk_reach d [] 0 t r h
  have fr := reach_fk t f re
  obtain ⟨_, u0, _⟩ := reach_more t fi re
  obtain ⟨p, g, u⟩ := r
  have fr : fk B g = true := fr
  have u0 : 0 ≤ u := u0
  unfold keyOf at e
  split at e
  · rename_i w n eg
    have eg : g = .tuple [.str w, .int n] := eg
    split at e
    · rename_i c
      have c2 : u ≤ n := c.2
      cases e
      rw [eg] at fr
      have fr : (fine (.str w) && ((decide (0 ≤ n) && decide (n ≤ B)) && true)) = true := fr
      simp only [Bool.and_eq_true, decide_eq_true_eq] at fr
      show 0 ≤ n - u ∧ n - u ≤ B
      omega
    · cases e
  · cases e
theorem fold_keys {Q : Int → Prop} : ∀ (rs : List Row3) (ks : List Int), (∀ r ∈ rs, ∀ z, keyOf r = some z → Q z) → (ks.Nodup ∧ ∀ z ∈ ks, Q z) → (rs.foldl stepI ks).Nodup ∧ ∀ z ∈ rs.foldl stepI ks, Q z
  | [], _, _, h => h
  | r :: rs, ks, hr, h => by
    refine fold_keys rs (stepI ks r) (fun r' m => hr r' (List.mem_cons_of_mem _ m)) ?_
    unfold stepI
    cases e : keyOf r with
    | none => exact h
    | some z =>
      show (putI ks z).Nodup ∧ ∀ y ∈ putI ks z, Q y
      unfold putI
      split
      · exact h
      · rename_i nm
        refine ⟨?_, fun y hy => ?_⟩
        · rw [List.nodup_append]
          refine ⟨h.1, by simp, fun a ha b hb => ?_⟩
          obtain rfl := List.mem_singleton.mp hb
          exact fun q => nm (q ▸ ha)
        · rcases List.mem_append.mp hy with hy | hy
          · exact h.2 y hy
          · obtain rfl := List.mem_singleton.mp hy
            exact hr r List.mem_cons_self _ e
theorem pigeon : ∀ (B : Nat) (l : List Int), l.Nodup → (∀ z ∈ l, 0 ≤ z ∧ z < B) → l.length ≤ B
  | 0, l, _, h => by
    cases l with
    | nil => exact Nat.le_refl _
    | cons a l =>
      have := h a List.mem_cons_self
      omega
  | B + 1, l, n, h => by
    by_cases c : (B : Int) ∈ l
    · have n2 := n.erase (B : Int)
      have := pigeon B (l.erase (B : Int)) n2 fun z hz => by
        have m := n.mem_erase_iff.mp hz
        have := h z m.2
        have : z ≠ (B : Int) := m.1
        omega
      rw [List.length_erase_of_mem c] at this
      omega
    · have := pigeon B l n fun z hz => by
        have := h z hz
        have : z ≠ (B : Int) := fun q => c (q ▸ hz)
        omega
      omega
theorem keys_few {B : Nat} {d : PyData} (t : tm d = true) (f : fk (B : Int) d = true) (fi : fine d = true) : (keysF (wk d [] 0)).length ≤ B + 1 ∧ ∀ z ∈ keysF (wk d [] 0), 0 ≤ z ∧ z ≤ (B : Int) := by
  have h := fold_keys (Q := fun z => 0 ≤ z ∧ z ≤ (B : Int)) (wk d [] 0) [] (fun r m z e => key_in t f fi m e) ⟨List.nodup_nil, fun z h => by cases h⟩
  exact ⟨pigeon (B + 1) _ h.1 fun z hz => by have := h.2 z hz; omega, h.2⟩
/-! what a turn makes larger -/
def GoodW (g : Int → Int → PyData) (B lo hi : Int) (G W : Nat) : Prop := ∀ n u, 0 ≤ n → n ≤ B → lo ≤ u → u ≤ hi → noneD (g n u) = false ∧ fine (g n u) = true ∧ (g n u).depth ≤ G + 1 ∧ wt (g n u) ≤ W + 268
mutual
theorem fu_wt {g : Int → Int → PyData} {B lo hi : Int} {G W : Nat} (H : GoodW g B lo hi G W) : ∀ (d : PyData) (u : Int), tm d = true → fk B d = true → lo ≤ u → u + (d.depth : Int) ≤ hi → fine d = true → fine (fuD g d u) = true ∧ (fuD g d u).depth ≤ d.depth + G ∧ wt (fuD g d u) ≤ wt d + lv d * W
  | .tuple (x :: ds), u, t, f, l0, l1, fi => by
    obtain ⟨w, ds', e⟩ := tm_shape t
    injection e with e
    injection e with e1 e2
    subst e1 e2
    by_cases hw : w = "at"
    · subst hw
      obtain ⟨n, rfl, n0⟩ := at_shape t
      have f' : (fine (.str "at") && (fk B (.int n) && true)) = true := f
      simp only [Bool.and_eq_true] at f'
      have nB : fk B (.int n) = true := f'.2.1
      have nB : (decide (0 ≤ n) && decide (n ≤ B)) = true := nB
      simp only [Bool.and_eq_true, decide_eq_true_eq] at nB
      have dp : (PyData.tuple [.str "at", .int n]).depth = 1 := rfl
      rw [dp] at l1
      obtain ⟨a, b, c, e⟩ := H n u nB.1 nB.2 l0 (by omega)
      rw [fu_at a]
      refine ⟨b, by rw [dp]; omega, ?_⟩
      have e1 : lv (.tuple [.str "at", .int n]) = 1 := rfl
      have e2 : wt (.tuple [.str "at", .int n]) = 268 := rfl
      rw [e1, e2]
      omega
    · rw [fu_not hw]
      by_cases hp : (parts w).isSome = true
      · rw [if_pos hp]
        have f' : (fine (.str w) && fkAll B ds) = true := f
        simp only [Bool.and_eq_true] at f'
        have fi' : fine (.str w) = true ∧ fineAll ds = true := by simpa only [fine, fineAll, Bool.and_eq_true] using fi
        have dp : (PyData.tuple (.str w :: ds)).depth = max 0 (PyData.depthAll ds) + 1 := rfl
        obtain ⟨a, b, c⟩ := fuL_wt H ds w u 0 (tm_dsAll t hp) f'.2 l0 (by rw [dp] at l1; omega) fi'.2
        refine ⟨?_, ?_, ?_⟩
        · show (fine (.str w) && fineAll (fuL g w u 0 ds)) = true
          rw [f'.1, a]
          rfl
        · show max 0 (PyData.depthAll (fuL g w u 0 ds)) + 1 ≤ _
          rw [dp]
          omega
        · show 220 + 2 + wtAll (fuL g w u 0 ds) + 4 ≤ 220 + 2 + wtAll ds + 4 + (0 + lvAll ds) * W
          rw [Nat.zero_add]
          omega
      · rw [if_neg hp]
        exact ⟨fi, Nat.le_add_right _ _, Nat.le_add_right _ _⟩
  | .tuple [], _, h, _, _, _, _ | .none, _, h, _, _, _, _ | .bool _, _, h, _, _, _, _ | .int _, _, h, _, _, _, _ | .str _, _, h, _, _, _, _ | .list _, _, h, _, _, _, _ | .dict _, _, h, _, _, _, _ => by cases h
theorem fuL_wt {g : Int → Int → PyData} {B lo hi : Int} {G W : Nat} (H : GoodW g B lo hi G W) : ∀ (ds : List PyData) (w : Str) (u : Int) (i : Nat), tmAll ds = true → fkAll B ds = true → lo ≤ u → u + 1 + (PyData.depthAll ds : Int) ≤ hi → fineAll ds = true → fineAll (fuL g w u i ds) = true ∧ PyData.depthAll (fuL g w u i ds) ≤ PyData.depthAll ds + G ∧ wtAll (fuL g w u i ds) ≤ wtAll ds + lvAll ds * W
  | [], _, _, _, _, _, _, _, _ => ⟨rfl, Nat.zero_le _, Nat.zero_le _⟩
  | d :: ds, w, u, i, t, f, l0, l1, fi => by
    have t : tm d = true ∧ tmAll ds = true := by simpa only [tmAll, Bool.and_eq_true] using t
    have f : fk B d = true ∧ fkAll B ds = true := by simpa only [fkAll, Bool.and_eq_true] using f
    have fi : fine d = true ∧ fineAll ds = true := by simpa only [fineAll, Bool.and_eq_true] using fi
    have dp : PyData.depthAll (d :: ds) = max d.depth (PyData.depthAll ds) := rfl
    rw [dp] at l1
    have p := pass01 w (i : Int)
    obtain ⟨a, b, c⟩ := fu_wt H d (u + passD w (i : Int)) t.1 f.1 (by omega) (by omega) fi.1
    obtain ⟨a', b', c'⟩ := fuL_wt H ds w u (i + 1) t.2 f.2 l0 (by omega) fi.2
    refine ⟨?_, ?_, ?_⟩
    · show (fine (fuD g d (u + passD w (i : Int))) && fineAll (fuL g w u (i + 1) ds)) = true
      rw [a, a']
      rfl
    · show max (fuD g d (u + passD w (i : Int))).depth (PyData.depthAll (fuL g w u (i + 1) ds)) ≤ _
      rw [dp]
      omega
    · show wt (fuD g d (u + passD w (i : Int))) + 2 + wtAll (fuL g w u (i + 1) ds) ≤ wt d + 2 + wtAll ds + (lv d + lvAll ds) * W
      rw [Nat.add_mul]
      omega
end
theorem at_fine {n : Int} (h : -(10 ^ 31) ≤ n ∧ n ≤ 10 ^ 31) : fine (.tuple [.str "at", .int n]) = true := by
  have := (Bd.int h).1
  simp only [fine, fineAll] at this ⊢
  rw [this]
  rfl
theorem goodWR {b B : Int} (lo hi : Int) (hb : -1000 ≤ b ∧ b ≤ 1000) (hB : B ≤ 10 ^ 30) : GoodW (lawR b) B lo hi 0 0 := fun n u n0 nB _ _ => by
  unfold lawR
  refine ⟨rfl, at_fine ?_, Nat.le_refl _, Nat.le_refl _⟩
  split
  · rw [Int.mul_one]; omega
  · rw [Int.mul_zero]; omega
theorem raise_bd {B b s : Int} {k z : Nat} {d : PyData} (t : tm d = true) (f : fk B d = true) (h : Bd k z d) (hb : -1000 ≤ b ∧ b ≤ 1000) (hB : B ≤ 10 ^ 30 := by decide) : Bd k z (raiseD b s d) := by
  rw [raise_law t]
  obtain ⟨a, c, e⟩ := fu_wt (goodWR s (s + (d.depth : Int)) hb hB) d s t f (Int.le_refl _) (Int.le_refl _) h.1
  exact ⟨a, by have := h.2.1; omega, by have := h.2.2; omega⟩
theorem give_bd {B m : Int} {k z j y : Nat} {d o : PyData} (t : tm d = true) (f : fk B d = true) (h : Bd k z d) (to_ : tm o = true) (fo : fk B o = true) (ho : Bd j y o) (m0 : 0 ≤ m) (hk : k ≤ 1000) (hB : B ≤ 10 ^ 29 := by decide) : Bd (k + j) (z + lv d * y) (giveD o m d) := by
  rw [give_law t to_]
  have G : GoodW (lawG o m) B 0 (0 + (d.depth : Int)) j y := fun n u n0 nB u0 u1 => by
    refine ⟨noneG to_, ?_⟩
    unfold lawG
    split
    · obtain ⟨a, c, e⟩ := fu_wt (goodWR (b := u) (B := B) 0 (0 + (o.depth : Int)) (by have := h.2.1; omega) (by omega)) o 0 to_ fo (Int.le_refl _) (Int.le_refl _) ho.1
      exact ⟨a, by have := ho.2.1; omega, by have := ho.2.2; omega⟩
    · refine ⟨at_fine (by split <;> omega), by show 1 ≤ _; omega, ?_⟩
      show 268 ≤ y + 268
      omega
  obtain ⟨a, c, e⟩ := fu_wt G d 0 t f (Int.le_refl _) (Int.le_refl _) h.1
  exact ⟨a, by have := h.2.1; omega, by have := h.2.2; omega⟩
/-! the others -/
theorem set_wt {y : PyData} {W : Nat} (hy : wt y ≤ W) : ∀ {es : List PyData} (i : Nat) {x : PyData}, es[i]? = some x → wtAll (es.set i y) + wt x ≤ wtAll es + W
  | a :: es, 0, x, h => by
    cases h
    show wt y + 2 + wtAll es + wt a ≤ wt a + 2 + wtAll es + W
    omega
  | a :: es, i + 1, x, h => by
    have := set_wt hy (es := es) i h
    show wt a + 2 + wtAll (es.set i y) + wt x ≤ wt a + 2 + wtAll es + W
    omega
  | [], _, _, h => by cases h
theorem ch_wt {o : PyData} : ∀ {q : List Nat} {d : PyData} {n : Int} {r : PyData × Int}, tm d = true → reachD d q n = some r → wt (chD d q o) ≤ wt d + wt o
  | [], d, n, r, t, h => by
    have e : chD d [] o = o := by cases d <;> rfl
    rw [e]
    omega
  | i :: q, d, n, r, t, h => by
    have h : (match (partsD d)[i]? with | some e => reachD e q (n + passD (wdD d) (i : Int)) | none => none) = some r := h
    cases e : (partsD d)[i]? with
    | none =>
      rw [e] at h
      cases h
    | some g =>
      rw [e] at h
      have a := ch_wt (o := o) (tmAll_mem (parts_tm t) (List.mem_of_getElem? e)) h
      obtain ⟨w, ds, rfl⟩ := tm_shape t
      have e1 : (if (parts w).isSome = true then ds else [])[i]? = some g := e
      split at e1
      · have ed : chD (.tuple (.str w :: ds)) (i :: q) o = .tuple (.str w :: ds.set i (chD ((ds[i]?).getD .none) q o)) := rfl
        rw [ed, e1, Option.getD_some]
        have b := set_wt a i e1
        show 220 + 2 + wtAll (ds.set i (chD g q o)) + 4 ≤ 220 + 2 + wtAll ds + 4 + wt o
        omega
      · cases e1
theorem given_bd {h : PyData} : ∀ (ss : List PyData) {a b c : Nat}, Bd a b h → (∀ s ∈ ss, Bd a c s) → Bd (a + ss.length) (b + ss.length * (c + 300)) (givenD h ss)
  | [], a, b, c, bh, _ => bh.mono (Nat.le_refl _) (by simp)
  | s :: ss, a, b, c, bh, bs => by
    have b1 : Bd (a + 1) (b + (c + 300)) (.tuple [.str "app", h, s]) := (Bd.tup (BdAll.cons ((Bd.str (x := "app") (by decide +kernel)).mono (Nat.zero_le _) (Nat.le_refl _)) (BdAll.cons bh (BdAll.one (bs s List.mem_cons_self))))).mono (Nat.le_refl _) (by omega)
    have := given_bd ss b1 fun x hx => (bs x (List.mem_cons_of_mem _ hx)).mono (Nat.le_succ _) (Nat.le_refl _)
    exact this.mono (by rw [List.length_cons]; omega) (by rw [List.length_cons, Nat.succ_mul]; omega)
/-- a term opened -/
theorem opened_is : ∀ (n : Nat) (d : PyData), d.depth ≤ n → tm d = true → ∃ h ss, d = givenD h ss ∧ tm h = true ∧ wdD h ≠ "app" ∧ ss.length ≤ d.depth ∧ h.depth ≤ d.depth ∧ PyData.depthAll ss ≤ d.depth ∧ wt h + wtAll ss ≤ wt d ∧ (fine d = true → fine h = true ∧ fineAll ss = true)
  | 0, d, hd, t => by
    obtain ⟨w, ds, rfl⟩ := tm_shape t
    simp only [PyData.depth] at hd
    omega
  | n + 1, d, hd, t => by
    obtain ⟨w, ds, rfl⟩ := tm_shape t
    by_cases hw : w = "app"
    · subst hw
      have t' := t
      rw [tm_parts (show parts "app" = some 2 by decide +kernel), Bool.and_eq_true] at t'
      have l2 : ds.length = 2 := of_decide_eq_true t'.1
      obtain ⟨f, x, rfl⟩ : ∃ f x, ds = [f, x] := match ds, l2 with | [f, x], _ => ⟨f, x, rfl⟩
      have tf : tm f = true ∧ (tm x && true) = true := by
        have := t'.2
        simpa only [tmAll, Bool.and_eq_true] using this
      have dp : (PyData.tuple [.str "app", f, x]).depth = max 0 (max f.depth (max x.depth 0)) + 1 := rfl
      rw [dp] at hd
      obtain ⟨h, ss, e, th, wh, ln, dh, dss, wts, fin⟩ := opened_is n f (by omega) tf.1
      refine ⟨h, ss ++ [x], ?_, th, wh, ?_, ?_, ?_, ?_, fun fd => ?_⟩
      · rw [givenD_snoc, ← e]
      · rw [List.length_append, List.length_singleton, dp]
        omega
      · rw [dp]
        omega
      · rw [depthAll_append, dp]
        show max _ (max x.depth 0) ≤ _
        omega
      · rw [wtAll_append]
        show wt h + (wtAll ss + (wt x + 2 + 0)) ≤ 220 + 2 + (wt f + 2 + (wt x + 2 + 0)) + 4
        omega
      · have fd : (fine (.str "app") && (fine f && (fine x && true))) = true := fd
        simp only [Bool.and_eq_true] at fd
        obtain ⟨a, b⟩ := fin fd.2.1
        refine ⟨a, ?_⟩
        rw [fineAll_append, b]
        show (true && (fine x && true)) = true
        rw [fd.2.2.1]
        rfl
    · refine ⟨_, [], rfl, t, hw, Nat.zero_le _, Nat.le_refl _, Nat.zero_le _, ?_, fun fd => ⟨fd, rfl⟩⟩
      show _ + 0 ≤ _
      omega
/-- can be shown -/
structure Sh (x : PyData) : Prop where
  s : x.showable = true
  l : x.shown.length ≤ sizeLine
  d : x.depth ≤ 100
theorem sh_of {a b : Nat} {x : PyData} (B : Bd a b x) (ha : a ≤ 100 := by decide) (hb : b ≤ 16000000 := by decide) : Sh x := by
  have sh := shown_le _ B.1
  exact ⟨sh.2, by rw [sizeLine_eq]; have := B.2.2; have := sh.1; omega, Nat.le_trans B.2.1 ha⟩
theorem sh_bool {b : Bool} : Sh (.bool b) := sh_of (a := 0) (b := 5) ⟨rfl, Nat.le_refl _, Nat.le_refl _⟩
theorem sh_none : Sh .none := sh_of (a := 0) (b := 5) ⟨rfl, Nat.le_refl _, Nat.le_refl _⟩
end KP
set_option Elab.async false
set_option linter.unusedVariables false
set_option linter.unusedSectionVars false
set_option maxRecDepth 100000
set_option maxHeartbeats 4000000
namespace KP
open PySem PySem.Spec PyProof.Rows L2 KA OW
/-! ### what goes through a term by its parts -/
abbrev atT (n : Int) : PyData := .tuple [.str "at", .int n]
def homL (Φ : PyData → Int → PyData) : Str → Int → Nat → List PyData → List PyData
  | _, _, _, [] => []
  | w, u, i, d :: ds => Φ d (u + passD w (i : Int)) :: homL Φ w u (i + 1) ds
structure Hom (Φ : PyData → Int → PyData) : Prop where
  node : ∀ (w : Str) (ds : List PyData) (u : Int), (parts w).isSome = true → Φ (.tuple (.str w :: ds)) u = .tuple (.str w :: homL Φ w u 0 ds)
  leaf : ∀ (w : Str) (ds : List PyData) (u : Int), w ≠ "at" → (parts w).isSome = false → Φ (.tuple (.str w :: ds)) u = .tuple (.str w :: ds)
theorem homL_fu (g : Int → Int → PyData) (a : Int) : ∀ (w : Str) (u : Int) (i : Nat) (ds : List PyData), homL (fun d u => fuD g d (u + a)) w u i ds = fuL g w (u + a) i ds
  | _, _, _, [] => rfl
  | w, u, i, d :: ds => by
    show fuD g d (u + passD w (i : Int) + a) :: homL (fun d u => fuD g d (u + a)) w u (i + 1) ds = fuD g d (u + a + passD w (i : Int)) :: fuL g w (u + a) (i + 1) ds
    rw [homL_fu g a w u (i + 1) ds, show u + passD w (i : Int) + a = u + a + passD w (i : Int) by omega]
theorem not_at {w : Str} (h : (parts w).isSome = true) : w ≠ "at" := fun e => by
  rw [e, parted_at] at h
  cases h
theorem Hom.fu (g : Int → Int → PyData) (a : Int) : Hom (fun d u => fuD g d (u + a)) where
  node w ds u h := by
    rw [homL_fu]
    show fuD g (.tuple (.str w :: ds)) (u + a) = _
    rw [fu_not (not_at h), if_pos h]
  leaf w ds u hw h := by
    show fuD g (.tuple (.str w :: ds)) (u + a) = _
    rw [fu_not hw, if_neg (by rw [h]; exact Bool.false_ne_true)]
theorem homL_comp {Φ Ψ : PyData → Int → PyData} : ∀ (w : Str) (u : Int) (i : Nat) (ds : List PyData), homL Ψ w u i (homL Φ w u i ds) = homL (fun d u => Ψ (Φ d u) u) w u i ds
  | _, _, _, [] => rfl
  | w, u, i, d :: ds => by
    show Ψ (Φ d (u + passD w (i : Int))) (u + passD w (i : Int)) :: homL Ψ w u (i + 1) (homL Φ w u (i + 1) ds) = _
    rw [homL_comp w u (i + 1) ds]
    rfl
theorem Hom.comp {Φ Ψ : PyData → Int → PyData} (h : Hom Φ) (g : Hom Ψ) : Hom (fun d u => Ψ (Φ d u) u) where
  node w ds u hw := by
    show Ψ (Φ (.tuple (.str w :: ds)) u) u = _
    rw [h.node w ds u hw, g.node w _ u hw, homL_comp]
  leaf w ds u ha hw := by
    show Ψ (Φ (.tuple (.str w :: ds)) u) u = _
    rw [h.leaf w ds u ha hw, g.leaf w ds u ha hw]
theorem homL_id : ∀ (w : Str) (u : Int) (i : Nat) (ds : List PyData), homL (fun d _ => d) w u i ds = ds
  | _, _, _, [] => rfl
  | w, u, i, d :: ds => congrArg (d :: ·) (homL_id w u (i + 1) ds)
theorem Hom.id : Hom (fun d _ => d) where
  node w ds u _ := by rw [homL_id]
  leaf _ _ _ _ _ := rfl
mutual
theorem hom_eq {Φ Ψ : PyData → Int → PyData} {Q : Int → Int → Prop} (h : Hom Φ) (g : Hom Ψ) {lo : Int} (at_ : ∀ n u, 0 ≤ n → lo ≤ u → Q n u → Φ (atT n) u = Ψ (atT n) u) : ∀ (d : PyData) (p : List Nat) (u : Int), tm d = true → lo ≤ u → (∀ r ∈ wk d p u, ∀ n, r.2.1 = atT n → Q n r.2.2) → Φ d u = Ψ d u
  | .tuple (x :: ds), p, u, t, l, q => by
    obtain ⟨w, ds', e⟩ := tm_shape t
    injection e with e
    injection e with e1 e2
    subst e1 e2
    by_cases hw : w = "at"
    · subst hw
      obtain ⟨n, rfl, n0⟩ := at_shape t
      exact at_ n u n0 l (q (p, _, u) List.mem_cons_self n rfl)
    · by_cases hp : (parts w).isSome = true
      · rw [h.node w ds u hp, g.node w ds u hp]
        have q' : ∀ r ∈ wkL ds w p u 0, ∀ n, r.2.1 = atT n → Q n r.2.2 := fun r hr => q r (by
          show r ∈ (p, PyData.tuple (.str w :: ds), u) :: (if (parts w).isSome = true then wkL ds w p u 0 else [])
          rw [if_pos hp]
          exact List.mem_cons_of_mem _ hr)
        rw [hom_eqL h g at_ ds w p u 0 (tm_dsAll t hp) l q']
      · have hp : (parts w).isSome = false := by simpa using hp
        rw [h.leaf w ds u hw hp, g.leaf w ds u hw hp]
  | .tuple [], _, _, h, _, _ | .none, _, _, h, _, _ | .bool _, _, _, h, _, _ | .int _, _, _, h, _, _ | .str _, _, _, h, _, _ | .list _, _, _, h, _, _ | .dict _, _, _, h, _, _ => by cases h
theorem hom_eqL {Φ Ψ : PyData → Int → PyData} {Q : Int → Int → Prop} (h : Hom Φ) (g : Hom Ψ) {lo : Int} (at_ : ∀ n u, 0 ≤ n → lo ≤ u → Q n u → Φ (atT n) u = Ψ (atT n) u) : ∀ (ds : List PyData) (w : Str) (p : List Nat) (u : Int) (i : Nat), tmAll ds = true → lo ≤ u → (∀ r ∈ wkL ds w p u i, ∀ n, r.2.1 = atT n → Q n r.2.2) → homL Φ w u i ds = homL Ψ w u i ds
  | [], _, _, _, _, _, _, _ => rfl
  | d :: ds, w, p, u, i, t, l, q => by
    have t : tm d = true ∧ tmAll ds = true := by simpa only [tmAll, Bool.and_eq_true] using t
    have pp := pass01 w (i : Int)
    have q : ∀ r ∈ wk d (p ++ [i]) (u + passD w (i : Int)) ++ wkL ds w p u (i + 1), ∀ n, r.2.1 = atT n → Q n r.2.2 := q
    show Φ d (u + passD w (i : Int)) :: homL Φ w u (i + 1) ds = Ψ d (u + passD w (i : Int)) :: homL Ψ w u (i + 1) ds
    rw [hom_eq h g at_ d (p ++ [i]) _ t.1 (by omega) (fun r hr => q r (List.mem_append_left _ hr)), hom_eqL h g at_ ds w p u (i + 1) t.2 l (fun r hr => q r (List.mem_append_right _ hr))]
end
theorem hom_eq1 {Φ Ψ : PyData → Int → PyData} (h : Hom Φ) (g : Hom Ψ) {lo : Int} (at_ : ∀ n u, 0 ≤ n → lo ≤ u → Φ (atT n) u = Ψ (atT n) u) {d : PyData} {u : Int} (t : tm d = true) (l : lo ≤ u) : Φ d u = Ψ d u :=
  hom_eq (Q := fun _ _ => True) h g (fun n u a b _ => at_ n u a b) d [] u t l fun _ _ _ _ => trivial
/-! at a place -/
theorem R_ge {b n u : Int} (h : u ≤ n) : fuD (lawR b) (atT n) u = atT (n + b) := by
  rw [fu_at rfl]
  unfold lawR
  rw [if_pos (decide_eq_true h), Int.mul_one]
theorem R_lt {b n u : Int} (h : n < u) : fuD (lawR b) (atT n) u = atT n := by
  rw [fu_at rfl]
  unfold lawR
  rw [if_neg (by simp; omega), Int.mul_zero, Int.add_zero]
theorem G_eq {o : PyData} {m n u : Int} (to_ : tm o = true) (h : n = m + u) : fuD (lawG o m) (atT n) u = fuD (lawR u) o 0 := by
  rw [fu_at (noneG to_)]
  exact if_pos h
theorem G_gt {o : PyData} {m n u : Int} (to_ : tm o = true) (h : m + u < n) : fuD (lawG o m) (atT n) u = atT (n - 1) := by
  rw [fu_at (noneG to_)]
  unfold lawG
  rw [if_neg (by omega), if_pos (decide_eq_true h)]
theorem G_lt {o : PyData} {m n u : Int} (to_ : tm o = true) (h : n < m + u) : fuD (lawG o m) (atT n) u = atT n := by
  rw [fu_at (noneG to_)]
  unfold lawG
  rw [if_neg (by omega), if_neg (by simp; omega), Int.sub_zero]
/-! raised twice -/
theorem RR {a b s : Int} {d : PyData} (t : tm d = true) (b0 : 0 ≤ b) : fuD (lawR a) (fuD (lawR b) d s) s = fuD (lawR (b + a)) d s := by
  have := hom_eq1 ((Hom.fu (lawR b) 0).comp (Hom.fu (lawR a) 0)) (Hom.fu (lawR (b + a)) 0) (lo := s) (fun n u n0 l => ?_) t (Int.le_refl s)
  · simpa only [Int.add_zero] using this
  · simp only [Int.add_zero]
    by_cases h : u ≤ n
    · rw [R_ge h, R_ge (by omega), R_ge h, Int.add_assoc]
    · rw [R_lt (by omega), R_lt (by omega), R_lt (by omega)]
theorem RR1 {a s : Int} {d : PyData} (t : tm d = true) (a0 : 0 ≤ a) : fuD (lawR a) (fuD (lawR 1) d s) (s + 1) = fuD (lawR 1) (fuD (lawR a) d s) s := by
  have := hom_eq1 ((Hom.fu (lawR 1) 0).comp (Hom.fu (lawR a) 1)) ((Hom.fu (lawR a) 0).comp (Hom.fu (lawR 1) 0)) (lo := s) (fun n u n0 l => ?_) t (Int.le_refl s)
  · simpa only [Int.add_zero] using this
  · simp only [Int.add_zero]
    by_cases h : u ≤ n
    · rw [R_ge h, R_ge (by omega), R_ge h, R_ge (by omega), show n + 1 + a = n + a + 1 by omega]
    · rw [R_lt (by omega), R_lt (by omega), R_lt (by omega), R_lt (by omega)]
theorem RRv {u v w : Int} {d : PyData} (t : tm d = true) (v0 : 0 ≤ v) : fuD (lawR u) (fuD (lawR v) d w) (w + v) = fuD (lawR (v + u)) d w := by
  have := hom_eq1 ((Hom.fu (lawR v) 0).comp (Hom.fu (lawR u) v)) (Hom.fu (lawR (v + u)) 0) (lo := w) (fun n x n0 l => ?_) t (Int.le_refl w)
  · simpa only [Int.add_zero] using this
  · simp only [Int.add_zero]
    by_cases h : x ≤ n
    · rw [R_ge h, R_ge (by omega), R_ge h, Int.add_assoc]
    · rw [R_lt (by omega), R_lt (by omega), R_lt (by omega)]
/-! given what was raised -/
theorem GR {o d : PyData} {m : Int} (t : tm d = true) (to_ : tm o = true) (m0 : 0 ≤ m) : fuD (lawG o m) (fuD (lawR 1) d m) 0 = d := by
  have := hom_eq1 ((Hom.fu (lawR 1) m).comp (Hom.fu (lawG o m) 0)) Hom.id (lo := 0) (fun n u n0 l => ?_) t (Int.le_refl 0)
  · simpa only [Int.add_zero, Int.zero_add] using this
  · simp only [Int.add_zero]
    by_cases h : u + m ≤ n
    · rw [R_ge h, G_gt to_ (by omega), show n + 1 - 1 = n by omega]
    · rw [R_lt (by omega), G_lt to_ (by omega)]
theorem GRu {o d : PyData} {m u v : Int} (t : tm d = true) (to_ : tm o = true) (m0 : 0 ≤ m) (u0 : 0 ≤ u) (v0 : 0 ≤ v) : fuD (lawG o m) (fuD (lawR u) d v) (v + u) = fuD (lawR u) (fuD (lawG o m) d v) v := by
  have := hom_eq1 ((Hom.fu (lawR u) 0).comp (Hom.fu (lawG o m) u)) ((Hom.fu (lawG o m) 0).comp (Hom.fu (lawR u) 0)) (lo := 0) (fun n x n0 l => ?_) t v0
  · simpa only [Int.add_zero] using this
  · simp only [Int.add_zero]
    by_cases h : x ≤ n
    · rw [R_ge h]
      rcases Int.lt_trichotomy n (m + x) with c | c | c
      · rw [G_lt to_ (by omega), G_lt to_ c, R_ge h]
      · rw [G_eq to_ (by omega), G_eq to_ c]
        have := RRv (u := u) (v := x) (w := 0) to_ l
        rw [Int.zero_add] at this
        exact this.symm
      · rw [G_gt to_ (by omega), G_gt to_ c, R_ge (by omega), show n + u - 1 = n - 1 + u by omega]
    · rw [R_lt (by omega), G_lt to_ (by omega), G_lt to_ (by omega), R_lt (by omega)]
theorem GRR {x d : PyData} {u w : Int} (t : tm d = true) (tx : tm x = true) (u0 : 0 ≤ u) : fuD (lawG x 0) (fuD (lawR u) (fuD (lawR 1) d w) w) (w + u) = fuD (lawR u) d w := by
  have := hom_eq1 (((Hom.fu (lawR 1) 0).comp (Hom.fu (lawR u) 0)).comp (Hom.fu (lawG x 0) u)) (Hom.fu (lawR u) 0) (lo := w) (fun n y n0 l => ?_) t (Int.le_refl w)
  · simpa only [Int.add_zero] using this
  · simp only [Int.add_zero]
    by_cases h : y ≤ n
    · rw [R_ge h, R_ge (by omega), R_ge h, G_gt tx (by omega), show n + 1 + u - 1 = n + u by omega]
    · rw [R_lt (by omega), R_lt (by omega), G_lt tx (by omega)]
/-! given one thing and then another -/
theorem GG {d o e : PyData} {m : Int} (t : tm d = true) (to_ : tm o = true) (te : tm e = true) (m0 : 0 ≤ m) (tr : tm (fuD (lawR 1) e 0) = true) (tg : tm (fuD (lawG e m) o 0) = true) :
    fuD (lawG e m) (fuD (lawG o 0) d 0) 0 = fuD (lawG (fuD (lawG e m) o 0) 0) (fuD (lawG (fuD (lawR 1) e 0) (m + 1)) d 0) 0 := by
  have := hom_eq1 ((Hom.fu (lawG o 0) 0).comp (Hom.fu (lawG e m) 0)) ((Hom.fu (lawG (fuD (lawR 1) e 0) (m + 1)) 0).comp (Hom.fu (lawG (fuD (lawG e m) o 0) 0) 0)) (lo := 0) (fun n u n0 l => ?_) t (Int.le_refl 0)
  · simpa only [Int.add_zero] using this
  · simp only [Int.add_zero]
    rcases Int.lt_trichotomy n u with c | c | c
    · rw [G_lt to_ (by omega), G_lt te (by omega), G_lt tr (by omega), G_lt tg (by omega)]
    · subst c
      rw [G_eq to_ (by omega), G_lt tr (by omega), G_eq tg (by omega)]
      have := GRu (d := o) (o := e) (m := m) (u := n) (v := 0) to_ te m0 l (Int.le_refl 0)
      rw [Int.zero_add] at this
      exact this
    · rw [G_gt to_ (by omega)]
      rcases Int.lt_trichotomy (n - 1) (m + u) with c2 | c2 | c2
      · rw [G_lt te c2, G_lt tr (by omega), G_gt tg (by omega)]
      · rw [G_eq te c2, G_eq tr (by omega)]
        have := GRR (x := fuD (lawG e m) o 0) (d := e) (u := u) (w := 0) te tg l
        rw [Int.zero_add] at this
        exact this.symm
      · rw [G_gt te c2, G_gt tr (by omega), G_gt tg (by omega)]
/-! lowered: 0 is not free -/
theorem key_at {p : List Nat} {n u : Int} : keyOf (p, atT n, u) = if u ≤ n then some (n - u) else none := by
  show (if ("at" : Str) = "at" ∧ u ≤ n then some (n - u) else none) = _
  by_cases h : u ≤ n
  · rw [if_pos ⟨rfl, h⟩, if_pos h]
  · rw [if_neg fun z => h z.2, if_neg h]
theorem no0 {d : PyData} {p : List Nat} {u : Int} (h : ∀ r ∈ wk d p u, keyOf r ≠ some 0) : ∀ r ∈ wk d p u, ∀ n, r.2.1 = atT n → n ≠ r.2.2 := fun r hr n e c => by
  obtain ⟨p', g, u'⟩ := r
  have e : g = atT n := e
  have c : n = u' := c
  subst e c
  refine h _ hr ?_
  rw [key_at, if_pos (Int.le_refl n), Int.sub_self]
theorem LR {d : PyData} (t : tm d = true) (h : ∀ r ∈ wk d [] 0, keyOf r ≠ some 0) : fuD (lawR 1) (fuD (lawR (-1)) d 0) 0 = d := by
  have := hom_eq (Q := fun n u => n ≠ u) ((Hom.fu (lawR (-1)) 0).comp (Hom.fu (lawR 1) 0)) Hom.id (lo := 0) (fun n u n0 l q => ?_) d [] 0 t (Int.le_refl 0) (no0 h)
  · simpa only [Int.add_zero] using this
  · simp only [Int.add_zero]
    by_cases h : u ≤ n
    · rw [R_ge h, R_ge (by omega), show n + -1 + 1 = n by omega]
    · rw [R_lt (by omega), R_lt (by omega)]
theorem LG {d o : PyData} (t : tm d = true) (to_ : tm o = true) (h : ∀ r ∈ wk d [] 0, keyOf r ≠ some 0) : fuD (lawG o 0) d 0 = fuD (lawR (-1)) d 0 := by
  have := hom_eq (Q := fun n u => n ≠ u) (Hom.fu (lawG o 0) 0) (Hom.fu (lawR (-1)) 0) (lo := 0) (fun n u n0 l q => ?_) d [] 0 t (Int.le_refl 0) (no0 h)
  · simpa only [Int.add_zero] using this
  · simp only [Int.add_zero]
    by_cases h : u ≤ n
    · rw [R_ge h, G_gt to_ (by omega), show n - 1 = n + -1 by omega]
    · rw [R_lt (by omega), G_lt to_ (by omega)]
end KP
set_option Elab.async false
set_option linter.unusedVariables false
set_option linter.unusedSectionVars false
set_option maxRecDepth 100000
set_option maxHeartbeats 4000000
namespace KP
open PySem PySem.Spec PyProof.Rows L2 KA OW
/-! ### rows of what is raised -/
mutual
theorem wk_hom {Φ : PyData → Int → PyData} (h : Hom Φ) (at_ : ∀ n u, ∃ k, Φ (atT n) u = atT k) : ∀ (d : PyData) (p : List Nat) (u : Int), tm d = true → wk (Φ d u) p u = (wk d p u).map fun r => (r.1, Φ r.2.1 r.2.2, r.2.2)
  | .tuple (x :: ds), p, u, t => by
    obtain ⟨w, ds', e⟩ := tm_shape t
    injection e with e
    injection e with e1 e2
    subst e1 e2
    by_cases hp : (parts w).isSome = true
    · have e1 : wk (.tuple (.str w :: ds)) p u = (p, PyData.tuple (.str w :: ds), u) :: wkL ds w p u 0 := by
        show (p, PyData.tuple (.str w :: ds), u) :: (if (parts w).isSome = true then wkL ds w p u 0 else []) = _
        rw [if_pos hp]
      have e2 : wk (.tuple (.str w :: homL Φ w u 0 ds)) p u = (p, PyData.tuple (.str w :: homL Φ w u 0 ds), u) :: wkL (homL Φ w u 0 ds) w p u 0 := by
        show (p, PyData.tuple (.str w :: homL Φ w u 0 ds), u) :: (if (parts w).isSome = true then wkL (homL Φ w u 0 ds) w p u 0 else []) = _
        rw [if_pos hp]
      rw [h.node w ds u hp, e1, e2, wkL_hom h at_ ds w p u 0 (tm_dsAll t hp), List.map_cons]
      show _ = (p, Φ (.tuple (.str w :: ds)) u, u) :: _
      rw [h.node w ds u hp]
    · have hp : (parts w).isSome = false := by simpa using hp
      have one : ∀ es : List PyData, wk (.tuple (.str w :: es)) p u = [(p, PyData.tuple (.str w :: es), u)] := fun es => by
        show (p, PyData.tuple (.str w :: es), u) :: (if (parts w).isSome = true then wkL es w p u 0 else []) = _
        rw [if_neg (by rw [hp]; exact Bool.false_ne_true)]
      by_cases hw : w = "at"
      · subst hw
        obtain ⟨n, rfl, n0⟩ := at_shape t
        obtain ⟨k, ek⟩ := at_ n u
        rw [one]
        show wk (Φ (atT n) u) p u = [(p, Φ (atT n) u, u)]
        rw [ek]
        exact one _
      · rw [h.leaf w ds u hw hp, one]
        show _ = [(p, Φ (.tuple (.str w :: ds)) u, u)]
        rw [h.leaf w ds u hw hp]
  | .tuple [], _, _, h | .none, _, _, h | .bool _, _, _, h | .int _, _, _, h | .str _, _, _, h | .list _, _, _, h | .dict _, _, _, h => by cases h
theorem wkL_hom {Φ : PyData → Int → PyData} (h : Hom Φ) (at_ : ∀ n u, ∃ k, Φ (atT n) u = atT k) : ∀ (ds : List PyData) (w : Str) (p : List Nat) (u : Int) (i : Nat), tmAll ds = true → wkL (homL Φ w u i ds) w p u i = (wkL ds w p u i).map fun r => (r.1, Φ r.2.1 r.2.2, r.2.2)
  | [], _, _, _, _, _ => rfl
  | d :: ds, w, p, u, i, t => by
    have t : tm d = true ∧ tmAll ds = true := by simpa only [tmAll, Bool.and_eq_true] using t
    show wk (Φ d (u + passD w (i : Int))) (p ++ [i]) (u + passD w (i : Int)) ++ wkL (homL Φ w u (i + 1) ds) w p u (i + 1) = (wk d (p ++ [i]) (u + passD w (i : Int)) ++ wkL ds w p u (i + 1)).map _
    rw [wk_hom h at_ d _ _ t.1, wkL_hom h at_ ds w p u (i + 1) t.2, List.map_append]
end
theorem R_at {b n u : Int} : ∃ k, fuD (lawR b) (atT n) u = atT k := by
  by_cases h : u ≤ n
  · exact ⟨_, R_ge h⟩
  · exact ⟨_, R_lt (by omega)⟩
theorem wk_raise {b s : Int} {d : PyData} (t : tm d = true) : wk (fuD (lawR b) d s) [] 0 = (wk d [] 0).map fun r => (r.1, fuD (lawR b) r.2.1 (r.2.2 + s), r.2.2) := by
  have := wk_hom (Hom.fu (lawR b) s) (fun n u => R_at) d [] 0 t
  simpa only [Int.zero_add] using this
theorem spots_raise {b s : Int} {d : PyData} (t : tm d = true) : (wk (fuD (lawR b) d s) [] 0).map rowS = (wk d [] 0).map rowS := by
  rw [wk_raise t, List.map_map]
  rfl
theorem size_raise {b s : Int} {d : PyData} (t : tm d = true) : (wk (fuD (lawR b) d s) [] 0).length = (wk d [] 0).length := by
  rw [wk_raise t, List.length_map]
/-! free places of what is raised -/
def shF (b s p : Int) : Int := p + b * (if decide (s ≤ p) = true then 1 else 0)
theorem shF_inj {b s : Int} (b0 : 0 ≤ b) {p q : Int} (h : shF b s p = shF b s q) : p = q := by
  unfold shF at h
  by_cases h1 : s ≤ p <;> by_cases h2 : s ≤ q <;> simp only [h1, h2, decide_true, decide_false, if_true, Bool.false_eq_true, if_false, Int.mul_one, Int.mul_zero] at h <;> omega
theorem shF_mono {b s : Int} (b0 : 0 ≤ b) {p q : Int} (h : p ≤ q) : shF b s p ≤ shF b s q := by
  unfold shF
  by_cases h1 : s ≤ p <;> by_cases h2 : s ≤ q <;> simp only [h1, h2, decide_true, decide_false, if_true, Bool.false_eq_true, if_false, Int.mul_one, Int.mul_zero] <;> omega
theorem key_raise {b s : Int} {p : List Nat} {d : PyData} {u : Int} (t : tm d = true) (s0 : 0 ≤ s) : keyOf (p, fuD (lawR b) d (u + s), u) = (keyOf (p, d, u)).map (shF b s) ∨ ∃ n, d = atT n ∧ n + b < u ∧ u + s ≤ n := by
  obtain ⟨w, ds, rfl⟩ := tm_shape t
  by_cases hw : w = "at"
  · subst hw
    obtain ⟨n, rfl, n0⟩ := at_shape t
    rw [key_at]
    by_cases h : u + s ≤ n
    · rw [R_ge h, key_at, if_pos (by omega : u ≤ n)]
      by_cases c : u ≤ n + b
      · left
        rw [if_pos c]
        show some (n + b - u) = some (shF b s (n - u))
        unfold shF
        rw [if_pos (decide_eq_true (by omega)), Int.mul_one, show n + b - u = n - u + b by omega]
      · exact Or.inr ⟨n, rfl, by omega, h⟩
    · left
      rw [R_lt (by omega), key_at]
      by_cases c : u ≤ n
      · rw [if_pos c]
        show some (n - u) = some (shF b s (n - u))
        unfold shF
        rw [if_neg (by simp; omega), Int.mul_zero, Int.add_zero]
      · rw [if_neg c]
        rfl
  · left
    have no : ∀ es : List PyData, keyOf (p, PyData.tuple (.str w :: es), u) = none := fun es => by
      unfold keyOf
      split
      · rename_i e
        injection e with e
        injection e with e1 e2
        injection e1 with e1
        subst e1
        exact if_neg fun z => hw z.1
      · rfl
    rw [no ds]
    have h := Hom.fu (lawR b) 0
    by_cases hp : (parts w).isSome = true
    · have := h.node w ds (u + s) hp
      simp only [Int.add_zero] at this
      rw [this, no]
      rfl
    · have := h.leaf w ds (u + s) hw (by simpa using hp)
      simp only [Int.add_zero] at this
      rw [this, no]
      rfl
theorem fold_map {b s : Int} (b0 : 0 ≤ b) {g : Row3 → Row3} : ∀ (rs : List Row3) (ks : List Int), (∀ r ∈ rs, keyOf (g r) = (keyOf r).map (shF b s)) → (rs.map g).foldl stepI (ks.map (shF b s)) = (rs.foldl stepI ks).map (shF b s)
  | [], ks, _ => rfl
  | r :: rs, ks, h => by
    rw [List.map_cons, List.foldl_cons, List.foldl_cons, ← fold_map b0 rs (stepI ks r) fun r' m => h r' (List.mem_cons_of_mem _ m)]
    congr 1
    have e := h r List.mem_cons_self
    unfold stepI
    rw [e]
    cases keyOf r with
    | none => rfl
    | some z =>
      show putI (ks.map (shF b s)) (shF b s z) = (putI ks z).map (shF b s)
      unfold putI
      by_cases c : z ∈ ks
      · rw [if_pos c, if_pos (List.mem_map_of_mem c)]
      · rw [if_neg c, if_neg (fun q => by
          obtain ⟨y, hy, ey⟩ := List.mem_map.mp q
          exact c (shF_inj b0 ey ▸ hy)), List.map_append]
        rfl
theorem keys_raise {b s : Int} {d : PyData} (t : tm d = true) (b0 : 0 ≤ b) (s0 : 0 ≤ s) : keysF (wk (fuD (lawR b) d s) [] 0) = (keysF (wk d [] 0)).map (shF b s) := by
  rw [wk_raise t]
  unfold keysF
  have := fold_map (b := b) (s := s) b0 (g := fun r => (r.1, fuD (lawR b) r.2.1 (r.2.2 + s), r.2.2)) (wk d [] 0) [] fun r m => by
    obtain ⟨p, e, u⟩ := r
    rcases key_raise (b := b) (s := s) (p := p) (u := u) (wk_tm d [] 0 t _ m) s0 with h | ⟨n, _, h1, h2⟩
    · exact h
    · omega
  exact this
theorem free_raise {b s : Int} {d : PyData} (t : tm d = true) (b0 : 0 ≤ b) (s0 : 0 ≤ s) : freeD (fuD (lawR b) d s) = (freeD d).map (shF b s) := by
  unfold freeD
  rw [keys_raise t b0 s0]
  symm
  refine sorted_is _ ((List.mergeSort_perm _ _).map _) ?_
  have srt := List.pairwise_mergeSort (le := fun a b : Int => decide (a ≤ b)) (fun a b c h1 h2 => by simp only [decide_eq_true_eq] at *; omega) (fun a b => by simp only [Bool.or_eq_true, decide_eq_true_eq]; omega) (keysF (wk d [] 0))
  rw [List.pairwise_map]
  exact srt.imp fun h => shF_mono b0 (of_decide_eq_true h)
/-! 0 among the free places -/
theorem fold_in : ∀ (rs : List Row3) (ks : List Int), (∀ z ∈ ks, z ∈ rs.foldl stepI ks) ∧ ∀ r ∈ rs, ∀ z, keyOf r = some z → z ∈ rs.foldl stepI ks
  | [], ks => ⟨fun z h => h, fun r h => by cases h⟩
  | r :: rs, ks => by
    obtain ⟨h1, h2⟩ := fold_in rs (stepI ks r)
    have sub : ∀ z ∈ ks, z ∈ stepI ks r := fun z hz => by
      unfold stepI
      split
      · unfold putI
        split
        · exact hz
        · exact List.mem_append_left _ hz
      · exact hz
    refine ⟨fun z hz => h1 z (sub z hz), fun r' m z e => ?_⟩
    rcases List.mem_cons.mp m with rfl | m
    · refine h1 z ?_
      unfold stepI
      rw [e]
      show z ∈ putI ks z
      unfold putI
      split
      · assumption
      · exact List.mem_append_right _ List.mem_cons_self
    · exact h2 r' m z e
theorem free0 {d : PyData} (h : ¬ (freeD d).any (fun b => b == 0) = true) : ∀ r ∈ wk d [] 0, keyOf r ≠ some 0 := fun r m e => h (by
  have := (fold_in (wk d [] 0) []).2 r m 0 e
  rw [List.any_eq_true]
  refine ⟨0, ?_, rfl⟩
  exact (List.mergeSort_perm _ _).mem_iff.mpr this)
/-! a part put otherwise -/
theorem ch_self : ∀ {q : List Nat} {d : PyData} {n : Int} {r : PyData × Int}, tm d = true → reachD d q n = some r → chD d q r.1 = d
  | [], d, n, r, t, h => by
    cases h
    cases d <;> rfl
  | i :: q, d, n, r, t, h => by
    have h : (match (partsD d)[i]? with | some e => reachD e q (n + passD (wdD d) (i : Int)) | none => none) = some r := h
    cases e : (partsD d)[i]? with
    | none =>
      rw [e] at h
      cases h
    | some g =>
      rw [e] at h
      have ih := ch_self (tmAll_mem (parts_tm t) (List.mem_of_getElem? e)) h
      obtain ⟨w, ds, rfl⟩ := tm_shape t
      have e1 : (if (parts w).isSome = true then ds else [])[i]? = some g := e
      split at e1
      · have ed : chD (.tuple (.str w :: ds)) (i :: q) r.1 = .tuple (.str w :: ds.set i (chD ((ds[i]?).getD .none) q r.1)) := rfl
        rw [ed, e1, Option.getD_some, ih]
        obtain ⟨lt, eg⟩ := List.getElem?_eq_some_iff.mp e1
        rw [← eg, List.set_getElem_self]
      · cases e1
theorem tmAll_set {y : PyData} (ty : tm y = true) : ∀ {ds : List PyData} (i : Nat), tmAll ds = true → tmAll (ds.set i y) = true
  | [], _, h => h
  | d :: ds, 0, h => by
    have h : tm d = true ∧ tmAll ds = true := by simpa only [tmAll, Bool.and_eq_true] using h
    simp only [List.set, tmAll, ty, h.2, Bool.and_self]
  | d :: ds, i + 1, h => by
    have h : tm d = true ∧ tmAll ds = true := by simpa only [tmAll, Bool.and_eq_true] using h
    simp only [List.set, tmAll, h.1, tmAll_set ty i h.2, Bool.and_self]
theorem ch_facts {o : PyData} (to_ : tm o = true) : ∀ {q : List Nat} {d : PyData} {n : Int} {r : PyData × Int}, tm d = true → reachD d q n = some r → tm (chD d q o) = true ∧ reachD (chD d q o) q n = some (o, r.2)
  | [], d, n, r, t, h => by
    cases h
    have e : chD d [] o = o := by cases d <;> rfl
    rw [e]
    exact ⟨to_, rfl⟩
  | i :: q, d, n, r, t, h => by
    have h : (match (partsD d)[i]? with | some e => reachD e q (n + passD (wdD d) (i : Int)) | none => none) = some r := h
    cases e : (partsD d)[i]? with
    | none =>
      rw [e] at h
      cases h
    | some g =>
      rw [e] at h
      obtain ⟨a, b⟩ := ch_facts to_ (tmAll_mem (parts_tm t) (List.mem_of_getElem? e)) h
      obtain ⟨w, ds, rfl⟩ := tm_shape t
      have e1 : (if (parts w).isSome = true then ds else [])[i]? = some g := e
      split at e1
      · rename_i hp
        have ed : chD (.tuple (.str w :: ds)) (i :: q) o = .tuple (.str w :: ds.set i (chD ((ds[i]?).getD .none) q o)) := rfl
        rw [e1, Option.getD_some] at ed
        rw [ed]
        obtain ⟨k, hk⟩ := Option.isSome_iff_exists.mp hp
        refine ⟨?_, ?_⟩
        · rw [tm_parts hk] at t ⊢
          simp only [Bool.and_eq_true, decide_eq_true_eq] at t ⊢
          exact ⟨by rw [List.length_set]; exact t.1, tmAll_set a i t.2⟩
        · show (match (if (parts w).isSome = true then ds.set i (chD g q o) else [])[i]? with | some e => reachD e q (n + passD w (i : Int)) | none => none) = _
          rw [if_pos hp, List.getElem?_set_self (List.getElem?_eq_some_iff.mp e1).1]
          exact b
      · cases e1
/-! how many parts -/
mutual
theorem cnt_any : ∀ (d : PyData) (p p' : List Nat) (u u' : Int), (wk d p u).length = (wk d p' u').length
  | .tuple (.str w :: ds), p, p', u, u' => by
    show ((p, PyData.tuple (.str w :: ds), u) :: (if (parts w).isSome = true then wkL ds w p u 0 else [])).length = ((p', PyData.tuple (.str w :: ds), u') :: (if (parts w).isSome = true then wkL ds w p' u' 0 else [])).length
    split
    · rw [List.length_cons, List.length_cons, cnt_anyL ds w p p' u u' 0]
    · rfl
  | .tuple [], _, _, _, _ | .none, _, _, _, _ | .bool _, _, _, _, _ | .int _, _, _, _, _ | .str _, _, _, _, _ | .list _, _, _, _, _ | .dict _, _, _, _, _ => by simp only [wk, List.length_cons, List.length_nil]
  | .tuple (.none :: _), _, _, _, _ | .tuple (.bool _ :: _), _, _, _, _ | .tuple (.int _ :: _), _, _, _, _ | .tuple (.list _ :: _), _, _, _, _ | .tuple (.tuple _ :: _), _, _, _, _ | .tuple (.dict _ :: _), _, _, _, _ => by simp only [wk, List.length_cons, List.length_nil]
theorem cnt_anyL : ∀ (ds : List PyData) (w : Str) (p p' : List Nat) (u u' : Int) (i : Nat), (wkL ds w p u i).length = (wkL ds w p' u' i).length
  | [], _, _, _, _, _, _ => rfl
  | d :: ds, w, p, p', u, u', i => by
    show (wk d (p ++ [i]) (u + passD w (i : Int)) ++ wkL ds w p u (i + 1)).length = (wk d (p' ++ [i]) (u' + passD w (i : Int)) ++ wkL ds w p' u' (i + 1)).length
    rw [List.length_append, List.length_append, cnt_any d (p ++ [i]) (p' ++ [i]) _ (u' + passD w (i : Int)), cnt_anyL ds w p p' u u' (i + 1)]
end
def cntD (d : PyData) : Nat := (wk d [] 0).length
def cntS (ds : List PyData) : Nat := (ds.map cntD).sum
theorem cnt_L : ∀ (ds : List PyData) (w : Str) (p : List Nat) (u : Int) (i : Nat), (wkL ds w p u i).length = cntS ds
  | [], _, _, _, _ => rfl
  | d :: ds, w, p, u, i => by
    show (wk d (p ++ [i]) (u + passD w (i : Int)) ++ wkL ds w p u (i + 1)).length = ((d :: ds).map cntD).sum
    rw [List.length_append, cnt_L ds w p u (i + 1), List.map_cons, List.sum_cons, cnt_any d _ [] _ 0]
    rfl
theorem cnt_node {w : Str} {ds : List PyData} (h : (parts w).isSome = true) : cntD (.tuple (.str w :: ds)) = cntS ds + 1 := by
  show ((([] : List Nat), PyData.tuple (.str w :: ds), (0 : Int)) :: (if (parts w).isSome = true then wkL ds w [] 0 0 else [])).length = _
  rw [if_pos h, List.length_cons, cnt_L]
theorem cntS_set {y : PyData} : ∀ {ds : List PyData} (i : Nat) {x : PyData}, ds[i]? = some x → cntS (ds.set i y) + cntD x = cntS ds + cntD y
  | a :: ds, 0, x, h => by
    cases h
    show ((y :: ds).map cntD).sum + cntD a = ((a :: ds).map cntD).sum + cntD y
    rw [List.map_cons, List.map_cons, List.sum_cons, List.sum_cons]
    omega
  | a :: ds, i + 1, x, h => by
    have ih := cntS_set (y := y) (ds := ds) i h
    unfold cntS at ih
    show ((a :: ds.set i y).map cntD).sum + cntD x = ((a :: ds).map cntD).sum + cntD y
    rw [List.map_cons, List.map_cons, List.sum_cons, List.sum_cons]
    omega
  | [], _, _, h => by cases h
theorem cnt_ch {o : PyData} : ∀ {q : List Nat} {d : PyData} {n : Int} {r : PyData × Int}, tm d = true → reachD d q n = some r → cntD (chD d q o) + cntD r.1 = cntD d + cntD o
  | [], d, n, r, t, h => by
    cases h
    have e : chD d [] o = o := by cases d <;> rfl
    rw [e, Nat.add_comm]
  | i :: q, d, n, r, t, h => by
    have h : (match (partsD d)[i]? with | some e => reachD e q (n + passD (wdD d) (i : Int)) | none => none) = some r := h
    cases e : (partsD d)[i]? with
    | none =>
      rw [e] at h
      cases h
    | some g =>
      rw [e] at h
      have ih := cnt_ch (o := o) (tmAll_mem (parts_tm t) (List.mem_of_getElem? e)) h
      obtain ⟨w, ds, rfl⟩ := tm_shape t
      have e1 : (if (parts w).isSome = true then ds else [])[i]? = some g := e
      split at e1
      · rename_i hp
        have ed : chD (.tuple (.str w :: ds)) (i :: q) o = .tuple (.str w :: ds.set i (chD ((ds[i]?).getD .none) q o)) := rfl
        rw [e1, Option.getD_some] at ed
        rw [ed, cnt_node hp, cnt_node hp]
        have := cntS_set (y := chD g q o) i e1
        omega
      · cases e1
end KP
set_option Elab.async false
set_option linter.unusedVariables false
set_option linter.unusedSectionVars false
set_option maxRecDepth 100000
set_option maxHeartbeats 4000000
namespace KP
open PySem PySem.Spec PyProof.Rows L2 KA OW
/-! ### how large: by nodes -/
theorem leaf_nodes {w : Str} : ∀ {ds : List PyData}, leafB w ds = true → 56 * nodesAll ds ≤ wtAll ds + 114
  | [x], h => by
    have h : (if w = "at" then cntB 0 x else if w = "kind" then wholeB 0 5 x else (decide (w = "name") || decide (w = "thing")) && nameB x) = true := h
    have n1 : nodes x = 1 := by
      cases x with
      | tuple ds =>
        split at h
        · cases h
        · split at h
          · cases h
          · have := (Bool.and_eq_true_iff.mp h).2
            cases this
      | _ => rfl
    show 56 * (nodes x + 0) ≤ _
    omega
  | [x, y], h => by
    have h : (nameB x && (if w = "maker" then cntB 0 y else decide (w = "eater") && wholeB 0 5 y)) = true := h
    obtain ⟨h1, h2⟩ := Bool.and_eq_true_iff.mp h
    have n1 : nodes x = 1 := by
      cases x with
      | tuple ds => cases h1
      | _ => rfl
    have n2 : nodes y = 1 := by
      cases y with
      | tuple ds =>
        split at h2
        · cases h2
        · have := (Bool.and_eq_true_iff.mp h2).2
          cases this
      | _ => rfl
    show 56 * (nodes x + (nodes y + 0)) ≤ _
    omega
  | [], _ => Nat.zero_le _
  | _ :: _ :: _ :: _, h => by cases h
mutual
theorem nodes_tm : ∀ d : PyData, tm d = true → 56 * nodes d ≤ wt d
  | .tuple (x :: ds), t => by
    obtain ⟨w, ds', e⟩ := tm_shape t
    injection e with e
    injection e with e1 e2
    subst e1 e2
    show 56 * (1 + nodesAll ds + 1) ≤ 220 + 2 + wtAll ds + 4
    cases hp : parts w with
    | none =>
      have := leaf_nodes (tm_leaf hp ▸ t)
      omega
    | some n =>
      have := nodesAll_tm ds (tm_dsAll t (by rw [hp]; rfl))
      omega
  | .tuple [], h | .none, h | .bool _, h | .int _, h | .str _, h | .list _, h | .dict _, h => by cases h
theorem nodesAll_tm : ∀ ds : List PyData, tmAll ds = true → 56 * nodesAll ds ≤ wtAll ds
  | [], _ => Nat.le_refl _
  | d :: ds, t => by
    have t : tm d = true ∧ tmAll ds = true := by simpa only [tmAll, Bool.and_eq_true] using t
    have h1 := nodes_tm d t.1
    have h2 := nodesAll_tm ds t.2
    show 56 * (nodes d + nodesAll ds) ≤ wt d + 2 + wtAll ds
    omega
end
/-- a term under bounds -/
structure LU (B : Int) (k z : Nat) (d : PyData) : Prop where
  t : tm d = true
  f : fk B d = true
  b : Bd k z d
theorem LU.sh {B : Int} {k z : Nat} {d : PyData} (h : LU B k z d) (hk : k ≤ 64 := by decide) : SeqAt.shaped d = true := shaped_flat (tm_flat _ h.t) h.b.1 (Nat.le_trans h.b.2.1 hk)
theorem LU.nd {B : Int} {k z : Nat} {d : PyData} (h : LU B k z d) (hz : z ≤ 50000000 := by decide) : nodes d ≤ 900000 := by
  have := nodes_tm d h.t
  have := h.b.2.2
  omega
theorem LU.raise {B c : Int} {k z : Nat} {d : PyData} {b s : Int} (h : LU B k z d) (b0 : 0 ≤ b) (b1 : b ≤ c) (c1 : c ≤ 1000 := by decide) (hB : B ≤ 10 ^ 30 := by decide) : LU (B + c) k z (fuD (lawR b) d s) := by
  have R := fu_good (goodR (B := B) b0 s (s + (d.depth : Int))) d s h.t h.f (Int.le_refl _) (Int.le_refl _)
  have W := fu_wt (goodWR (b := b) (B := B) s (s + (d.depth : Int)) (by omega) hB) d s h.t h.f (Int.le_refl _) (Int.le_refl _) h.b.1
  exact ⟨R.1, fk_mono (by omega) _ R.2.1, W.1, by have := h.b.2.1; omega, by have := h.b.2.2; omega⟩
theorem LU.gave {B : Int} {k z j x y : Nat} {d o : PyData} {m : Int} (h : LU B k z d) (l : lv d ≤ y) (ho : LU B j x o) (m0 : 0 ≤ m) (hk : k ≤ 1000 := by decide) (hB : B ≤ 10 ^ 29 := by decide) : LU (B + k) (k + j) (z + y * x) (fuD (lawG o m) d 0) := by
  have bd := give_bd (m := m) h.t h.f h.b ho.t ho.f ho.b m0 hk hB
  rw [give_law h.t ho.t] at bd
  have ly : lv d * x ≤ y * x := Nat.mul_le_mul_right _ l
  rcases goodGv (B := B) ho.t ho.f m0 (d.depth : Int) with G | G
  · have R := fu_good G d 0 h.t h.f (Int.le_refl _) (by omega)
    exact ⟨R.1, fk_mono (by have := h.b.2.1; omega) _ R.2.1, bd.1, bd.2.1, by have := bd.2.2; omega⟩
  · omega
theorem LU.mono {B B' : Int} {k z : Nat} {d : PyData} (h : LU B k z d) (hB : B ≤ B') : LU B' k z d := ⟨h.t, fk_mono hB _ h.f, h.b⟩
theorem LU.ok {B : Int} {k z : Nat} {d : PyData} (h : LU B k z d) (hz : z ≤ 50000000 := by decide) : okT d := ok_of9 h.b.1 (h.nd hz)
theorem LU.k64 {B : Nat} {k z : Nat} {d : PyData} (h : LU (B : Int) k z d) (hB : B ≤ 60 := by decide) : (keysF (wk d [] 0)).length < 64 := by
  have := (keys_few h.t h.f h.b.1).1
  omega
/-! the defs, as the law has them -/
theorem tR {B : Int} {k z : Nat} {d : PyData} {b s : Int} (h : LU B k z d) (b0 : 0 ≤ b) (b1 : b ≤ 999) (s0 : 0 ≤ s) (s1 : s ≤ 999) (hz : z ≤ 50000000 := by decide) : tRaisedY [.d d, .d (.int b), .d (.int s)] fun r => r = .d (fuD (lawR b) d s) :=
  ⟨d, b, s, rfl, h.t, h.b.1, h.nd hz, b0, b1, s0, s1, by rw [raise_law h.t]⟩
theorem tG {B B' : Int} {k z j x : Nat} {d o : PyData} {m : Int} (h : LU B k z d) (ho : LU B' j x o) (m0 : 0 ≤ m) (m1 : m ≤ 999) (hz : z ≤ 50000000 := by decide) (hx : x ≤ 50000000 := by decide) : tGivingY [.d d, .d o, .d (.int m)] fun r => r = .d (fuD (lawG o m) d 0) :=
  ⟨d, o, m, rfl, h.t, h.b.1, h.nd hz, ho.t, ho.b.1, ho.nd hx, m0, m1, by rw [give_law h.t ho.t]⟩
theorem ar_10 : ∀ W, ArAll W [V.int 1, V.int 0] [.d (.int 1), .d (.int 0)] := fun W => ⟨Dn.int _, Dn.int _, trivial⟩
theorem ar_0 : ∀ W, ArAll W [V.int 0] [.d (.int 0)] := fun W => ⟨Dn.int _, trivial⟩
theorem ints_flat : ∀ q : List Nat, flatAll (q.map fun i : Nat => PyData.int (i : Int)) = true
  | [] => rfl
  | i :: q => by
    show (true && flatAll (q.map fun i : Nat => PyData.int (i : Int))) = true
    rw [ints_flat q]
    rfl
/-- a list of spots can be compared -/
theorem spots_sh {d : PyData} {k z : Nat} {B : Int} (h : LU B k z d) (hk : k ≤ 63 := by decide) : SeqAt.shaped (.list ((wk d [] 0).map rowS)) = true := by
  have all : ∀ y ∈ (wk d [] 0).map rowS, flatD y = true ∧ fine y = true ∧ y.depth ≤ 1 := fun y hy => by
    obtain ⟨x, hx, rfl⟩ := List.mem_map.mp hy
    obtain ⟨q', e1, e2⟩ := wk_reach d [] 0 h.t x hx
    have e1 : x.1 = q' := e1
    obtain ⟨_, lq', q3', _, _⟩ := reach_facts h.t e2
    have b := Bd.tup (spot_bd (Nat.le_refl _) q3')
    show flatD (spotT x.1) = true ∧ fine (spotT x.1) = true ∧ (spotT x.1).depth ≤ 1
    rw [e1]
    refine ⟨?_, b.1, b.2.1⟩
    show flatAll (q'.map fun i : Nat => PyData.int (i : Int)) = true
    exact ints_flat q'
  have fl : ∀ {ds : List PyData}, (∀ y ∈ ds, flatD y = true ∧ fine y = true ∧ y.depth ≤ 1) → flatAll ds = true ∧ fineAll ds = true ∧ PyData.depthAll ds ≤ 1 := fun {ds} => by
    induction ds with
    | nil => exact fun _ => ⟨rfl, rfl, Nat.zero_le _⟩
    | cons d ds ih =>
      intro h
      have a := h d List.mem_cons_self
      have b := ih fun y hy => h y (List.mem_cons_of_mem _ hy)
      refine ⟨by simp only [flatAll, a.1, b.1, Bool.and_self], by simp only [fineAll, a.2.1, b.2.1, Bool.and_self], ?_⟩
      show max d.depth (PyData.depthAll ds) ≤ 1
      omega
  obtain ⟨a, b, c⟩ := fl all
  exact shaped_list a b (by omega)
theorem ints_sh : ∀ zs : List Int, SeqAt.shaped (.list (zs.map .int)) = true := fun zs => by
  have a : flatAll (zs.map PyData.int) = true := by
    induction zs with
    | nil => rfl
    | cons z zs ih => simp only [List.map_cons, flatAll, flatD, ih, Bool.and_self]
  unfold SeqAt.shaped
  rw [Bool.and_eq_true]
  have b : PyData.canLayAll0 (zs.map PyData.int) = true := by
    clear a
    induction zs with
    | nil => rfl
    | cons z zs ih =>
      show (PyData.canLay0 (.int z) && PyData.canLayAll0 (zs.map PyData.int)) = true
      rw [ih]
      rfl
  have c : PyData.depthAll (zs.map PyData.int) = 0 := by
    clear a b
    induction zs with
    | nil => rfl
    | cons z zs ih =>
      show max 0 (PyData.depthAll (zs.map PyData.int)) = 0
      rw [ih]
      rfl
  refine ⟨b, decide_eq_true ?_⟩
  show PyData.depthAll (zs.map PyData.int) + 1 ≤ 64
  omega
theorem et_eqD {ρ ρ1 ρ2 : List Sl} {ta tb : TE} {x : PyData} (ha : Ev ta ρ (.d x) ρ1) (hb : Ev tb ρ1 (.d x) ρ2) (sh : SeqAt.shaped x = true) : Ev (tOp KA.rEqD ta tb) ρ (.d (.bool true)) ρ2 :=
  (ev_op ha hb (fv_eqD sh sh)).is (by rw [SeqAt.eqv_refl _ (SeqAt.canLay_of_shaped sh)])
end KP
set_option Elab.async false
set_option linter.unusedVariables false
set_option linter.unusedSectionVars false
set_option maxRecDepth 100000
set_option maxHeartbeats 4000000
namespace KP
open PySem PySem.Spec PyProof.Rows L2 KA OW
/-! ### raising right, giving right -/
abbrev sLawRaisingRight : Stmt := top 54
abbrev nLawRaisingRight : List Str := ["_law_term_here", "_law_low", "_law_more", "_law_high", "_law_near", "_law_place"]
theorem scLawRaisingRight : FnScope nLawRaisingRight ["_law_term_here", "_law_low", "_law_more"] (defScope sLawRaisingRight) := ⟨rfl, rfl, rfl, by decide +kernel, rfl, by decide +kernel, by decide +kernel⟩
abbrev sLawGivingRight : Stmt := top 55
abbrev nLawGivingRight : List Str := ["_law_one", "_law_two", "_law_three", "_law_low", "_law_first", "_law_second", "_law_less"]
theorem scLawGivingRight : FnScope nLawGivingRight ["_law_one", "_law_two", "_law_three", "_law_low"] (defScope sLawGivingRight) := ⟨rfl, rfl, rfl, by decide +kernel, rfl, by decide +kernel, by decide +kernel⟩
def tRR : List Sl → (Rv → Prop) → Prop := fun as Kr => ∃ d s b, as = [.d d, .d (.int s), .d (.int b)] ∧ LU 5 58 256000 d ∧ 0 ≤ s ∧ s ≤ 20 ∧ 0 ≤ b ∧ b ≤ 20 ∧ Kr (.d (.bool true))
def tGR : List Sl → (Rv → Prop) → Prop := fun as Kr => ∃ d o e m, as = [.d d, .d o, .d e, .d (.int m)] ∧ LU 5 58 256000 d ∧ lv d ≤ 243 ∧ LU 5 3 16000 o ∧ lv o ≤ 27 ∧ LU 5 3 16000 e ∧ 0 ≤ m ∧ m ≤ 20 ∧ Kr (.d (.bool true))
def shP (b s : Int) : PyData → PyData
  | .int p => .int (shF b s p)
  | x => x
theorem shP_map (b s : Int) (zs : List Int) : (zs.map PyData.int).map (shP b s) = (zs.map (shF b s)).map PyData.int := by
  rw [List.map_map, List.map_map]
  rfl
section
variable {P : Program} {w : World} {K : PySem.W.Frag} {mg : Str → Option Value} {base : Heap}
theorem ok_raising {f : Addr} {fd : FuncData} (F : Fun K "_law_raising_right" "_law_raising_right" sLawRaisingRight f fd) (T : Txt K w mg) (C_raised : C8.Cal P w K mg base 6 "raised" (spD 3 tRaisedY) []) (C_spots : C8.Cal P w K mg base 6 "spots" (spD 1 tSpotsY) []) (C_size : C8.Cal P w K mg base 6 "size" (spD 1 tSizeY) []) (C_free : C8.Cal P w K mg base 6 "free" (spD 1 tFreeY) []) :
    FnOk P w K mg base CX0 10 f fd ["_law_term_here", "_law_low", "_law_more"] (spD 3 tRR) := by
  refine fn_d (k := 9) F scLawRaisingRight (body := fun cdv A outer s H E hr => ?_)
  have hu : (A.deeper (envOfC "_law_raising_right" (defScope sLawRaisingRight) s.heap.objs.size f cdv)).units + 64 < cLine := by have := hr.un; omega
  refine ⟨_, (pss_cons (ps_set (i := 3) scLawRaisingRight.nd rfl (Or.inl rfl) (C8.pe_c C_raised hr (by omega) rfl (pa_cons (pv 0) (pa_cons (pv 2) (pa_cons (pv 1) pa_nil)))))
      (pss_cons (ps_if (PW.pt (pw_or (pt_cmpR (KA.op_neD hu) (C8.pe_c C_raised hr (by omega) rfl (pa_cons (pv 0) (pa_cons pe_int (pa_cons (pv 1) pa_nil)))) (pv 0) (nomark _)) (pw_or1 (pt_cmpR (KA.op_neD hu) (C8.pe_c C_raised hr (by omega) rfl (pa_cons (pv 3) (pa_cons pe_int (pa_cons (pv 1) pa_nil)))) (C8.pe_c C_raised hr (by omega) rfl (pa_cons (pv 0) (pa_cons (pe_op op_add (pv 2) pe_int) (pa_cons (pv 1) pa_nil)))) (nomark _))))) (pss_one (ps_ret pe_bl)) pss_nil) (pss_cons (ps_if (PW.pt (pw_or (pt_cmpR (KA.op_neD hu) (C8.pe_c C_spots hr (by omega) rfl (pa_cons (pv 3) pa_nil)) (C8.pe_c C_spots hr (by omega) rfl (pa_cons (pv 0) pa_nil)) (nomark _)) (pw_or1 (pt_cmpR op_ne (C8.pe_c C_size hr (by omega) rfl (pa_cons (pv 3) pa_nil)) (C8.pe_c C_size hr (by omega) rfl (pa_cons (pv 0) pa_nil)) (nomark _))))) (pss_one (ps_ret pe_bl)) pss_nil) (pss_cons (ps_if (pt_cmpR (KA.op_neD hu) (C8.pe_c C_free hr (by omega) rfl (pa_cons (pv 3) pa_nil)) (pe_lc (own := [("_law_place", 5)]) (g := gName 5) (tt := tYes) rfl scLawRaisingRight.nd (pi_list (C8.pe_c C_free hr (by omega) rfl (pa_cons (pv 0) pa_nil))) (blkOk_by (N := nLawRaisingRight) (sc := defScope sLawRaisingRight) (by decide +kernel)) (fun _ _ _ _ _ => (pg_name (i := 5) scLawRaisingRight.nd rfl (Or.inl rfl))) (fun _ _ _ _ _ => pts_nil) (fun _ _ _ _ _ => (pe_op op_add (pv 5) (pe_op op_mul (pv 2) (pe_callTy call_int1 (by rfl) T.int (by decide +kernel) (pa_cons (pe_cmpR op_ge (pv 5) (pv 1) (nomark _)) pa_nil)))))) (nomark _)) (pss_one (ps_ret pe_bl)) pss_nil) (pss_cons (ps_set (i := 4) scLawRaisingRight.nd rfl (Or.inl rfl) (C8.pe_c C_raised hr (by omega) rfl (pa_cons (pv 0) (pa_cons pe_int (pa_cons (pv 1) pa_nil)))))
      (pss_one (ps_ret (pe_cmpR (KA.op_eqD hu) (C8.pe_c C_raised hr (by omega) rfl (pa_cons (pv 4) (pa_cons (pv 2) (pa_cons (pe_op op_add (pv 1) pe_int) pa_nil)))) (C8.pe_c C_raised hr (by omega) rfl (pa_cons (pv 3) (pa_cons pe_int (pa_cons (pv 1) pa_nil)))) (nomark _))))))))), ?_⟩
  rintro as Kr _ ⟨d, s, b, rfl, L, s0, s1, b0, b1, k⟩
  have LH : LU (5 + 20) 58 256000 (fuD (lawR b) d s) := L.raise b0 b1
  have LN : LU (5 + 20) 58 256000 (fuD (lawR 1) d s) := L.raise (by decide) (by decide)
  have LH' : LU ((25 : Nat) : Int) 58 256000 (fuD (lawR b) d s) := LH
  have L' : LU ((5 : Nat) : Int) 58 256000 d := L
  have r0 : raiseD 0 s d = d := if_pos rfl
  refine (sm_seq (sm_set (ev_call (es_cons (ev_var rfl) (es_cons (ev_var rfl) (es_cons (ev_var rfl) es_nil))) ar_nil rfl (tR L b0 (by omega) s0 (by omega))) ?_))
  refine (sm_seq (sm_if (et_or (b := false) (et_neD (x := d) (ev_call (es_cons (ev_var rfl) (es_cons ev_int (es_cons (ev_var rfl) es_nil))) ar_nil rfl ⟨d, 0, s, rfl, L.t, L.b.1, L.nd, by decide, by decide, s0, by omega, by rw [r0]⟩) (ev_var rfl) L.sh) fun _ => (et_neD (x := fuD (lawR (b + 2)) d s) ((ev_call (es_cons (ev_var rfl) (es_cons ev_int (es_cons (ev_var rfl) es_nil))) ar_nil rfl (tR LH (by decide) (by decide) s0 (by omega))).is (RR L.t b0)) (ev_call (es_cons (ev_var rfl) (es_cons (ev_op (ev_var rfl) ev_int fv_int) (es_cons (ev_var rfl) es_nil))) ar_nil rfl (tR L (by omega) (by omega) s0 (by omega))) (L.raise (c := 30) (by omega) (by omega)).sh)) (fun h => by cases h) (fun h => (sm_next ?_))))
  refine (sm_seq (sm_if (et_or (b := false) (et_neD ((Ev.of_el (el_call (es_cons (ev_var rfl) es_nil) ar_nil rfl ⟨_, rfl, LH.t, LH.ok, rfl⟩)).is (by rw [spots_raise L.t])) (Ev.of_el (el_call (es_cons (ev_var rfl) es_nil) ar_nil rfl ⟨_, rfl, L.t, L.ok, rfl⟩)) (spots_sh L)) fun _ => ((et_test (ev_op ((ev_call (es_cons (ev_var rfl) es_nil) ar_nil rfl ⟨_, rfl, LH.t, LH.ok, rfl⟩).is (y := .int ((wk d [] 0).length : Int)) (by rw [size_raise L.t])) (ev_call (es_cons (ev_var rfl) es_nil) ar_nil rfl ⟨_, rfl, L.t, L.ok, rfl⟩) fv_neI)).is (by simp))) (fun h => by cases h) (fun h => (sm_next ?_))))
  refine (sm_seq (sm_if (et_neD (x := .list (((freeD d).map (shF b s)).map .int)) ((Ev.of_el (el_call (es_cons (ev_var rfl) es_nil) ar_nil rfl ⟨_, rfl, LH.t, LH.b.1, LH.nd, LH'.k64, rfl⟩)).is (by rw [free_raise L.t b0 s0])) ((Ev.of_el (el_lcM (f := shP b s) (fi_list (Ev.of_el (el_call (xs := (freeD d).map .int) (es_cons (ev_var rfl) es_nil) ar_nil rfl ⟨_, rfl, L.t, L.b.1, L.nd, L'.k64, rfl⟩))) (by exact ⟨⟨.un, rfl, trivial⟩, trivial⟩) ?len (fun x hx => ?el))).is (by rw [shP_map])) (ints_sh _)) (fun h => by cases h) (fun h => (sm_next ?_))))
  case len =>
    have := L'.k64
    have pl := (List.mergeSort_perm (keysF (wk d [] 0)) (fun a b : Int => decide (a ≤ b))).length_eq
    rw [List.length_map, sizeLine_eq]
    show (List.mergeSort _ _).length ≤ _
    omega
  case el =>
    obtain ⟨z, hz, rfl⟩ := List.mem_map.mp hx
    exact ⟨_, tgw_name, (ev_op (ev_var rfl) (ev_op (ev_var rfl) (ev_fn (es_cons (ev_op (ev_var rfl) (ev_var rfl) fv_cmpI) es_nil) fv_intB) (fv_intC (by constructor <;> (try constructor) <;> (try split) <;> omega))) fv_int), rfl, ⟨⟨_, rfl, trivial⟩, trivial⟩⟩
  refine (sm_seq (sm_set (ev_call (es_cons (ev_var rfl) (es_cons ev_int (es_cons (ev_var rfl) es_nil))) ar_nil rfl (tR L (by decide) (by decide) s0 (by omega))) (sm_ret (et_eqD (x := fuD (lawR 1) (fuD (lawR b) d s) s) ((ev_call (es_cons (ev_var rfl) (es_cons (ev_var rfl) (es_cons (ev_op (ev_var rfl) ev_int fv_int) es_nil))) ar_nil rfl (tR LN b0 (by omega) (by omega) (by omega))).is (RR1 L.t b0)) (ev_call (es_cons (ev_var rfl) (es_cons ev_int (es_cons (ev_var rfl) es_nil))) ar_nil rfl (tR LH (by decide) (by decide) s0 (by omega))) (LH.raise (c := 1) (by decide) (by decide)).sh) k)))
end
end KP
set_option Elab.async false
set_option linter.unusedVariables false
set_option linter.unusedSectionVars false
set_option maxRecDepth 100000
set_option maxHeartbeats 4000000
namespace KP
open PySem PySem.Spec PyProof.Rows L2 KA OW
theorem fv_eqB {a b : Bool} : FV2 rEq (.d (.bool a)) (.d (.bool b)) (.d (.bool (a == b))) := fv2_s (dB (a == b)) fun W H v w Q S o o' q => by
  obtain rfl := bool_v o
  obtain rfl := bool_v o'
  refine ⟨rfl, ?_⟩
  rw [show decide (V.bl a = V.bl b) = (a == b) from by cases a <;> cases b <;> rfl]
  exact q
theorem LU.gsh {B : Int} {k z j x : Nat} {d o : PyData} {m : Int} (h : LU B k z d) (ho : LU B j x o) (m0 : 0 ≤ m) (hz : z ≤ 50000000 := by decide) (hx : x ≤ 50000000 := by decide) (hB : B ≤ 10 ^ 30 := by decide) (hk : k + j ≤ 64 := by decide) : SeqAt.shaped (fuD (lawG o m) d 0) = true :=
  LT.gave (B := B) (k := k) (j := j) ⟨h.t, h.f, h.b.2.1, h.nd hz⟩ ⟨ho.t, ho.f, ho.b.2.1, ho.nd hx⟩ m0 hB hk
section
variable {P : Program} {w : World} {K : PySem.W.Frag} {mg : Str → Option Value} {base : Heap}
theorem ok_givright {f : Addr} {fd : FuncData} (F : Fun K "_law_giving_right" "_law_giving_right" sLawGivingRight f fd) (T : Txt K w mg) (C_raised : C8.Cal P w K mg base 6 "raised" (spD 3 tRaisedY) []) (C_raised0 : C8.Cal P w K mg base 6 "raised" (spD 3 tRaisedY) [.int 1, .int 0]) (C_giving : C8.Cal P w K mg base 9 "giving" (spD 3 tGivingY) []) (C_giving0 : C8.Cal P w K mg base 9 "giving" (spD 3 tGivingY) [.int 0]) (C_free : C8.Cal P w K mg base 6 "free" (spD 1 tFreeY) []) (C_lowered : C8.Cal P w K mg base 6 "lowered" (spD 1 tLowY) []) :
    FnOk P w K mg base CX0 10 f fd ["_law_one", "_law_two", "_law_three", "_law_low"] (spD 4 tGR) := by
  refine fn_d (k := 9) F scLawGivingRight (body := fun cdv A outer s H E hr => ?_)
  have hu : (A.deeper (envOfC "_law_giving_right" (defScope sLawGivingRight) s.heap.objs.size f cdv)).units + 64 < cLine := by have := hr.un; omega
  refine ⟨_, (pss_cons (ps_if (pt_cmpR (KA.op_neD hu) (C8.pe_c C_giving hr (by decide) rfl (pa_cons (C8.pe_c C_raised hr (by decide) rfl (pa_cons (pv 0) (pa_cons pe_int (pa_cons (pv 3) pa_nil)))) (pa_cons (pv 1) (pa_cons (pv 3) pa_nil)))) (pv 0) (nomark _)) (pss_one (ps_ret pe_bl)) pss_nil) (pss_cons (ps_set (i := 4) scLawGivingRight.nd rfl (Or.inl rfl) (C8.pe_c C_giving hr (by decide) rfl (pa_cons (C8.pe_c C_giving hr (by decide) rfl (pa_cons (pv 0) (pa_cons (pv 1) (pa_cons pe_int pa_nil)))) (pa_cons (pv 2) (pa_cons (pv 3) pa_nil)))))
      (pss_cons (ps_set (i := 5) scLawGivingRight.nd rfl (Or.inl rfl) (C8.pe_c C_giving hr (by decide) rfl (pa_cons (pv 0) (pa_cons (C8.pe_c C_raised0 hr (by decide) rfl (pa_cons (pv 2) pa_nil)) (pa_cons (pe_op op_add (pv 3) pe_int) pa_nil)))))
      (pss_cons (ps_if (pt_cmpR (KA.op_neD hu) (pv 4) (C8.pe_c C_giving hr (by decide) rfl (pa_cons (pv 5) (pa_cons (C8.pe_c C_giving hr (by decide) rfl (pa_cons (pv 1) (pa_cons (pv 2) (pa_cons (pv 3) pa_nil)))) (pa_cons pe_int pa_nil)))) (nomark _)) (pss_one (ps_ret pe_bl)) pss_nil) (pss_cons (ps_set (i := 6) scLawGivingRight.nd rfl (Or.inl rfl) (C8.pe_c C_lowered hr (by decide) rfl (pa_cons (pv 0) pa_nil)))
      (pss_cons (ps_if (PW.pt (pw_and (pt_cmpR op_notN (pv 6) pe_non (nomark _)) (pw_and1 (PW.pt (pw_or (pt_cmpR (KA.op_neD hu) (C8.pe_c C_raised0 hr (by decide) rfl (pa_cons (pv 6) pa_nil)) (pv 0) (nomark _)) (pw_or1 (pt_cmpR (KA.op_neD hu) (C8.pe_c C_giving0 hr (by decide) rfl (pa_cons (pv 0) (pa_cons (pv 2) pa_nil))) (pv 6) (nomark _)))))))) (pss_one (ps_ret pe_bl)) pss_nil) (pss_one (ps_ret (pe_cmpR op_eq (pe_cmpR op_isN (pv 6) pe_non (nomark _)) (pe_cmpR op_in_seq pe_int (C8.pe_c C_free hr (by decide) rfl (pa_cons (pv 0) pa_nil)) rfl) (nomark _)))))))))), ?_⟩
  rintro as Kr _ ⟨d, o, e, m, rfl, L, ld, Lo, lo_, Le, m0, m1, k⟩
  have L' : LU ((5 : Nat) : Int) 58 256000 d := L
  have LR1 : LU (5 + 1) 58 256000 (fuD (lawR 1) d m) := L.raise (by decide) (by decide)
  have LGo : LU (5 + (58 : Nat)) (58 + 3) (256000 + 243 * 16000) (fuD (lawG o 0) d 0) := L.gave ld Lo (by decide)
  have LRe : LU (5 + 1) 3 16000 (fuD (lawR 1) e 0) := Le.raise (by decide) (by decide)
  have LS : LU (6 + (58 : Nat)) (58 + 3) (256000 + 243 * 16000) (fuD (lawG (fuD (lawR 1) e 0) (m + 1)) d 0) := (L.mono (B' := 6) (by decide)).gave ld LRe (by omega)
  have LX : LU (5 + (3 : Nat)) (3 + 3) (16000 + 27 * 16000) (fuD (lawG e m) o 0) := Lo.gave lo_ Le m0
  have gg := GG L.t Lo.t Le.t m0 LRe.t LX.t
  have shF : SeqAt.shaped (fuD (lawG e m) (fuD (lawG o 0) d 0) 0) = true := LGo.gsh (Le.mono (by decide)) m0
  refine (sm_seq (sm_if (et_neD (x := d) ((ev_call (es_cons (ev_call (es_cons (ev_var rfl) (es_cons ev_int (es_cons (ev_var rfl) es_nil))) ar_nil rfl (tR L (by decide) (by decide) m0 (by omega))) (es_cons (ev_var rfl) (es_cons (ev_var rfl) es_nil))) ar_nil rfl (tG LR1 Lo m0 (by omega))).is (GR L.t Lo.t m0)) (ev_var rfl) L.sh) (fun h => by cases h) (fun h => (sm_next ?_))))
  refine (sm_seq (sm_set (ev_call (es_cons (ev_call (es_cons (ev_var rfl) (es_cons (ev_var rfl) (es_cons ev_int es_nil))) ar_nil rfl (tG L Lo (by decide) (by decide))) (es_cons (ev_var rfl) (es_cons (ev_var rfl) es_nil))) ar_nil rfl (tG LGo Le m0 (by omega))) ?_))
  refine (sm_seq (sm_set (ev_call (es_cons (ev_var rfl) (es_cons (ev_call (es_cons (ev_var rfl) es_nil) ar_10 rfl (tR Le (by decide) (by decide) (by decide) (by decide))) (es_cons (ev_op (ev_var rfl) ev_int fv_int) es_nil))) ar_nil rfl (tG L LRe (by omega) (by omega))) ?_))
  refine (sm_seq (sm_if (et_neD (x := fuD (lawG e m) (fuD (lawG o 0) d 0) 0) (ev_var rfl) ((ev_call (es_cons (ev_var rfl) (es_cons (ev_call (es_cons (ev_var rfl) (es_cons (ev_var rfl) (es_cons (ev_var rfl) es_nil))) ar_nil rfl (tG Lo Le m0 (by omega))) (es_cons ev_int es_nil))) ar_nil rfl (tG LS LX (by decide) (by decide))).is gg.symm) shF) (fun h => by cases h) (fun h => (sm_next ?_))))
  refine (sm_seq (sm_set (ev_call (es_cons (ev_var rfl) es_nil) ar_nil rfl ⟨_, rfl, L.t, L.b.1, L.nd, L'.k64, rfl⟩) ?_))
  have inF : ∀ {ρ : List Sl}, ρ[0]? = some (.d d) → Ev (tOp (rIn K false) (tC (.int 0)) (tCall (spD 1 tFreeY) [] C8.E0 (tCons (tVar 0) tNil))) ρ (.d (.bool ((freeD d).any fun b => b == 0))) ρ := fun h0 => ev_op ev_int (Ev.of_el (el_call (es_cons (ev_var h0) es_nil) ar_nil rfl ⟨_, rfl, L.t, L.b.1, L.nd, L'.k64, rfl⟩)) fv_inI
  by_cases c : (freeD d).any (fun b => b == 0) = true
  · have e1 : lowD d = .none := if_pos c
    rw [e1]
    refine (sm_seq (sm_if (et_and (a := false) (b := true) ((et_test (ev_op (ev_var (x := .none) rfl) ev_non fv_notN)).is rfl) (fun h => by cases h)) (fun h => by cases h) (fun h => (sm_next ?_))))
    refine (sm_ret (Ev.is (ev_op (ev_op (ev_var rfl) ev_non fv_isN) (inF rfl) fv_eqB) ?_) k)
    rw [c]
    rfl
  · have nf := free0 c
    have e1 : lowD d = fuD (lawR (-1)) d 0 := (if_neg c).trans (raise_law L.t)
    have lg := LG L.t Le.t nf
    have LL : LU (5 + (58 : Nat)) (58 + 3) (256000 + 243 * 16000) (fuD (lawR (-1)) d 0) := lg ▸ L.gave ld Le (by decide)
    have lr := LR L.t nf
    rw [e1]
    generalize fuD (lawR (-1)) d 0 = l at *
    have nl : noneD l = false := tm_none LL.t
    refine (sm_seq (sm_if (et_and (a := true) (b := false) ((et_test (ev_op (ev_var rfl) ev_non fv_notN)).is (by rw [nl]; rfl)) fun _ => (et_or (a := false) (b := false) (et_neD (x := d) ((ev_call (es_cons (ev_var rfl) es_nil) ar_10 rfl (tR LL (by decide) (by decide) (by decide) (by decide))).is lr) (ev_var rfl) L.sh) fun _ => (et_neD (x := l) ((ev_call (es_cons (ev_var rfl) (es_cons (ev_var rfl) es_nil)) ar_0 rfl (tG L Le (by decide) (by decide))).is lg) (ev_var rfl) LL.sh))) (fun h => by cases h) (fun h => (sm_next ?_))))
    refine (sm_ret (Ev.is (ev_op (ev_op (ev_var rfl) ev_non fv_isN) (inF rfl) fv_eqB) ?_) k)
    have c' : ((freeD d).any fun b => b == 0) = false := Bool.eq_false_iff.mpr c
    rw [nl, c']
    rfl
end
end KP
set_option Elab.async false
set_option linter.unusedVariables false
set_option linter.unusedSectionVars false
set_option maxRecDepth 100000
set_option maxHeartbeats 4000000
namespace KP
open PySem PySem.Spec PyProof.Rows L2 KA OW
/-! ### parts right -/
abbrev sLawPartsRight : Stmt := top 56
abbrev nLawPartsRight : List Str := ["_law_purse_here", "_law_one", "_law_two", "_law_some", "_law_spot", "_law_head", "_law_held", "_law_more"]
theorem scLawPartsRight : FnScope nLawPartsRight ["_law_purse_here", "_law_one", "_law_two"] (defScope sLawPartsRight) := ⟨rfl, rfl, rfl, by decide +kernel, rfl, by decide +kernel, by decide +kernel⟩
theorem app_tm {h s : PyData} : tm (.tuple [.str "app", h, s]) = (tm h && tm s) := by
  rw [tm_parts (show parts "app" = some 2 by decide +kernel)]
  show (true && (tm h && (tm s && true))) = _
  rw [Bool.true_and, Bool.and_true]
theorem given_tm : ∀ (ss : List PyData) (h : PyData), tm (givenD h ss) = (tm h && tmAll ss)
  | [], h => by
    show tm h = (tm h && true)
    rw [Bool.and_true]
  | s :: ss, h => by
    have := given_tm ss (.tuple [.str "app", h, s])
    show tm (givenD (.tuple [.str "app", h, s]) ss) = (tm h && (tm s && tmAll ss))
    rw [this, app_tm, Bool.and_assoc]
theorem given_app {h : PyData} {ss ts : List PyData} : givenD h (ss ++ ts) = givenD (givenD h ss) ts := List.foldl_append ..
theorem itemAt {xs : List PyData} {z : Int} (h0 : 0 ≤ z) (h1 : z < xs.length) : ∃ x, atI xs z = some x ∧ x ∈ xs := by
  have lt : z.toNat < xs.length := by omega
  have e := List.getElem?_eq_getElem lt
  refine ⟨_, ?_, List.getElem_mem lt⟩
  have := at_nat e
  rw [Int.toNat_of_nonneg h0] at this
  exact this
theorem wk_pos {d : PyData} (t : tm d = true) (p : List Nat) (u : Int) : 0 < (wk d p u).length := by
  rw [wk_eq t, List.length_cons]
  omega
def lenR (d : PyData) : Int := (((wk d [] 0).map rowS).length : Int)
def tPR : List PyData → List Sl → (Rv → List PyData → Prop) → Prop := fun c as Kr => ∃ p n d o, c = p.ds ∧ as = [.d d, .d o] ∧ LU 5 58 256000 d ∧ LU 5 3 16000 o ∧ PuOk p n ∧ n + 10 ≤ maxN ∧ Kr (.d (.bool true)) (takeF p (lenR d)).2.ds
section
variable {P : Program} {w : World} {K : PySem.W.Frag} {mg : Str → Option Value} {base : Heap}
theorem ok_partsright {f : Addr} {fd : FuncData} (F : Fun K "_law_parts_right" "_law_parts_right" sLawPartsRight f fd) (T : Txt K w mg) (C_law_take : C8.Cal P w K mg base 1 "_law_take" (spB 1 tTake) []) (C_spots : C8.Cal P w K mg base 6 "spots" (spD 1 tSpotsY) []) (C_size : C8.Cal P w K mg base 6 "size" (spD 1 tSizeY) []) (C_part_at : C8.Cal P w K mg base 7 "part_at" (spD 2 (tAtY (·.1))) [])
    (C_changed : C8.Cal P w K mg base 7 "changed" (spD 3 tChangedY) []) (C_applied : C8.Cal P w K mg base 6 "applied" (spD 2 tAppliedY) []) (C_opened : C8.Cal P w K mg base 6 "opened" (spD 1 tOpenedY) []) : FnOk P w K mg base CX0 10 f fd ["_law_purse_here", "_law_one", "_law_two"] (spB 2 tPR) := by
  refine fn_b (k := 9) F scLawPartsRight (body := fun cdv A outer s H E hr => ?_)
  have hu : (A.deeper (envOfC "_law_parts_right" (defScope sLawPartsRight) s.heap.objs.size f cdv)).units + 64 < cLine := by have := hr.un; omega
  refine ⟨_, (pss_cons (ps_set (i := 3) scLawPartsRight.nd rfl (Or.inl rfl) (C8.pe_c C_spots hr (by omega) rfl (pa_cons (pv 1) pa_nil)))
      (pss_cons (ps_set (i := 4) scLawPartsRight.nd rfl (Or.inl rfl) (pe_ix ix_list (pv 3) (C8.pe_c C_law_take hr (by omega) rfl (pa_cons (pv 0) (pa_cons (pe_callB call_len_seq (by rfl) T.len PySem.boot_len (pa_cons (pv 3) pa_nil)) pa_nil))) (fun _ _ => rfl)))
      (pss_cons (ps_if (PW.pt (pw_or (pt_cmpR (KA.op_neD hu) (C8.pe_c C_changed hr (by omega) rfl (pa_cons (pv 1) (pa_cons (pv 4) (pa_cons (C8.pe_c C_part_at hr (by omega) rfl (pa_cons (pv 1) (pa_cons (pv 4) pa_nil))) pa_nil)))) (pv 1) (nomark _)) (pw_or1 (pt_cmpR (KA.op_neD hu) (C8.pe_c C_part_at hr (by omega) rfl (pa_cons (C8.pe_c C_changed hr (by omega) rfl (pa_cons (pv 1) (pa_cons (pv 4) (pa_cons (pv 2) pa_nil)))) (pa_cons (pv 4) pa_nil))) (pv 2) (nomark _))))) (pss_one (ps_ret pe_bl)) pss_nil) (pss_cons (ps_if (pt_cmpR op_ne (C8.pe_c C_size hr (by omega) rfl (pa_cons (C8.pe_c C_changed hr (by omega) rfl (pa_cons (pv 1) (pa_cons (pv 4) (pa_cons (pv 2) pa_nil)))) pa_nil)) (pe_op op_add (pe_op op_sub (C8.pe_c C_size hr (by omega) rfl (pa_cons (pv 1) pa_nil)) (C8.pe_c C_size hr (by omega) rfl (pa_cons (C8.pe_c C_part_at hr (by omega) rfl (pa_cons (pv 1) (pa_cons (pv 4) pa_nil))) pa_nil))) (C8.pe_c C_size hr (by omega) rfl (pa_cons (pv 2) pa_nil))) (nomark _)) (pss_one (ps_ret pe_bl)) pss_nil) (pss_cons (ps_asg (C8.pe_c C_opened hr (by omega) rfl (pa_cons (pv 1) pa_nil)) (pg_tup rfl (pgs_cons (pg_name (i := 5) scLawPartsRight.nd rfl (Or.inl rfl)) (pgs_cons (pg_name (i := 6) scLawPartsRight.nd rfl (Or.inl rfl)) pgs_nil))))
      (pss_cons (ps_set (i := 7) scLawPartsRight.nd rfl (Or.inl rfl) (pe_ix ix_tup (C8.pe_c C_opened hr (by omega) rfl (pa_cons (C8.pe_c C_applied hr (by omega) rfl (pa_cons (pv 2) (pa_cons (pv 6) pa_nil))) pa_nil)) pe_int (fun _ _ => rfl)))
      (pss_one (ps_ret (pe_and (pe_cmpR (KA.op_eqD hu) (C8.pe_c C_applied hr (by omega) rfl (pa_cons (pv 5) (pa_cons (pv 6) pa_nil))) (pv 1) (nomark _)) (pe_and (pe_cmpR op_ne (pe_ix ix_tup (pv 5) pe_int (fun _ _ => rfl)) pe_str (nomark _)) (pe_one (pe_cmpR (KA.op_eqD hu) (pe_slice sl_list (pv 7) (po_some (pe_op op_sub (pe_callB call_len_seq (by rfl) T.len PySem.boot_len (pa_cons (pv 7) pa_nil)) (pe_callB call_len_seq (by rfl) T.len PySem.boot_len (pa_cons (pv 6) pa_nil)))) po_none) (pv 6) (nomark _))))))))))))), ?_⟩
  rintro ct as Kr _ ⟨p, n, d, o, rfl, rfl, L, Lo, hp, hn, k⟩
  have mX : maxN = 1000000000 := rfl
  have wp := wk_pos L.t [] 0
  have wl := wk_wt d [] 0 L.t
  have bw := L.b.2.2
  have lm : ((wk d [] 0).map rowS).length = (wk d [] 0).length := List.length_map ..
  have m0 : 0 < lenR d := by unfold lenR; omega
  have m1 : lenR d < 1073741824 := by unfold lenR; omega
  refine (sm_seq (sm_set (Ev.of_el (el_call (xs := (wk d [] 0).map rowS) (es_cons (ev_var rfl) es_nil) ar_nil rfl ⟨_, rfl, L.t, L.ok, rfl⟩)) ?_))
  obtain ⟨w0, w1, w2⟩ := takeF_ok (m := lenR d) hp m0
  have got := got_take hp (by omega) (m := lenR d) m0 m1
  generalize takeF p (lenR d) = a5 at *
  obtain ⟨x, ex, mx⟩ := itemAt (xs := (wk d [] 0).map rowS) w0 w1
  obtain ⟨row, hr', rfl⟩ := List.mem_map.mp mx
  obtain ⟨q, e1, re⟩ := wk_reach d [] 0 L.t row hr'
  have e1 : row.1 = q := e1
  have eS : rowS row = spotT q := by rw [← e1]; rfl
  rw [eS] at ex
  refine sm_seq (sm_set (ev_op (ev_var rfl) (ev_callB (i := 0) rfl (es_cons (ev_fn (es_cons (ev_var rfl) es_nil) fv_lenL) es_nil) rfl ar_nil rfl got) (fv_ixL ex)) ?_)
  obtain ⟨r, er⟩ : ∃ r : PyData × Int, r = (row.2.1, row.2.2) := ⟨_, rfl⟩
  rw [← er] at re
  clear er ex eS mx hr' e1 got
  obtain ⟨tr, lq, q3, nr, _⟩ := reach_facts L.t re
  obtain ⟨fr, _, _⟩ := reach_more L.t L.b.1 re
  have d58 := L.b.2.1
  have Bq := Bd.tup (spot_bd (n := 58) (by omega) q3)
  have okq : okT (spotT q) := ok_of9 Bq.1 (by have := nodes2_wt (.tuple (q.map fun i : Nat => PyData.int (i : Int))); have := Bq.2.2; show nodes (.tuple _) ≤ _; omega)
  have okr : okT r.1 := ok_of9 fr (by have := L.nd; omega)
  have ql : q.length ≤ 1000000 := by omega
  obtain ⟨tC, reC⟩ := ch_facts (o := o) Lo.t L.t re
  obtain ⟨_, fC, dC⟩ := ch_ok (tm_flat o Lo.t) Lo.b.1 (q := q) (tm_flat d L.t) L.b.1
  have wC := ch_wt (o := o) L.t re
  have okC : okT (chD d q o) := ok_of9 fC (by have := nodes_tm _ tC; have := Lo.b.2.2; omega)
  have cs := ch_self L.t re
  have cc := cnt_ch (o := o) L.t re
  refine (sm_seq (sm_if (et_or (b := false) (et_neD (x := d) ((ev_call (es_cons (ev_var rfl) (es_cons (ev_var rfl) (es_cons (ev_call (es_cons (ev_var rfl) (es_cons (ev_var rfl) es_nil)) ar_nil rfl ⟨d, q, r, rfl, L.t, L.ok, okq, re, rfl⟩) es_nil))) ar_nil rfl ⟨d, q, r.1, r, rfl, L.t, L.ok, okq, tr, okr, ql, re, rfl⟩).is cs) (ev_var rfl) L.sh) fun _ => (et_neD (x := o) (ev_call (es_cons (ev_call (es_cons (ev_var rfl) (es_cons (ev_var rfl) (es_cons (ev_var rfl) es_nil))) ar_nil rfl ⟨d, q, o, r, rfl, L.t, L.ok, okq, Lo.t, Lo.ok, ql, re, rfl⟩) (es_cons (ev_var rfl) es_nil)) ar_nil rfl ⟨chD d q o, q, (o, r.2), rfl, tC, okC, okq, reC, rfl⟩) (ev_var rfl) Lo.sh)) (fun h => by cases h) (fun h => (sm_next ?_))))
  refine (sm_seq (sm_if ((et_test (ev_op ((ev_call (es_cons (ev_call (es_cons (ev_var rfl) (es_cons (ev_var rfl) (es_cons (ev_var rfl) es_nil))) ar_nil rfl ⟨d, q, o, r, rfl, L.t, L.ok, okq, Lo.t, Lo.ok, ql, re, rfl⟩) es_nil) ar_nil rfl ⟨_, rfl, tC, okC, rfl⟩)) (ev_op (ev_op (ev_call (es_cons (ev_var rfl) es_nil) ar_nil rfl ⟨_, rfl, L.t, L.ok, rfl⟩) (ev_call (es_cons (ev_call (es_cons (ev_var rfl) (es_cons (ev_var rfl) es_nil)) ar_nil rfl ⟨d, q, r, rfl, L.t, L.ok, okq, re, rfl⟩) es_nil) ar_nil rfl ⟨_, rfl, tr, okr, rfl⟩) fv_int) (ev_call (es_cons (ev_var rfl) es_nil) ar_nil rfl ⟨_, rfl, Lo.t, Lo.ok, rfl⟩) fv_int) fv_neI)).is (b' := false) (by
    have cc : (wk (chD d q o) [] 0).length + (wk r.1 [] 0).length = (wk d [] 0).length + (wk o [] 0).length := cc
    simp only [Bool.not_eq_false', decide_eq_true_eq]
    omega)) (fun h => by cases h) (fun h => (sm_next ?_))))
  obtain ⟨h, ss, ed, th, wh, ln, dh, dss, wts, fin⟩ := opened_is _ d (Nat.le_refl _) L.t
  obtain ⟨h2, s2, eo, th2, wh2, ln2, dh2, dss2, wts2, fin2⟩ := opened_is _ o (Nat.le_refl _) Lo.t
  have tss : tmAll ss = true := by
    have := L.t
    rw [ed, given_tm, Bool.and_eq_true] at this
    exact this.2
  have ln58 : ss.length ≤ 58 := by omega
  have ln3 : s2.length ≤ 3 := by have := Lo.b.2.1; omega
  have oks : ∀ s ∈ ss, tm s = true ∧ okT s := fun x hx => by
    have tx := tmAll_mem tss hx
    refine ⟨tx, ok_of9 (fine_in (fin L.b.1).2 hx) ?_⟩
    have := nodes_tm x tx
    have := wt_mem hx
    omega
  have tA : tm (givenD o ss) = true := by rw [given_tm, Lo.t, tss]; rfl
  have bA : Bd (58 + ss.length) (256000 + ss.length * (256000 + 300)) (givenD o ss) := given_bd ss (Lo.b.mono (by decide) (by decide)) fun x hx => ⟨fine_in (fin L.b.1).2 hx, by have := depth_in hx; omega, by have := wt_mem hx; omega⟩
  have okA : okT (givenD o ss) := ok_of9 bA.1 (by have := nodes_tm _ tA; have := bA.2.2; have := Nat.mul_le_mul_right (256000 + 300) ln58; omega)
  have eA : givenD o ss = givenD h2 (s2 ++ ss) := by rw [given_app, ← eo]
  refine (sm_seq (sm_asg (s := .d (.tuple [h, .list ss])) (ev_call (es_cons (ev_var rfl) es_nil) ar_nil rfl ⟨h, ss, by rw [← ed]; rfl, ed ▸ L.t, ed ▸ L.ok, th, wh, by omega, rfl⟩) (tg_tup (xs := [h, .list ss]) (tgs_cons tg_name (tgs_cons tg_name tgs_nil))) ?_))
  refine (sm_seq (sm_set (ev_op (ev_call (x := .tuple [h2, .list (s2 ++ ss)]) (es_cons (ev_call (x := givenD o ss) (es_cons (ev_var rfl) (es_cons (ev_var rfl) es_nil)) ar_nil rfl ⟨o, .list ss, ss, rfl, Or.inl rfl, Lo.t, Lo.ok, oks, rfl⟩) es_nil) ar_nil rfl ⟨h2, s2 ++ ss, by rw [← eA]; rfl, eA ▸ tA, eA ▸ okA, th2, wh2, by rw [List.length_append]; omega, rfl⟩) ev_int (fv_ixT at1)) ?_))
  have shL : SeqAt.shaped (.list ss) = true := shaped_list (tmAll_flat ss tss) (fin L.b.1).2 (by omega)
  obtain ⟨wd, ds, rfl⟩ := tm_shape th
  have wh : wd ≠ "app" := wh
  have cut : cutD (s2 ++ ss) (some (((s2 ++ ss).length : Int) - (ss.length : Int))) none = ss := by
    rw [show ((s2 ++ ss).length : Int) - (ss.length : Int) = ((s2.length : Nat) : Int) by rw [List.length_append]; omega, cutD_from', List.drop_left]
  refine sm_ret (x := .bool true) (ev_andV (a := true) (b := true) (et_eqD (x := d) ((ev_call (es_cons (ev_var rfl) (es_cons (ev_var rfl) es_nil)) ar_nil rfl ⟨_, .list ss, ss, rfl, Or.inl rfl, th, ok_of9 (fin L.b.1).1 (by have := nodes_tm _ th; omega), oks, rfl⟩).is ed.symm) (ev_var rfl) L.sh) fun _ => (ev_andV (a := true) (b := true) ((ev_op (ev_op (ev_var rfl) ev_int (fv_ixT at0)) ev_str fv_neS).is (by simp [wh])) fun _ => (et_eqD (x := .list ss) ((Ev.of_el (el_slL (ev_var rfl) (eo_some (ev_op (ev_fn (es_cons (ev_var rfl) es_nil) fv_lenL) (ev_fn (es_cons (ev_var rfl) es_nil) fv_lenL) fv_int)) eo_none)).is (by rw [cut])) (ev_var rfl) shL))) ?_
  exact ⟨_, rfl, k⟩
end
end KP
set_option Elab.async false
set_option linter.unusedVariables false
set_option linter.unusedSectionVars false
set_option maxRecDepth 100000
set_option maxHeartbeats 4000000
namespace OW
open PySem PySem.Spec PyProof.Rows L2 KA
section
variable {ρ ρ' ρ1 ρ2 : List Sl} {te ta tb ti : TE} {i j k : Nat} {K' : KK} {K KF : PySem.W.Frag} {ns : List Int}
theorem sm_purse {E E' : XK} (h0 : ρ[0]? = some (.p (scrMo K ns))) (h1 : ρ[1]? = some (.d (.int (j : Int)))) (q : ∀ p, KP.PuOk p 0 → K'.nx (ρ.set i (.l p.ds))) (i0 : i ≠ 0 := by decide) (hi : i < ρ.length := by simp [uns]) :
    Sm (tAsg (tCall KP.spPurse [] E (tCons (tCall (KP.spCell K) [] E' (tCons (tVar 0) (tCons (tVar 1) tNil))) tNil)) (gName i)) ρ K' := fun c A σ H D R f dk => by
  obtain ⟨_, u, e0, a, rfl, hS⟩ := R.sl 0 _ h0
  obtain ⟨_, v, e1, dn⟩ := R.sl 1 _ h1
  obtain rfl := int_v dn
  refine ⟨_, e0, _, e1, a, ns, j, rfl, sql_mono vw_sub hS, fun z => ⟨z, rfl, fun p H' np S pu => ?_⟩⟩
  obtain ⟨x, y, z, ep, b⟩ := pu
  have R1 := R.adopt (Aft.of S (by rw [hz_eq]; exact R.tb)) np ep
  exact dk.nx _ _ _ _ (q ⟨x, y, z⟩ b) (R1.setL (xs := KP.Pu.ds ⟨x, y, z⟩) i0 hi aset_at ep (.cons (.int _) (.cons (.int _) (.one (.int _))))) aset_at
end
end OW
namespace KP
open PySem PySem.Spec PyProof.Rows L2 KA OW
abbrev nLaw : List Str := ["_law_script", "_law_k", "_law_purse_here", "_law_one", "_law_two", "_law_three", "_law_low", "_law_more"]
theorem scLaw : FnScope nLaw ["_law_script"] (defScope sLaw) := ⟨rfl, rfl, rfl, by decide +kernel, rfl, by decide +kernel, by decide +kernel⟩
def spLaw (K : PySem.W.Frag) : Sp := fun vs H Q _ => ∃ (a : Addr) (ns : List Int), vs = [.ref a] ∧ (∀ b, tabA b → H b = some (.tbl #[])) ∧ SqL K H a (ns.map V.int) ∧ ns.length ≤ 63 ∧ ∀ H', Q (.bl true) H'
structure Calls (P : Program) (w : World) (K : PySem.W.Frag) (mg : Str → Option Value) (base : Heap) : Prop where
  cell : C8.Cal P w K mg base 1 "_law_cell" (spCell K) []
  purse : C8.Cal P w K mg base 1 "_law_purse" spPurse []
  take : C8.Cal P w K mg base 1 "_law_take" (spB 1 tTake) []
  term : C8.Cal P w K mg base 9 "_law_term" (spB 2 (tTerm 6)) []
  any : C8.Cal P w K mg base 10 "_law_any" (spB 2 tAny) []
  rr : C8.Cal P w K mg base 10 "_law_raising_right" (spD 3 tRR) []
  gr : C8.Cal P w K mg base 10 "_law_giving_right" (spD 4 tGR) []
  pr : C8.Cal P w K mg base 10 "_law_parts_right" (spB 2 tPR) []
section
variable {P : Program} {w : World} {K : PySem.W.Frag} {mg : Str → Option Value} {base : Heap}
theorem ok_law {f : Addr} {fd : FuncData} (F : Fun K "law" "law" sLaw f fd) (T : Txt K w mg) (Y : Calls P w K mg base) : FnG P w K mg base CX0 11 f fd ["_law_script"] (spLaw K) := by
  refine fnG (k := 10) F scLaw (fun vs H Q E h => ?_) (fun cdv A outer s H vs Q E g hr h => ?_)
  · obtain ⟨a, ns, rfl, _⟩ := h
    rfl
  obtain ⟨a, ns, rfl, tb, hS, hl, fin⟩ := h
  refine ⟨_, PSs.nox (pss_cons (ps_for PassesOwn.never rfl (pi_range1 (by rfl) T.range (pa_cons (pe_callB (call_max2 rfl) (by rfl) T.max (by decide +kernel) (pa_cons pe_int (pa_cons (pe_callB (call_min2 rfl) (by rfl) T.min (by decide +kernel) (pa_cons pe_int (pa_cons (pe_callB call_len_seq (by rfl) T.len PySem.boot_len (pa_cons (pv 0) pa_nil)) pa_nil))) pa_nil))) pa_nil)) (pg_name (i := 1) scLaw.nd rfl (Or.inl rfl)) (pss_cons (ps_set (i := 2) scLaw.nd rfl (Or.inl rfl) (C8.pe_c Y.purse hr (by decide) rfl (pa_cons (C8.pe_c Y.cell hr (by decide) rfl (pa_cons (pv 0) (pa_cons (pv 1) pa_nil))) pa_nil)))
      (pss_cons (ps_set (i := 3) scLaw.nd rfl (Or.inl rfl) (C8.pe_c Y.any hr (by decide) rfl (pa_cons (pv 2) (pa_cons pe_int (pa_cons pe_int pa_nil)))))
      (pss_cons (ps_par (i := 4) (j := 5) (by rfl) scLaw.nd rfl rfl (by decide) rfl rfl (pa_cons (C8.pe_c Y.term hr (by decide) rfl (pa_cons (pv 2) (pa_cons (C8.pe_c Y.take hr (by decide) rfl (pa_cons (pv 2) (pa_cons pe_int pa_nil))) (pa_cons pe_int pa_nil)))) (pa_cons (C8.pe_c Y.term hr (by decide) rfl (pa_cons (pv 2) (pa_cons (C8.pe_c Y.take hr (by decide) rfl (pa_cons (pv 2) (pa_cons pe_int pa_nil))) (pa_cons pe_int pa_nil)))) pa_nil)) (by rfl))
      (pss_cons (ps_par (i := 6) (j := 7) (by rfl) scLaw.nd rfl rfl (by decide) rfl rfl (pa_cons (C8.pe_c Y.take hr (by decide) rfl (pa_cons (pv 2) (pa_cons pe_int pa_nil))) (pa_cons (C8.pe_c Y.take hr (by decide) rfl (pa_cons (pv 2) (pa_cons pe_int pa_nil))) pa_nil)) (by rfl))
      (pss_cons (ps_if (PW.pt (pw_or (pt_not (pt_val (C8.pe_c Y.rr hr (by decide) rfl (pa_cons (pv 3) (pa_cons (pv 6) (pa_cons (pv 7) pa_nil)))))) (pw_or1 (pt_not (pt_val (C8.pe_c Y.gr hr (by decide) rfl (pa_cons (pv 3) (pa_cons (pv 4) (pa_cons (pv 5) (pa_cons (pv 6) pa_nil)))))))))) (pss_one (ps_ret pe_bl)) pss_nil) (pss_one (ps_if (pt_not (pt_val (C8.pe_c Y.pr hr (by decide) rfl (pa_cons (pv 2) (pa_cons (pv 3) (pa_cons (pv 4) pa_nil)))))) (pss_one (ps_ret pe_bl)) pss_nil))))))))
      (pss_one (ps_ret pe_bl))), ?_⟩
  refine (?main : Sm _ ([.p (scrMo K ns)] ++ uns (nLaw.length - 1)) { nx := fun _ => False, rt := fun r _ => r = .d (.bool true) }) ⟨tabA, none, H, hz tabA H⟩ _ _ H _ (rp_start (N := nLaw) (n := 1) (by decide) (zok_tabs tb) ⟨⟨a, rfl, sql_tabs tb hS⟩, trivial⟩ rfl) rfl ⟨fun _ _ _ _ z => z.elim, fun r ρ v A' σ' H' k R o => ?ret, fun _ _ _ _ z => z.elim, fun _ _ _ _ z => z.elim⟩
  case ret =>
    subst k
    obtain rfl := bool_v o.2
    exact fin H'
  clear fin hS tb
  have small : ∀ j : Int, -2 ^ 62 ≤ (if (if j < 8 then j else 8) > 2 then (if j < 8 then j else 8) else 2) ∧ (if (if j < 8 then j else 8) > 2 then (if j < 8 then j else 8) else 2) < 2 ^ 62 := fun j => by
    split <;> split <;> constructor <;> omega
  refine sm_seq (sm_for (fi_rng1 (eds_cons (ev_fn (es_cons ev_int (es_cons (ev_fn (es_cons ev_int (es_cons (ev_fn (es_cons (ev_varp rfl) es_nil) fv_lenScr) es_nil)) fv_min2) es_nil)) fv_max2) eds_nil) (small _)) (fun j ρ => ∃ s1 s2 s3 s4 s5 s6 s7, ρ = [.p (scrMo K ns), s1, s2, s3, s4, s5, s6, s7]) ⟨_, _, _, _, _, _, _, rfl⟩ (fun j x ρ ex r => ?_) (fun ρ r => ?_))
  · obtain ⟨s1, s2, s3, s4, s5, s6, s7, rfl⟩ := r
    obtain ⟨_, rfl⟩ := rngD_at ex
    refine ⟨_, tg_name, ?_⟩
    refine sm_seq (sm_purse rfl rfl (fun pu hp => ?_))
    have mX : maxN = 1000000000 := rfl
    obtain ⟨td, _, p1⟩ := anyF_ok (deep := 4) (below := 4) (by decide) (by decide) (by decide) (by decide) hp (by decide)
    have bd := any5_bd (deep := 4) (below := 4) (by decide) (by decide) (by decide) (by decide) hp (by decide)
    have gotA : tAny pu.ds ([.d (.int 4), .d (.int 4)] ++ []) (fun s c' => s = .d (anyF 4 4 pu).1 ∧ c' = (anyF 4 4 pu).2.ds) := ⟨pu, 0, 4, 4, rfl, rfl, hp, by decide, by decide, by decide, by decide, by decide, rfl, rfl⟩
    have capd := any_cap (B := 5) (deep := 4) (p := pu) (below := 4) (by decide) (by decide) (by decide)
    have lvd := any_lv (deep := 4) (p := pu) (below := 4) (by decide) (by decide)
    generalize anyF 4 4 pu = a2 at *
    refine sm_seq (sm_set (ev_callB (i := 2) rfl (es_cons ev_int (es_cons ev_int es_nil)) rfl ar_nil rfl gotA) ?_)
    have draw : ∀ (pu : Pu) (n : Nat), PuOk pu n → n ≤ 100000 → ∃ (x : PyData) (pu' : Pu) (a : Int × Pu), tTake pu.ds ([.d (.int 3)] ++ []) (fun r c' => r = .d (.int a.1) ∧ c' = a.2.ds) ∧ tTerm 6 a.2.ds ([.d (.int a.1), .d (.int 4)] ++ []) (fun s c' => s = .d x ∧ c' = pu'.ds) ∧ PuOk pu' (n + 1000) ∧ LU 5 3 16000 x ∧ lv x ≤ 27 := fun pu n hp hn => by
      obtain ⟨v0, v1, v2⟩ := takeF_ok (m := 3) hp (by decide)
      have k16 : 4 ^ (takeF pu 3).1.toNat ≤ 16 := Nat.le_trans (Nat.pow_le_pow_right (by decide) (by omega : (takeF pu 3).1.toNat ≤ 2)) (by decide)
      have k27 : 3 ^ ((takeF pu 3).1.toNat + 1) ≤ 27 := Nat.le_trans (Nat.pow_le_pow_right (by decide) (by omega : (takeF pu 3).1.toNat + 1 ≤ 3)) (by decide)
      obtain ⟨to, bo, p2⟩ := termF_ok (below := 4) (by decide) (by decide) (takeF pu 3).1.toNat (takeF pu 3).2 _ v2 (by omega)
      have bo : Bd 3 16000 (termF (takeF pu 3).1.toNat 4 (takeF pu 3).2).1 := bo.mono (by omega) (by omega)
      exact ⟨_, _, takeF pu 3, got_take hp (by omega) (by decide) (by decide), got_term (lim := 6) (below := 4) v2 v0 (by omega) (by decide) (by decide) (by omega), p2.more (by omega), ⟨to, fk_of _ (tm_flat _ to) bo.1 (term_cap (by decide) (by decide) (by decide) _ _), bo⟩, Nat.le_trans (term_lv _ _) k27⟩
    obtain ⟨o, pu2, a3, g1, g2, p2, Lo, lo_⟩ := draw a2.2 _ p1 (by decide)
    obtain ⟨e, pu3, a4, g3, g4, p3, Le, _⟩ := draw pu2 _ p2 (by decide)
    clear draw
    refine sm_seq (sm_par (es_cons (ev_callB (i := 2) rfl (es_cons (ev_callB (i := 2) rfl (es_cons ev_int es_nil) rfl ar_nil rfl g1) (es_cons ev_int es_nil)) rfl ar_nil rfl g2) (es_cons (ev_callB (i := 2) rfl (es_cons (ev_callB (i := 2) rfl (es_cons ev_int es_nil) rfl ar_nil rfl g3) (es_cons ev_int es_nil)) rfl ar_nil rfl g4) es_nil)) ?_)
    obtain ⟨x0, x1, x2⟩ := takeF_ok (m := 4) p3 (by decide)
    have got4 := got_take p3 (by decide) (m := 4) (by decide) (by decide)
    generalize takeF pu3 4 = a6 at *
    obtain ⟨y0, y1, y2⟩ := takeF_ok (m := 6) x2 (by decide)
    have got5 := got_take x2 (by decide) (m := 6) (by decide) (by decide)
    generalize takeF a6.2 6 = a7 at *
    have L : LU 5 58 256000 a2.1 := ⟨td, fk_of _ (tm_flat _ td) bd.1 capd, bd⟩
    refine sm_seq (sm_par (es_cons (ev_callB (i := 2) rfl (es_cons ev_int es_nil) rfl ar_nil rfl got4) (es_cons (ev_callB (i := 2) rfl (es_cons ev_int es_nil) rfl ar_nil rfl got5) es_nil)) ?_)
    refine (sm_seq (sm_if (et_or (b := false) (et_not (b := true) (et_B (ev_call (es_cons (ev_var rfl) (es_cons (ev_var rfl) (es_cons (ev_var rfl) es_nil))) ar_nil rfl ⟨a2.1, a6.1, a7.1, rfl, L, x0, by omega, y0, by omega, rfl⟩))) fun _ => (et_not (b := true) (et_B (ev_call (es_cons (ev_var rfl) (es_cons (ev_var rfl) (es_cons (ev_var rfl) (es_cons (ev_var rfl) es_nil)))) ar_nil rfl ⟨a2.1, o, e, a6.1, rfl, L, lvd, Lo, lo_, Le, x0, by omega, rfl⟩)))) (fun h => by cases h) (fun h => (sm_next ?_))))
    exact (sm_if (et_not (b := true) (et_B (ev_callB (i := 2) (c1 := (takeF a7.2 (lenR a2.1)).2.ds) rfl (es_cons (ev_var rfl) (es_cons (ev_var rfl) es_nil)) rfl ar_nil rfl ⟨a7.2, 60000, a2.1, o, rfl, rfl, L, Lo, y2.more (by decide), by decide, rfl, rfl⟩))) (fun h => by cases h) (fun h => (sm_next ⟨_, _, _, _, _, _, _, rfl⟩)))
  · obtain ⟨s1, s2, s3, s4, s5, s6, s7, rfl⟩ := r
    exact sm_ret ev_bl rfl
end
end KP
set_option Elab.async false
set_option linter.unusedVariables false
set_option maxRecDepth 100000
set_option maxHeartbeats 4000000
namespace KP
open PySem PySem.Spec PyProof.Rows L2 KA OW
structure DefAt (K : PySem.W.Frag) (x : Str) (st : Stmt) (f : Addr) (fd : FuncData) : Prop where
  at_ : PySem.W.nsIn K mainGlobals x = some (some (.ref f))
  fn : Fun K x x st f fd
theorem defAt {K : PySem.W.Frag} {x : Str} {st : Stmt} {f : Addr} {oc : Value} {od an : Option Addr} {osl : Array (Option Value)} {kV doc pm cdv ct : Value} (a : PySem.W.nsIn K mainGlobals x = some (some (.ref f))) (l : K.lookup f = some ⟨oc, od, .func (PySem.W.fnOf x x (defArgs st) (defBody st) (defScope st) .none kV doc pm an cdv ct), osl⟩)
    (c : PySem.W.codeIn K cdv x = true) (k : PySem.W.keepIn K (.ref f) = true) : ∃ f fd, DefAt K x st f fd := ⟨_, _, a, fun_mk l c k⟩
structure NotC (K : PySem.W.Frag) (nm qual : Str) (st : Stmt) (C fI : Addr) (fdI : FuncData) : Prop where
  at_ : PySem.W.nsIn K mainGlobals nm = some (some (.ref C))
  oex : OexC K C
  iC : PySem.W.findIn K (.ref C) "__init__" = some (some (.ref fI))
  tI : PySem.W.typeIn K (.ref fI) = some (.type "function")
  noF : PySem.W.findIn K (.ref C) "found" = some none
  fn : Fun K "__init__" qual st fI fdI
  xf : XfC K C
  te : PySem.W.exmOne K (.ref C) (.ref C) = some true
abbrev rowCs : List (Addr × Addr) := [(152, 148), (159, 155)]
abbrev rowTs : List NdefX.NTab := [(148, fun _ _ => "raised_by.<locals>.turn"), (155, fun _ _ => "given_at.<locals>.turn")]
theorem row_tabs : (Tbs.T : List NdefX.NTab) = rowTs := rfl
theorem tab_void {H : Hp} (t : ∀ p ∈ rowCs, H p.2 = some (.tbl #[])) : ∀ b, tabA b → H b = some (.tbl #[]) := fun b ⟨p, hp, e⟩ => by
  rw [row_tabs] at hp
  simp only [rowTs, List.mem_cons, List.not_mem_nil, or_false] at hp
  simp only [rowCs, List.forall_mem_cons] at t
  rcases hp with rfl | rfl
  · subst e
    exact t.1
  · subst e
    exact t.2.1

theorem tabd_raised_by {base : Heap} {mg : Str → Option Value} (t : LamX.TabB base mg 152 148) : Tabd base mg 152 148 "raised_by.<locals>.turn" where
  tb := t
  mem := by rw [row_tabs]; simp [rowTs]
  one p hp e := by
    rw [row_tabs] at hp
    simp only [rowTs, List.mem_cons, List.not_mem_nil, or_false] at hp
    rcases hp with rfl | rfl <;> first | rfl | (exact absurd e (by decide))
theorem tabd_given_at {base : Heap} {mg : Str → Option Value} (t : LamX.TabB base mg 159 155) : Tabd base mg 159 155 "given_at.<locals>.turn" where
  tb := t
  mem := by rw [row_tabs]; simp [rowTs]
  one p hp e := by
    rw [row_tabs] at hp
    simp only [rowTs, List.mem_cons, List.not_mem_nil, or_false] at hp
    rcases hp with rfl | rfl <;> first | rfl | (exact absurd e (by decide))
structure DefCAt (K : PySem.W.Frag) (x : Str) (st : Stmt) (f : Addr) (fd : FuncData) (c : Addr) : Prop where
  at_ : PySem.W.nsIn K mainGlobals x = some (some (.ref f))
  fn : FunC K x x st f fd c
theorem defCAt {K : PySem.W.Frag} {x : Str} {st : Stmt} {f c : Addr} {oc : Value} {od an : Option Addr} {osl : Array (Option Value)} {kV doc pm ct : Value} (a : PySem.W.nsIn K mainGlobals x = some (some (.ref f))) (l : K.lookup f = some ⟨oc, od, .func (PySem.W.fnOf x x (defArgs st) (defBody st) (defScope st) .none kV doc pm an (.ref c) ct), osl⟩)
    (h : PySem.W.codeIn K (.ref c) x = true) (k : PySem.W.keepIn K (.ref f) = true) : ∃ f fd, DefCAt K x st f fd c := ⟨f, _, a, ⟨_, _, _, _, _, _, _, _, rfl, l, h⟩, k⟩
theorem defD_mk {K : PySem.W.Frag} {x : Str} {st : Stmt} {dvs : List V} {f T : Addr} {oc : Value} {od an td : Option Addr} {kV doc pm cdv ct tc : Value} {osl tsl : Array (Option Value)} {its : Array Value} {n : Nat} (hd : dvs ≠ []) (e : PySem.W.nsIn K mainGlobals x = some (some (.ref f)))
    (l : K.lookup f = some ⟨oc, od, .func (PySem.W.fnOf x x (defArgs st) (defBody st) (defScope st) (.ref T) kV doc pm an cdv ct), osl⟩) (c : PySem.W.codeIn K cdv x = true) (k : PySem.W.keepIn K (.ref f) = true)
    (lT : K.lookup T = some ⟨tc, td, .seq its n, tsl⟩) (v : Vals dvs its.toList) :
    ∃ f fd, PySem.W.nsIn K mainGlobals x = some (some (.ref f)) ∧ FunD K x x (defArgs st) (defBody st) (defScope st) dvs [] f fd :=
  ⟨f, _, e, ⟨_, _, _, _, _, _, _, _, _, _, rfl, l, c, Or.inr ⟨hd, T, _, its.toList, n, rfl, lT, rfl, v⟩, Or.inl rfl⟩, k⟩
structure Facts (K : PySem.W.Frag) (w : World) : Prop where
  d_parts_of : ∃ f fd, DefAt K "parts_of" sPartsOf f fd
  d_passed : ∃ f fd, DefAt K "passed" sPassed f fd
  d_inner_terms : ∃ f fd, DefAt K "inner_terms" sInnerTerms f fd
  d_all_spots : ∃ f fd, DefAt K "all_spots" sAllSpots f fd
  d_reached : ∃ f fd, DefAt K "reached" sReached f fd
  d_with_part : ∃ f fd, DefAt K "with_part" sWithPart f fd
  d_free_places : ∃ f fd, DefAt K "free_places" sFreePlaces f fd
  d_rebuilt : ∃ f fd, DefAt K "rebuilt" sRebuilt f fd
  d_turned : ∃ f fd, DefAt K "turned" sTurned f fd
  d_raised_by : ∃ f fd, DefCAt K "raised_by" sRaisedBy f fd 152
  d_given_at : ∃ f fd, DefCAt K "given_at" sGivenAt f fd 159
  d_lowered_once : ∃ f fd, DefAt K "lowered_once" sLoweredOnce f fd
  d_given_all : ∃ f fd, DefAt K "given_all" sGivenAll f fd
  d_head_and_given : ∃ f fd, DefAt K "head_and_given" sHeadAndGiven f fd
  d_is_whole : ∃ f fd, DefAt K "is_whole" sWhole f fd
  d_is_name : ∃ f fd, DefAt K "is_name" sName f fd
  d_is_term : ∃ f fd, DefAt K "is_term" sTerm f fd
  d_is_leaf : ∃ f fd, DefAt K "_is_leaf" sLeaf f fd
  d_is_spot : ∃ f fd, DefAt K "is_spot" sSpot f fd
  d_want_term : ∃ f fd, DefAt K "want_term" sWantTerm f fd
  d_want_whole : ∃ f fd, DefAt K "want_whole" sWantWhole f fd
  d_place_of : ∃ f fd, DefAt K "_place_of" sPlaceOf f fd
  d_part_at : ∃ f fd, DefAt K "part_at" sPartAt f fd
  d_spots : ∃ f fd, DefAt K "spots" sSpots f fd
  d_changed : ∃ f fd, DefAt K "changed" sChanged f fd
  d_size : ∃ f fd, DefAt K "size" sSize f fd
  d_free : ∃ f fd, DefAt K "free" sFree f fd
  d_raised : ∃ f fd, PySem.W.nsIn K mainGlobals "raised" = some (some (.ref f)) ∧ FunD K "raised" "raised" (defArgs sRaised) (defBody sRaised) (defScope sRaised) [.int 1, .int 0] [] f fd
  d_giving : ∃ f fd, PySem.W.nsIn K mainGlobals "giving" = some (some (.ref f)) ∧ FunD K "giving" "giving" (defArgs sGiving) (defBody sGiving) (defScope sGiving) [.int 0] [] f fd
  d_lowered : ∃ f fd, DefAt K "lowered" sLowered f fd
  d_applied : ∃ f fd, DefAt K "applied" sApplied f fd
  d_opened : ∃ f fd, DefAt K "opened" sOpened f fd
  d_law_cell : ∃ f fd, DefAt K "_law_cell" sCell f fd
  d_law_purse : ∃ f fd, DefAt K "_law_purse" sPurse f fd
  d_law_take : ∃ f fd, DefAt K "_law_take" sTake f fd
  d_law_forms : ∃ f fd, DefAt K "_law_forms" sForms f fd
  d_law_word : ∃ f fd, DefAt K "_law_word" sWord f fd
  d_law_term : ∃ f fd, DefAt K "_law_term" sTm f fd
  d_law_any : ∃ f fd, DefAt K "_law_any" sAny f fd
  d_law_raising_right : ∃ f fd, DefAt K "_law_raising_right" sLawRaisingRight f fd
  d_law_giving_right : ∃ f fd, DefAt K "_law_giving_right" sLawGivingRight f fd
  d_law_parts_right : ∃ f fd, DefAt K "_law_parts_right" sLawPartsRight f fd
  d_law : ∃ f fd, DefAt K "law" sLaw f fd
  count : ∃ f fd, PySem.W.nsIn K mainGlobals "is_count" = some (some (.ref f)) ∧ FunD K "is_count" "is_count" (defArgs sCount) (defBody sCount) (defScope sCount) [.int 0] [] f fd
  n_isi : PySem.W.nsIn K mainGlobals "isinstance" = some none
  n_int : PySem.W.nsIn K mainGlobals "int" = some none
  n_bool : PySem.W.nsIn K mainGlobals "bool" = some none
  n_str : PySem.W.nsIn K mainGlobals "str" = some none
  n_tuple : PySem.W.nsIn K mainGlobals "tuple" = some none
  n_list : PySem.W.nsIn K mainGlobals "list" = some none
  n_dict : PySem.W.nsIn K mainGlobals "dict" = some none
  n_len : PySem.W.nsIn K mainGlobals "len" = some none
  n_all : PySem.W.nsIn K mainGlobals "all" = some none
  n_max : PySem.W.nsIn K mainGlobals "max" = some none
  n_min : PySem.W.nsIn K mainGlobals "min" = some none
  n_range : PySem.W.nsIn K mainGlobals "range" = some none
  n_zip : PySem.W.nsIn K mainGlobals "zip" = some none
  n_repr : PySem.W.nsIn K mainGlobals "repr" = some none
  n_reversed : PySem.W.nsIn K mainGlobals "reversed" = some none
  n_sorted : PySem.W.nsIn K mainGlobals "sorted" = some none
  i_most_number : ∃ u, PySem.W.nsIn K mainGlobals "MOST_NUMBER" = some (some u) ∧ RelV (.int 999) u
  letters : ∃ u, PySem.W.nsIn K mainGlobals "LETTERS" = some (some u) ∧ RelV (.str KP.letters) u
  most : ∃ u, PySem.W.nsIn K mainGlobals "MOST_LETTERS" = some (some u) ∧ RelV (.int 8) u
  highest : ∃ u, PySem.W.nsIn K mainGlobals "HIGHEST" = some (some u) ∧ RelV (.int 5) u
  no : ∃ a o its n, PySem.W.nsIn K mainGlobals "NO_NAMES" = some (some (.ref a)) ∧ K.lookup a = some o ∧ o.cls = .type "tuple" ∧ o.data = .seq its n ∧ its.size ≤ sizeLine ∧ Vals (noNames.map V.str) its.toList
  parted : ∃ a es n, PySem.W.nsIn K mainGlobals "PARTED" = some (some (.ref a)) ∧ KDict K w a es n ∧ ∀ z, ∃ r, PySem.W.nsIn K a z = some r ∧ RelO ((parts z).map fun n => V.int (n : Int)) r
section
variable {P : Program} {w : World} {K : PySem.W.Frag} {h : Heap} {mg : Str → Option Value}
theorem Facts.txt (Z : Facts K w) (X : K.In h) (G : h.Ns mainGlobals mg) : Txt K w mg where
  isi := PySem.W.mg_none_of X G Z.n_isi
  int := PySem.W.mg_none_of X G Z.n_int
  bool := PySem.W.mg_none_of X G Z.n_bool
  str := PySem.W.mg_none_of X G Z.n_str
  tuple := PySem.W.mg_none_of X G Z.n_tuple
  list := PySem.W.mg_none_of X G Z.n_list
  dict := PySem.W.mg_none_of X G Z.n_dict
  len := PySem.W.mg_none_of X G Z.n_len
  all := PySem.W.mg_none_of X G Z.n_all
  max := PySem.W.mg_none_of X G Z.n_max
  min := PySem.W.mg_none_of X G Z.n_min
  range := PySem.W.mg_none_of X G Z.n_range
  zip := PySem.W.mg_none_of X G Z.n_zip
  repr := PySem.W.mg_none_of X G Z.n_repr
  letters := by
    obtain ⟨u, e, r⟩ := Z.letters
    exact ⟨u, PySem.W.mg_of X G e, r⟩
  most := by
    obtain ⟨u, e, r⟩ := Z.most
    exact ⟨u, PySem.W.mg_of X G e, r⟩
  highest := by
    obtain ⟨u, e, r⟩ := Z.highest
    exact ⟨u, PySem.W.mg_of X G e, r⟩
  no := by
    obtain ⟨a, o, its, n, e, r⟩ := Z.no
    exact ⟨a, o, its, n, PySem.W.mg_of X G e, r⟩
  parted := by
    obtain ⟨a, es, n, e, r⟩ := Z.parted
    exact ⟨a, es, n, PySem.W.mg_of X G e, r⟩
theorem DefAt.dfn {x : Str} {st : Stmt} {f : Addr} {fd : FuncData} {ps : List Str} (D : DefAt K x st f fd) (X : K.In h) (G : h.Ns mainGlobals mg)
    (b : ∀ (kV doc pm : Value) (an : Option Addr) (cdv ct : Value) (us : List Value), us.length = ps.length → bindArgs (PySem.W.fnOf x x (defArgs st) (defBody st) (defScope st) .none kV doc pm an cdv ct) ⟨us, []⟩ = pure (ps.zip us)) : Dfn K mg x st f fd ps :=
  ⟨D.fn, PySem.W.mg_of X G D.at_, D.fn.binds b⟩
theorem all_mk {fa : Addr} (X : K.In h) (G : h.Ns mainGlobals mg) (hfa : mg "law" = some (.ref fa)) (Z : Facts K w) :
    ∃ fd : FuncData, (∀ (s : Shared) (v : Value), BindsTo s fd ⟨[v], []⟩ [("_law_script", v)]) ∧ ∀ base : Heap, K.In base → base.Ns mainGlobals mg → (∀ p ∈ rowCs, LamX.TabB base mg p.1 p.2) → FnG P w K mg base CX0 11 fa fd ["_law_script"] (spLaw K) := by
  have T := Z.txt X G
  have Trev := PySem.W.mg_none_of X G Z.n_reversed
  have Tsorted := PySem.W.mg_none_of X G Z.n_sorted
  have I_most_number : ∃ u, mg "MOST_NUMBER" = some u ∧ RelV (.int 999) u := by
    obtain ⟨u, e, r⟩ := Z.i_most_number
    exact ⟨u, PySem.W.mg_of X G e, r⟩
  obtain ⟨f_parts_of, d_parts_of, D_parts_of⟩ := Z.d_parts_of
  obtain ⟨f_passed, d_passed, D_passed⟩ := Z.d_passed
  obtain ⟨f_inner_terms, d_inner_terms, D_inner_terms⟩ := Z.d_inner_terms
  obtain ⟨f_all_spots, d_all_spots, D_all_spots⟩ := Z.d_all_spots
  obtain ⟨f_reached, d_reached, D_reached⟩ := Z.d_reached
  obtain ⟨f_with_part, d_with_part, D_with_part⟩ := Z.d_with_part
  obtain ⟨f_free_places, d_free_places, D_free_places⟩ := Z.d_free_places
  obtain ⟨f_rebuilt, d_rebuilt, D_rebuilt⟩ := Z.d_rebuilt
  obtain ⟨f_turned, d_turned, D_turned⟩ := Z.d_turned
  obtain ⟨f_raised_by, d_raised_by, D_raised_by⟩ := Z.d_raised_by
  obtain ⟨f_given_at, d_given_at, D_given_at⟩ := Z.d_given_at
  obtain ⟨f_lowered_once, d_lowered_once, D_lowered_once⟩ := Z.d_lowered_once
  obtain ⟨f_given_all, d_given_all, D_given_all⟩ := Z.d_given_all
  obtain ⟨f_head_and_given, d_head_and_given, D_head_and_given⟩ := Z.d_head_and_given
  obtain ⟨f_is_whole, d_is_whole, D_is_whole⟩ := Z.d_is_whole
  obtain ⟨f_is_name, d_is_name, D_is_name⟩ := Z.d_is_name
  obtain ⟨f_is_term, d_is_term, D_is_term⟩ := Z.d_is_term
  obtain ⟨f_is_leaf, d_is_leaf, D_is_leaf⟩ := Z.d_is_leaf
  obtain ⟨f_is_spot, d_is_spot, D_is_spot⟩ := Z.d_is_spot
  obtain ⟨f_want_term, d_want_term, D_want_term⟩ := Z.d_want_term
  obtain ⟨f_want_whole, d_want_whole, D_want_whole⟩ := Z.d_want_whole
  obtain ⟨f_place_of, d_place_of, D_place_of⟩ := Z.d_place_of
  obtain ⟨f_part_at, d_part_at, D_part_at⟩ := Z.d_part_at
  obtain ⟨f_spots, d_spots, D_spots⟩ := Z.d_spots
  obtain ⟨f_changed, d_changed, D_changed⟩ := Z.d_changed
  obtain ⟨f_size, d_size, D_size⟩ := Z.d_size
  obtain ⟨f_free, d_free, D_free⟩ := Z.d_free
  obtain ⟨f_raised, d_raised, e_raised, D_raised⟩ := Z.d_raised
  obtain ⟨f_giving, d_giving, e_giving, D_giving⟩ := Z.d_giving
  obtain ⟨f_lowered, d_lowered, D_lowered⟩ := Z.d_lowered
  obtain ⟨f_applied, d_applied, D_applied⟩ := Z.d_applied
  obtain ⟨f_opened, d_opened, D_opened⟩ := Z.d_opened
  obtain ⟨f_law_cell, d_law_cell, D_law_cell⟩ := Z.d_law_cell
  obtain ⟨f_law_purse, d_law_purse, D_law_purse⟩ := Z.d_law_purse
  obtain ⟨f_law_take, d_law_take, D_law_take⟩ := Z.d_law_take
  obtain ⟨f_law_forms, d_law_forms, D_law_forms⟩ := Z.d_law_forms
  obtain ⟨f_law_word, d_law_word, D_law_word⟩ := Z.d_law_word
  obtain ⟨f_law_term, d_law_term, D_law_term⟩ := Z.d_law_term
  obtain ⟨f_law_any, d_law_any, D_law_any⟩ := Z.d_law_any
  obtain ⟨f_law_raising_right, d_law_raising_right, D_law_raising_right⟩ := Z.d_law_raising_right
  obtain ⟨f_law_giving_right, d_law_giving_right, D_law_giving_right⟩ := Z.d_law_giving_right
  obtain ⟨f_law_parts_right, d_law_parts_right, D_law_parts_right⟩ := Z.d_law_parts_right
  obtain ⟨f_law, d_law, D_law⟩ := Z.d_law
  obtain ⟨f6, d6, e6, D6⟩ := Z.count
  have e := hfa.symm.trans (PySem.W.mg_of X G D_law.at_)
  cases e
  have m6 := PySem.W.mg_of X G e6
  obtain ⟨ds0, v0, b0⟩ := D6.binds1 (ps := ["thing", "low"]) 1 0 (by simp) rfl fun _ _ _ _ _ _ _ us its hu hi => match us, its, hu, hi with | [_], [_], _, _ => ⟨_, rfl, rfl⟩
  obtain ⟨ds1, v1, b1⟩ := D6.binds1 (ps := ["thing", "low"]) 2 1 (by simp) rfl fun _ _ _ _ _ _ _ us its hu hi => match us, its, hu, hi with | [_, _], [_], _, _ => ⟨_, rfl, rfl⟩
  have N_parts_of : Dfn K mg "parts_of" sPartsOf f_parts_of d_parts_of ["term"] := D_parts_of.dfn X G fun _ _ _ _ _ _ us hl => match us, hl with | [_], _ => rfl
  have N_passed : Dfn K mg "passed" sPassed f_passed d_passed ["word", "at"] := D_passed.dfn X G fun _ _ _ _ _ _ us hl => match us, hl with | [_, _], _ => rfl
  have N_inner_terms : Dfn K mg "inner_terms" sInnerTerms f_inner_terms d_inner_terms ["term"] := D_inner_terms.dfn X G fun _ _ _ _ _ _ us hl => match us, hl with | [_], _ => rfl
  have N_all_spots : Dfn K mg "all_spots" sAllSpots f_all_spots d_all_spots ["term"] := D_all_spots.dfn X G fun _ _ _ _ _ _ us hl => match us, hl with | [_], _ => rfl
  have N_reached : Dfn K mg "reached" sReached f_reached d_reached ["term", "spot"] := D_reached.dfn X G fun _ _ _ _ _ _ us hl => match us, hl with | [_, _], _ => rfl
  have N_with_part : Dfn K mg "with_part" sWithPart f_with_part d_with_part ["term", "spot", "other"] := D_with_part.dfn X G fun _ _ _ _ _ _ us hl => match us, hl with | [_, _, _], _ => rfl
  have N_free_places : Dfn K mg "free_places" sFreePlaces f_free_places d_free_places ["term"] := D_free_places.dfn X G fun _ _ _ _ _ _ us hl => match us, hl with | [_], _ => rfl
  have N_rebuilt : Dfn K mg "rebuilt" sRebuilt f_rebuilt d_rebuilt ["part", "news"] := D_rebuilt.dfn X G fun _ _ _ _ _ _ us hl => match us, hl with | [_, _], _ => rfl
  have N_turned : Dfn K mg "turned" sTurned f_turned d_turned ["term", "turn"] := D_turned.dfn X G fun _ _ _ _ _ _ us hl => match us, hl with | [_, _], _ => rfl
  have m_raised_by := PySem.W.mg_of X G D_raised_by.at_
  have b_raised_by : Binds K d_raised_by ["term", "by", "start"] [] := D_raised_by.fn.fn.binds fun _ _ _ _ _ _ us hl => match us, hl with | [_, _, _], _ => rfl
  have N_raised_by : Dfn K mg "raised_by" sRaisedBy f_raised_by d_raised_by ["term", "by", "start"] := ⟨D_raised_by.fn.fn, m_raised_by, b_raised_by⟩
  have m_given_at := PySem.W.mg_of X G D_given_at.at_
  have b_given_at : Binds K d_given_at ["term", "other", "number"] [] := D_given_at.fn.fn.binds fun _ _ _ _ _ _ us hl => match us, hl with | [_, _, _], _ => rfl
  have N_given_at : Dfn K mg "given_at" sGivenAt f_given_at d_given_at ["term", "other", "number"] := ⟨D_given_at.fn.fn, m_given_at, b_given_at⟩
  have N_lowered_once : Dfn K mg "lowered_once" sLoweredOnce f_lowered_once d_lowered_once ["term"] := D_lowered_once.dfn X G fun _ _ _ _ _ _ us hl => match us, hl with | [_], _ => rfl
  have N_given_all : Dfn K mg "given_all" sGivenAll f_given_all d_given_all ["head", "some"] := D_given_all.dfn X G fun _ _ _ _ _ _ us hl => match us, hl with | [_, _], _ => rfl
  have N_head_and_given : Dfn K mg "head_and_given" sHeadAndGiven f_head_and_given d_head_and_given ["term"] := D_head_and_given.dfn X G fun _ _ _ _ _ _ us hl => match us, hl with | [_], _ => rfl
  have N_is_whole : Dfn K mg "is_whole" sWhole f_is_whole d_is_whole ["thing", "low", "high"] := D_is_whole.dfn X G fun _ _ _ _ _ _ us hl => match us, hl with | [_, _, _], _ => rfl
  have N_is_name : Dfn K mg "is_name" sName f_is_name d_is_name ["thing"] := D_is_name.dfn X G fun _ _ _ _ _ _ us hl => match us, hl with | [_], _ => rfl
  have N_is_term : Dfn K mg "is_term" sTerm f_is_term d_is_term ["thing"] := D_is_term.dfn X G fun _ _ _ _ _ _ us hl => match us, hl with | [_], _ => rfl
  have N_is_leaf : Dfn K mg "_is_leaf" sLeaf f_is_leaf d_is_leaf ["thing"] := D_is_leaf.dfn X G fun _ _ _ _ _ _ us hl => match us, hl with | [_], _ => rfl
  have N_is_spot : Dfn K mg "is_spot" sSpot f_is_spot d_is_spot ["thing"] := D_is_spot.dfn X G fun _ _ _ _ _ _ us hl => match us, hl with | [_], _ => rfl
  have N_want_term : Dfn K mg "want_term" sWantTerm f_want_term d_want_term ["thing"] := D_want_term.dfn X G fun _ _ _ _ _ _ us hl => match us, hl with | [_], _ => rfl
  have N_want_whole : Dfn K mg "want_whole" sWantWhole f_want_whole d_want_whole ["thing", "low", "high"] := D_want_whole.dfn X G fun _ _ _ _ _ _ us hl => match us, hl with | [_, _, _], _ => rfl
  have N_place_of : Dfn K mg "_place_of" sPlaceOf f_place_of d_place_of ["term", "spot"] := D_place_of.dfn X G fun _ _ _ _ _ _ us hl => match us, hl with | [_, _], _ => rfl
  have N_part_at : Dfn K mg "part_at" sPartAt f_part_at d_part_at ["term", "spot"] := D_part_at.dfn X G fun _ _ _ _ _ _ us hl => match us, hl with | [_, _], _ => rfl
  have N_spots : Dfn K mg "spots" sSpots f_spots d_spots ["term"] := D_spots.dfn X G fun _ _ _ _ _ _ us hl => match us, hl with | [_], _ => rfl
  have N_changed : Dfn K mg "changed" sChanged f_changed d_changed ["term", "spot", "other"] := D_changed.dfn X G fun _ _ _ _ _ _ us hl => match us, hl with | [_, _, _], _ => rfl
  have N_size : Dfn K mg "size" sSize f_size d_size ["term"] := D_size.dfn X G fun _ _ _ _ _ _ us hl => match us, hl with | [_], _ => rfl
  have N_free : Dfn K mg "free" sFree f_free d_free ["term"] := D_free.dfn X G fun _ _ _ _ _ _ us hl => match us, hl with | [_], _ => rfl
  have m_raised := PySem.W.mg_of X G e_raised
  obtain ⟨ds_raised0, v_raised0, b_raised0⟩ := D_raised.binds1 (ps := ["term", "by", "start"]) 1 0 (by simp) rfl fun _ _ _ _ _ _ _ us its hu hi => match us, its, hu, hi with | [_], [_, _], _, _ => ⟨_, rfl, rfl⟩
  obtain ⟨ds_raised1, v_raised1, b_raised1⟩ := D_raised.binds1 (ps := ["term", "by", "start"]) 2 1 (by simp) rfl fun _ _ _ _ _ _ _ us its hu hi => match us, its, hu, hi with | [_, _], [_, _], _, _ => ⟨_, rfl, rfl⟩
  obtain ⟨ds_raised2, v_raised2, b_raised2⟩ := D_raised.binds1 (ps := ["term", "by", "start"]) 3 2 (by simp) rfl fun _ _ _ _ _ _ _ us its hu hi => match us, its, hu, hi with | [_, _, _], [_, _], _, _ => ⟨_, rfl, rfl⟩
  cases v_raised2
  have m_giving := PySem.W.mg_of X G e_giving
  obtain ⟨ds_giving0, v_giving0, b_giving0⟩ := D_giving.binds1 (ps := ["term", "other", "number"]) 2 0 (by simp) rfl fun _ _ _ _ _ _ _ us its hu hi => match us, its, hu, hi with | [_, _], [_], _, _ => ⟨_, rfl, rfl⟩
  obtain ⟨ds_giving1, v_giving1, b_giving1⟩ := D_giving.binds1 (ps := ["term", "other", "number"]) 3 1 (by simp) rfl fun _ _ _ _ _ _ _ us its hu hi => match us, its, hu, hi with | [_, _, _], [_], _, _ => ⟨_, rfl, rfl⟩
  cases v_giving1
  have N_lowered : Dfn K mg "lowered" sLowered f_lowered d_lowered ["term"] := D_lowered.dfn X G fun _ _ _ _ _ _ us hl => match us, hl with | [_], _ => rfl
  have N_applied : Dfn K mg "applied" sApplied f_applied d_applied ["head", "some"] := D_applied.dfn X G fun _ _ _ _ _ _ us hl => match us, hl with | [_, _], _ => rfl
  have N_opened : Dfn K mg "opened" sOpened f_opened d_opened ["term"] := D_opened.dfn X G fun _ _ _ _ _ _ us hl => match us, hl with | [_], _ => rfl
  have N_law_cell : Dfn K mg "_law_cell" sCell f_law_cell d_law_cell ["_law_script", "_law_k"] := D_law_cell.dfn X G fun _ _ _ _ _ _ us hl => match us, hl with | [_, _], _ => rfl
  have N_law_purse : Dfn K mg "_law_purse" sPurse f_law_purse d_law_purse ["_law_cell_here"] := D_law_purse.dfn X G fun _ _ _ _ _ _ us hl => match us, hl with | [_], _ => rfl
  have N_law_take : Dfn K mg "_law_take" sTake f_law_take d_law_take ["_law_purse_here", "_law_many"] := D_law_take.dfn X G fun _ _ _ _ _ _ us hl => match us, hl with | [_, _], _ => rfl
  have N_law_forms : Dfn K mg "_law_forms" sForms f_law_forms d_law_forms [] := D_law_forms.dfn X G fun _ _ _ _ _ _ us hl => match us, hl with | [], _ => rfl
  have N_law_word : Dfn K mg "_law_word" sWord f_law_word d_law_word ["_law_purse_here"] := D_law_word.dfn X G fun _ _ _ _ _ _ us hl => match us, hl with | [_], _ => rfl
  have N_law_term : Dfn K mg "_law_term" sTm f_law_term d_law_term ["_law_purse_here", "_law_depth", "_law_below"] := D_law_term.dfn X G fun _ _ _ _ _ _ us hl => match us, hl with | [_, _, _], _ => rfl
  have N_law_any : Dfn K mg "_law_any" sAny f_law_any d_law_any ["_law_purse_here", "_law_deep", "_law_below"] := D_law_any.dfn X G fun _ _ _ _ _ _ us hl => match us, hl with | [_, _, _], _ => rfl
  have N_law_raising_right : Dfn K mg "_law_raising_right" sLawRaisingRight f_law_raising_right d_law_raising_right ["_law_term_here", "_law_low", "_law_more"] := D_law_raising_right.dfn X G fun _ _ _ _ _ _ us hl => match us, hl with | [_, _, _], _ => rfl
  have N_law_giving_right : Dfn K mg "_law_giving_right" sLawGivingRight f_law_giving_right d_law_giving_right ["_law_one", "_law_two", "_law_three", "_law_low"] := D_law_giving_right.dfn X G fun _ _ _ _ _ _ us hl => match us, hl with | [_, _, _, _], _ => rfl
  have N_law_parts_right : Dfn K mg "_law_parts_right" sLawPartsRight f_law_parts_right d_law_parts_right ["_law_purse_here", "_law_one", "_law_two"] := D_law_parts_right.dfn X G fun _ _ _ _ _ _ us hl => match us, hl with | [_, _, _], _ => rfl
  have N_law : Dfn K mg "law" sLaw fa d_law ["_law_script"] := D_law.dfn X G fun _ _ _ _ _ _ us hl => match us, hl with | [_], _ => rfl
  obtain ⟨oc, od, kV, doc, pm, an, cdv, ct, osl, e19, _⟩ := D_law.fn.ex
  refine ⟨d_law, fun s v => by rw [e19]; exact .of_eq rfl, fun base _ _ hT => ?_⟩
  have Cc := ok_count (P := P) (w := w) (base := base) D6 T
  have c_count0 : C8.Cal P w K mg base 1 "is_count" spCount [.int 0] := ⟨f6, d6, _, ds0, Cc, m6, D6.kp, b0, v0⟩
  have c_count : C8.Cal P w K mg base 1 "is_count" spCount [] := ⟨f6, d6, _, ds1, Cc, m6, D6.kp, b1, v1⟩
  have t_raised_by := tabd_raised_by (hT (152, 148) (by simp [rowCs]))
  have t_given_at := tabd_given_at (hT (159, 155) (by simp [rowCs]))
  have c_is_whole := N_is_whole.cal (P := P) (w := w) (base := base) (ok_whole N_is_whole.fn T c_count)
  have c_is_name := N_is_name.cal (P := P) (w := w) (base := base) (ok_name N_is_name.fn T)
  have c_is_leaf := N_is_leaf.cal (P := P) (w := w) (base := base) (ok_leaf N_is_leaf.fn T c_count0 c_is_whole c_is_name)
  have c_is_term := N_is_term.cal (P := P) (w := w) (base := base) (ok_term N_is_term.fn T c_is_leaf)
  have c_is_spot := N_is_spot.cal (P := P) (w := w) (base := base) (ok_spot N_is_spot.fn T c_count0)
  have c_parts_of := N_parts_of.cal (P := P) (w := w) (base := base) (ok_partsof N_parts_of.fn T)
  have c_passed := N_passed.cal (P := P) (w := w) (base := base) (ok_passed N_passed.fn)
  have c_inner_terms := N_inner_terms.cal (P := P) (w := w) (base := base) (ok_inner N_inner_terms.fn T Trev c_parts_of c_passed)
  have c_all_spots := N_all_spots.cal (P := P) (w := w) (base := base) (ok_allspots N_all_spots.fn T Trev c_parts_of)
  have c_reached := N_reached.cal (P := P) (w := w) (base := base) (ok_reached N_reached.fn T c_parts_of c_passed)
  have c_with_part := N_with_part.cal (P := P) (w := w) (base := base) (ok_withpart N_with_part.fn T Trev)
  have c_free_places := N_free_places.cal (P := P) (w := w) (base := base) (ok_freeplaces N_free_places.fn Tsorted c_inner_terms)
  have c_rebuilt := N_rebuilt.cal (P := P) (w := w) (base := base) (ok_rebuilt N_rebuilt.fn T)
  have s_turned : CalS P w K mg base 3 "turned" 2 (tTurned P w K mg base 1) := ⟨_, _, _, ok_turned N_turned.fn T Trev c_rebuilt c_passed 1, N_turned.mgf, N_turned.fn.kp, N_turned.b⟩
  have s_turned5 : CalS P w K mg base 7 "turned" 2 (tTurned P w K mg base 5) := ⟨_, _, _, ok_turned N_turned.fn T Trev c_rebuilt c_passed 5, N_turned.mgf, N_turned.fn.kp, N_turned.b⟩
  have c_raised_by := N_raised_by.cal (P := P) (w := w) (base := base) (ok_raisedby D_raised_by.fn t_raised_by s_turned)
  have c_given_at := N_given_at.cal (P := P) (w := w) (base := base) (ok_givenat D_given_at.fn t_given_at s_turned5 c_raised_by)
  have c_lowered_once := N_lowered_once.cal (P := P) (w := w) (base := base) (ok_lowonce N_lowered_once.fn c_free_places c_raised_by)
  have c_given_all := N_given_all.cal (P := P) (w := w) (base := base) (ok_givenall N_given_all.fn)
  have c_head_and_given := N_head_and_given.cal (P := P) (w := w) (base := base) (ok_headgiven N_head_and_given.fn)
  have c_want_term := N_want_term.cal (P := P) (w := w) (base := base) (ok_wantY N_want_term.fn c_is_term)
  have c_want_whole := N_want_whole.cal (P := P) (w := w) (base := base) (ok_wantWY N_want_whole.fn c_is_whole)
  have c_place_of := N_place_of.cal (P := P) (w := w) (base := base) (ok_placeY N_place_of.fn c_want_term c_is_spot c_reached)
  have c_part_at := N_part_at.cal (P := P) (w := w) (base := base) (ok_partatY N_part_at.fn c_place_of)
  have c_spots := N_spots.cal (P := P) (w := w) (base := base) (ok_spotsY N_spots.fn c_want_term c_all_spots)
  have c_changed := N_changed.cal (P := P) (w := w) (base := base) (ok_changedY N_changed.fn c_want_term c_place_of c_with_part)
  have c_size := N_size.cal (P := P) (w := w) (base := base) (ok_sizeY N_size.fn T c_want_term c_inner_terms)
  have c_free := N_free.cal (P := P) (w := w) (base := base) (ok_freeY N_free.fn c_want_term c_free_places)
  have c_lowered := N_lowered.cal (P := P) (w := w) (base := base) (ok_lowY N_lowered.fn c_want_term c_lowered_once)
  have c_applied := N_applied.cal (P := P) (w := w) (base := base) (ok_appliedY N_applied.fn T c_want_term c_given_all)
  have c_opened := N_opened.cal (P := P) (w := w) (base := base) (ok_openedY N_opened.fn c_want_term c_head_and_given)
  have F_Ra := ok_raisedY (P := P) (w := w) (base := base) D_raised I_most_number c_want_term c_want_whole c_raised_by
  have F_Gi := ok_givingY (P := P) (w := w) (base := base) D_giving I_most_number c_want_term c_want_whole c_given_at
  have c_raised : C8.Cal P w K mg base 6 "raised" (spD 3 tRaisedY) [] := ⟨_, _, _, [], F_Ra, m_raised, D_raised.kp, b_raised2, .nil⟩
  have c_raised0 : C8.Cal P w K mg base 6 "raised" (spD 3 tRaisedY) [.int 1, .int 0] := ⟨_, _, _, _, F_Ra, m_raised, D_raised.kp, b_raised0, v_raised0⟩
  have c_giving : C8.Cal P w K mg base 9 "giving" (spD 3 tGivingY) [] := ⟨_, _, _, [], F_Gi, m_giving, D_giving.kp, b_giving1, .nil⟩
  have c_giving0 : C8.Cal P w K mg base 9 "giving" (spD 3 tGivingY) [.int 0] := ⟨_, _, _, _, F_Gi, m_giving, D_giving.kp, b_giving0, v_giving0⟩
  have c_law_cell := N_law_cell.cal (P := P) (w := w) (base := base) (ok_cell N_law_cell.fn T)
  have c_law_purse := N_law_purse.cal (P := P) (w := w) (base := base) (ok_purse N_law_purse.fn T)
  have c_law_take := N_law_take.cal (P := P) (w := w) (base := base) (ok_take2 N_law_take.fn T)
  have c_law_forms := N_law_forms.cal (P := P) (w := w) (base := base) (ok_forms N_law_forms.fn T)
  have c_law_word := N_law_word.cal (P := P) (w := w) (base := base) (ok_word2 N_law_word.fn T c_law_take)
  have c_law_term : C8.Cal P w K mg base 9 "_law_term" (spB 2 (tTerm 6)) [] := N_law_term.cal (P := P) (w := w) (base := base) (ok_tm2 N_law_term T c_law_take c_law_word c_law_forms 6)
  have c_law_any := N_law_any.cal (P := P) (w := w) (base := base) (ok_any2 N_law_any.fn T c_law_take c_law_term)
  have c_law_raising_right := N_law_raising_right.cal (P := P) (w := w) (base := base) (ok_raising N_law_raising_right.fn T c_raised c_spots c_size c_free)
  have c_law_giving_right := N_law_giving_right.cal (P := P) (w := w) (base := base) (ok_givright N_law_giving_right.fn T c_raised c_raised0 c_giving c_giving0 c_free c_lowered)
  have c_law_parts_right := N_law_parts_right.cal (P := P) (w := w) (base := base) (ok_partsright N_law_parts_right.fn T c_law_take c_spots c_size c_part_at c_changed c_applied c_opened)
  exact ok_law N_law.fn T ⟨c_law_cell, c_law_purse, c_law_take, c_law_term, c_law_any, c_law_raising_right, c_law_giving_right, c_law_parts_right⟩
theorem exm_self {C : Addr} (b : PySem.W.subIn K (.ref C) (.type "BaseException") = some true) (i : (PySem.W.clsIn K C).isSome = true) (t : PySem.W.typeIn K (.ref C) = some (.type "type")) (s : PySem.W.subIn K (.ref C) (.ref C) = some true) : PySem.W.exmOne K (.ref C) (.ref C) = some true := by
  unfold PySem.W.exmOne PySem.W.kitCls
  rw [b]
  show (if ((PySem.W.clsIn K C).isSome && PySem.W.typeIn K (.ref C) == some (.type "type")) = true then PySem.W.subIn K (.ref C) (.ref C) else none) = some true
  rw [t, s, i]
  simp
theorem cls_there {C : Addr} {nm q N bs bm sn sub ab col dd k0 k1 k2 k3 k5 : _} {t : String} (l : K.lookup C = some (excClassObj nm q C N bs bm true sn sub ab col dd k0 k1 k2 k3 k5 t)) : (PySem.W.clsIn K C).isSome = true := by
  unfold PySem.W.clsIn
  rw [l] <;> rfl
theorem exm_other {C D : Addr} (b : PySem.W.subIn K (.ref C) (.type "BaseException") = some true) (i : (PySem.W.clsIn K C).isSome = true) (t : PySem.W.typeIn K (.ref C) = some (.type "type")) (s : PySem.W.subIn K (.ref D) (.ref C) = some false) : PySem.W.exmOne K (.ref D) (.ref C) = some false := by
  unfold PySem.W.exmOne PySem.W.kitCls
  rw [b]
  show (if ((PySem.W.clsIn K C).isSome && PySem.W.typeIn K (.ref C) == some (.type "type")) = true then PySem.W.subIn K (.ref D) (.ref C) else none) = some false
  rw [t, s, i]
  simp
end
section
variable {K : PySem.W.Frag} {w : World}
theorem glo_mk {x : Str} {u : Value} {v : V} (e : PySem.W.nsIn K mainGlobals x = some (some u)) (r : RelV v u) : ∃ u, PySem.W.nsIn K mainGlobals x = some (some u) ∧ RelV v u := ⟨u, e, r⟩
theorem no_mk {a : Addr} {dd : Option Addr} {its : Array Value} {n : Nat} {sl : Array (Option Value)} (e : PySem.W.nsIn K mainGlobals "NO_NAMES" = some (some (.ref a))) (l : K.lookup a = some ⟨.type "tuple", dd, .seq its n, sl⟩) (s : its.size ≤ sizeLine) (v : Vals (noNames.map V.str) its.toList) :
    ∃ a o its n, PySem.W.nsIn K mainGlobals "NO_NAMES" = some (some (.ref a)) ∧ K.lookup a = some o ∧ o.cls = .type "tuple" ∧ o.data = .seq its n ∧ its.size ≤ sizeLine ∧ Vals (noNames.map V.str) its.toList := ⟨a, _, its, n, e, l, rfl, rfl, s, v⟩
theorem count_mk {f T : Addr} {oc : Value} {od an td : Option Addr} {kV doc pm cdv ct tc : Value} {osl tsl : Array (Option Value)} {its : Array Value} {n : Nat} (e : PySem.W.nsIn K mainGlobals "is_count" = some (some (.ref f)))
    (l : K.lookup f = some ⟨oc, od, .func (PySem.W.fnOf "is_count" "is_count" (defArgs sCount) (defBody sCount) (defScope sCount) (.ref T) kV doc pm an cdv ct), osl⟩) (c : PySem.W.codeIn K cdv "is_count" = true) (k : PySem.W.keepIn K (.ref f) = true)
    (lT : K.lookup T = some ⟨tc, td, .seq its n, tsl⟩) (v : Vals [.int 0] its.toList) :
    ∃ f fd, PySem.W.nsIn K mainGlobals "is_count" = some (some (.ref f)) ∧ FunD K "is_count" "is_count" (defArgs sCount) (defBody sCount) (defScope sCount) [.int 0] [] f fd :=
  ⟨f, _, e, ⟨_, _, _, _, _, _, _, _, _, _, rfl, l, c, Or.inr ⟨by simp, T, _, its.toList, n, rfl, lT, rfl, v⟩, Or.inl rfl⟩, k⟩
theorem parted_z {a : Addr} {c : Value} {d : Option Addr} {n : Nat} {sl : Array (Option Value)} {h1 h2 h3 h4 h5 h6 : Int} {k1 k2 k3 k4 k5 k6 v1 v2 v3 v4 v5 v6 : Tok}
    (l : K.lookup a = some ⟨c, d, .dict #[⟨h1, .str "all" k1, .int 2 v1⟩, ⟨h2, .str "fun" k2, .int 2 v2⟩, ⟨h3, .str "app" k3, .int 2 v3⟩, ⟨h4, .str "same" k4, .int 3 v4⟩, ⟨h5, .str "self" k5, .int 2 v5⟩, ⟨h6, .str "put" k6, .int 3 v6⟩] n, sl⟩) :
    ∀ z, ∃ r, PySem.W.nsIn K a z = some r ∧ RelO ((parts z).map fun n => V.int (n : Int)) r := by
  intro z
  have y : ∀ {s : Str} {t : Tok}, s = z → (Value.str s t).isStr z = true := fun h => by
    subst h
    show (_ == _) = true
    simp
  have no : ∀ {s : Str} {t : Tok}, z ≠ s → (Value.str s t).isStr z = false := fun h => by
    show (_ == _) = false
    exact beq_eq_false_iff_ne.mpr fun e => h e.symm
  have pos : ∀ {h : Int} {s : Str} {t : Tok} {v : Value} {r : List DictEntry}, s = z → List.find? (fun x : DictEntry => x.key.isStr z) (⟨h, .str s t, v⟩ :: r) = some ⟨h, .str s t, v⟩ := fun e => List.find?_cons_of_pos (y e)
  have neg : ∀ {h : Int} {s : Str} {t : Tok} {v : Value} {r : List DictEntry}, z ≠ s → List.find? (fun x : DictEntry => x.key.isStr z) (⟨h, .str s t, v⟩ :: r) = List.find? (fun x : DictEntry => x.key.isStr z) r := fun e => List.find?_cons_of_neg (by
    show ¬ (Value.str _ _).isStr z = true
    rw [no e]
    exact Bool.false_ne_true)
  unfold PySem.W.nsIn
  rw [l]
  dsimp only
  by_cases c1 : z = "all"
  · rw [pos c1.symm]
    refine ⟨_, rfl, ?_⟩
    rw [c1]
    exact ⟨_, rfl⟩
  rw [neg c1]
  by_cases c2 : z = "fun"
  · rw [pos c2.symm]
    refine ⟨_, rfl, ?_⟩
    rw [c2]
    exact ⟨_, rfl⟩
  rw [neg c2]
  by_cases c3 : z = "app"
  · rw [pos c3.symm]
    refine ⟨_, rfl, ?_⟩
    rw [c3]
    exact ⟨_, rfl⟩
  rw [neg c3]
  by_cases c4 : z = "same"
  · rw [pos c4.symm]
    refine ⟨_, rfl, ?_⟩
    rw [c4]
    exact ⟨_, rfl⟩
  rw [neg c4]
  by_cases c5 : z = "self"
  · rw [pos c5.symm]
    refine ⟨_, rfl, ?_⟩
    rw [c5]
    exact ⟨_, rfl⟩
  rw [neg c5]
  by_cases c6 : z = "put"
  · rw [pos c6.symm]
    refine ⟨_, rfl, ?_⟩
    rw [c6]
    exact ⟨_, rfl⟩
  rw [neg c6]
  have e : parts z = none := by
    unfold parts
    rw [if_neg c1, if_neg c2, if_neg c3, if_neg c4, if_neg c5, if_neg c6]
  rw [e]
  exact ⟨none, rfl, trivial⟩
theorem parted_mk {a : Addr} {n : Nat} {h1 h2 h3 h4 h5 h6 : Int} {k1 k2 k3 k4 k5 k6 v1 v2 v3 v4 v5 v6 : Tok} (e : PySem.W.nsIn K mainGlobals "PARTED" = some (some (.ref a)))
    (l : K.lookup a = some ⟨.type "dict", none, .dict #[⟨h1, .str "all" k1, .int 2 v1⟩, ⟨h2, .str "fun" k2, .int 2 v2⟩, ⟨h3, .str "app" k3, .int 2 v3⟩, ⟨h4, .str "same" k4, .int 3 v4⟩, ⟨h5, .str "self" k5, .int 2 v5⟩, ⟨h6, .str "put" k6, .int 3 v6⟩] n, #[]⟩)
    (k : PySem.W.KeysLit w.params (#[(⟨h1, .str "all" k1, .int 2 v1⟩ : DictEntry), ⟨h2, .str "fun" k2, .int 2 v2⟩, ⟨h3, .str "app" k3, .int 2 v3⟩, ⟨h4, .str "same" k4, .int 3 v4⟩, ⟨h5, .str "self" k5, .int 2 v5⟩, ⟨h6, .str "put" k6, .int 3 v6⟩] : Array DictEntry).toList) (lo : (a == sysModules) = false) :
    ∃ a es n, PySem.W.nsIn K mainGlobals "PARTED" = some (some (.ref a)) ∧ KDict K w a es n ∧ ∀ z, ∃ r, PySem.W.nsIn K a z = some r ∧ RelO ((parts z).map fun n => V.int (n : Int)) r := ⟨a, _, n, e, ⟨l, k, lo⟩, parted_z l⟩
end
end KP
set_option Elab.async false
set_option linter.unusedVariables false
set_option maxRecDepth 100000
set_option maxHeartbeats 1000000
/-! The end of a law on a row with defs within defs: their code tables, empty ahead of the law, are tracked beside the script. -/
namespace KA
open PySem PySem.Spec PyProof.Rows L2
structure Tabled (K : PySem.W.Frag) (cs : List (Addr × Addr)) (h : Heap) : Prop where
  void : ∀ p ∈ cs, h.get? p.2 = some { cls := .none, data := .fields #[] }
  off : ∀ p ∈ cs, K.lookup p.2 = none
  hd : ∀ p ∈ cs, PySem.W.CodeHd h p.1 p.2
section
variable {P : Program} {w : World} {K : PySem.W.Frag} {mg mb : Str → Option Value} {k : Nat} {fa a : Addr} {fd : FuncData} {x : Str} {sp : Sp} {s : Shared} {vs : List Value} {ns : List Int} {cs : List (Addr × Addr)}
theorem law_fromT {H : Hp} (kin : K.In s.heap) (ng : s.heap.Ns mainGlobals mg) (nb : s.heap.Ns builtinsNs mb) (hb : ∀ x : Str, x ≠ "__name__" → mb x = bootBuiltins x) (lim : s.heap.NoLimit) (gens : s.gens = #[])
    (bmain : ∃ (bm : Addr) (ob : Obj), mg "__builtins__" = some (.ref bm) ∧ bm ≠ builtinsNs ∧ s.heap.get? bm = some ob ∧ ob.cls = .type "module" ∧ ob.dict = some builtinsNs ∧ ob.data = .plain)
    (obj : s.heap.get? a = some { cls := .type "list", data := .seq vs.toArray }) (room : Room k callerA) (T : Tabled K cs s.heap)
    (F : ∀ base : Heap, K.In base → base.Ns mainGlobals mg → (∀ p ∈ cs, LamX.TabB base mg p.1 p.2) → FnG P w K mg base CX0 k fa fd [x] sp)
    (bt : ∀ (s : Shared) (u : Value), BindsTo s fd ⟨[u], []⟩ [(x, u)]) (hok : HOk P w H s.heap) (tH : ∀ p ∈ cs, H p.2 = some (.tbl #[]))
    (one : ∀ b, H b ≠ none → (b = a ∧ ∃ ob, H b = some (.frz ob (.lst (ns.map V.int)))) ∨ ∃ p ∈ cs, p.2 = b) (offK : H a ≠ none → K.lookup a = none)
    (h : sp [.ref a] H (fun v _ => v = .bl true) fun _ _ _ => False) :
    codeAny (model P w) callerA (.call (.ref fa) ⟨[.ref a], []⟩) (fun r s' => r = .ok (.ret (.bool true)) ∧ OldK s.heap s'.heap ∧ s'.os = s.os ∧ AllBare s'.gens) s := by
  have low : ∀ {b : Addr} {o : Obj}, s.heap.get? b = some o → H b = none → (hidT s.heap H).get? b = some o := fun e n => hidT_get e n
  have free : ∀ {b : Addr} {o : Obj}, s.heap.get? b = some o → (∀ n, o.data ≠ .seq vs.toArray n) → o.data ≠ .fields #[] → H b = none := by
    intro b o e d d2
    cases q : H b with
    | none => rfl
    | some u =>
      rcases one b (by rw [q]; simp) with ⟨rfl, _⟩ | ⟨p, hp, rfl⟩
      · rw [obj] at e
        cases e
        exact absurd rfl (d _)
      · rw [T.void p hp] at e
        cases e
        exact absurd rfl d2
  have nsL : ∀ {b : Addr} {m : Str → Option Value}, s.heap.Ns b m → (hidT s.heap H).Ns b m := by
    rintro b m ⟨o, es, ep, e, d, r⟩
    exact ⟨o, es, ep, low e (free e (fun n z => by rw [d] at z; cases z) fun z => by rw [d] at z; cases z), d, r⟩
  have kinL : K.In (hidT s.heap H) := by
    intro b o e
    refine low (kin b o e) ?_
    cases q : H b with
    | none => rfl
    | some u =>
      rcases one b (by rw [q]; simp) with ⟨rfl, _⟩ | ⟨p, hp, rfl⟩
      · rw [offK (by rw [q]; simp)] at e
        cases e
      · rw [T.off p hp] at e
        cases e
  have md : Mod K mg (hidT s.heap H) := ⟨kinL, nsL ng, ⟨mb, nsL nb, hb⟩, by obtain ⟨mc, h1, h2⟩ := lim; exact ⟨mc, nsL h1, h2⟩⟩
  have dict0 : ∀ {b : Addr}, s.heap.Ns b mg → ∃ o es ep, s.heap.get? b = some o ∧ o.data = .dict es ep := by
    rintro b ⟨o, es, ep, e, d, r⟩
    exact ⟨o, es, ep, e, d⟩
  have tabs : ∀ p ∈ cs, LamX.TabB (hidT s.heap H) mg p.1 p.2 := by
    intro p hp
    have v := T.void p hp
    obtain ⟨go, ges, gep, ge, gd⟩ := dict0 ng
    refine ⟨?_, ?_, fun z => ?_⟩
    · obtain ⟨o, us, a1, a2, a3, a4, a5, a6, a7, e1, r1, r2, r3, r4⟩ := T.hd p hp
      refine ⟨o, us, a1, a2, a3, a4, a5, a6, a7, low e1 (free e1 (fun n z => by rw [r2] at z; cases z) fun z => ?_), r1, r2, r3, r4⟩
      rw [r2] at z
      cases z
      simp at r3
    · obtain ⟨bm, ob, b1, b2, b3, b4, b5, b6⟩ := bmain
      refine ⟨bm, ob, b1, b2, fun q => ?_, fun q => ?_, low b3 (free b3 (fun n z => by rw [b6] at z; cases z) fun z => by rw [b6] at z; cases z), b4, b5, b6⟩
      · rw [q, ge] at b3
        cases b3
        rw [gd] at b6
        cases b6
      · rw [q, v] at b3
        cases b3
        cases b6
    · rw [z, v] at ge
      cases ge
      cases gd
  have e0 : Env0 P w K mg (hidT s.heap H) callerA [] s H :=
    ⟨rfl, md, fun b o e => of_hidT e, Nat.le_of_eq (hidT_size _ _), trivial, fun b z => absurd (show b ∈ ([] : List Addr) from z) (by simp), hok, .of_eq gens⟩
  have G := (F _ kinL (nsL ng) tabs).run callerA [] s H ⟨[.ref a], []⟩ [.ref a] [.ref a] _ _ rfl room e0 (bt s (.ref a)) (.cons rfl .nil) h
  refine codeAny_mono G fun r s' z => ?_
  cases r with
  | error e => exact absurd z id
  | ok fl =>
    cases fl with
    | next => exact absurd z id
    | brk => exact absurd z id
    | cont => exact absurd z id
    | ret u =>
      obtain ⟨v, H', os, bare, un, hok', rv, q⟩ := z
      obtain rfl : v = .bl true := q
      obtain rfl : u = Value.bool true := rv
      have more : ∀ p ∈ cs, ∃ m : Array Value, s'.heap.get? p.2 = some { cls := .none, data := .fields m } := fun p hp => by
        obtain ⟨m, y⟩ := un.tbls p.2 #[] (tH p hp)
        exact ⟨_, hok' p.2 _ y⟩
      have rest : ∀ b o, s.heap.get? b = some o → (¬ ∃ p ∈ cs, p.2 = b) → s'.heap.get? b = some o := fun b o e nb => by
        cases q : H b with
        | none => exact un.keep b o e q (fun z => absurd (show b ∈ ([] : List Addr) from z) (by simp)) (by simp)
        | some u =>
          rcases one b (by rw [q]; simp) with ⟨_, ob, z⟩ | z
          · obtain ⟨e1, _⟩ := hok b _ z
            obtain ⟨e2, _⟩ := hok' b _ (un.frzs b ob _ z)
            rw [e] at e1
            cases e1
            exact e2
          · exact absurd z nb
      refine ⟨rfl, ⟨fun b o e => ?_, fun b o e => ?_⟩, os, bare⟩
      · by_cases c : ∃ p ∈ cs, p.2 = b
        · obtain ⟨p, hp, rfl⟩ := c
          obtain ⟨m, hm⟩ := more p hp
          rw [T.void p hp] at e
          cases e
          exact Or.inr (Or.inl ⟨((T.hd p hp).tab (T.void p hp)).isCodeTable, rfl, #[], m, rfl, by rw [Array.empty_append]; exact hm⟩)
        · exact Or.inl (rest b o e c)
      · by_cases c : ∃ p ∈ cs, p.2 = b
        · obtain ⟨p, hp, rfl⟩ := c
          obtain ⟨m, hm⟩ := more p hp
          exact ⟨_, hm⟩
        · exact ⟨o, rest b o e c⟩
open Classical in
theorem law_runT (kin : K.In s.heap) (ng : s.heap.Ns mainGlobals mg) (nb : s.heap.Ns builtinsNs mb) (hb : ∀ x : Str, x ≠ "__name__" → mb x = bootBuiltins x) (lim : s.heap.NoLimit) (gens : s.gens = #[])
    (bmain : ∃ (bm : Addr) (ob : Obj), mg "__builtins__" = some (.ref bm) ∧ bm ≠ builtinsNs ∧ s.heap.get? bm = some ob ∧ ob.cls = .type "module" ∧ ob.dict = some builtinsNs ∧ ob.data = .plain)
    (obj : s.heap.get? a = some { cls := .type "list", data := .seq vs.toArray }) (its : IntsAre vs ns) (many : ns.length ≤ sizeLine) (room : Room k callerA) (T : Tabled K cs s.heap)
    (F : ∀ base : Heap, K.In base → base.Ns mainGlobals mg → (∀ p ∈ cs, LamX.TabB base mg p.1 p.2) → FnG P w K mg base CX0 k fa fd [x] sp) (bt : ∀ (s : Shared) (u : Value), BindsTo s fd ⟨[u], []⟩ [(x, u)])
    (h : ∀ H : Hp, (∀ p ∈ cs, H p.2 = some (.tbl #[])) → (∀ b, H b ≠ none → b = a ∨ ∃ p ∈ cs, p.2 = b) → SqL K H a (ns.map V.int) → sp [.ref a] H (fun v _ => v = .bl true) fun _ _ _ => False) :
    codeAny (model P w) callerA (.call (.ref fa) ⟨[.ref a], []⟩) (fun r s' => r = .ok (.ret (.bool true)) ∧ OldK s.heap s'.heap ∧ s'.os = s.os ∧ AllBare s'.gens) s := by
  have rv := vals_ints its
  have len := its.length
  have na : ¬ ∃ p ∈ cs, p.2 = a := by
    rintro ⟨p, hp, e⟩
    have v := T.void p hp
    rw [e, obj] at v
    have v2 : Data.seq vs.toArray _ = Data.fields #[] := congrArg Obj.data (Option.some.inj v)
    cases v2
  by_cases hk : K.lookup a = none
  · refine law_fromT (H := fun b => if b = a then some (.frz { cls := .type "list", data := .seq vs.toArray } (.lst (ns.map V.int))) else if ∃ p ∈ cs, p.2 = b then some (.tbl #[]) else none) (ns := ns) kin ng nb hb lim gens bmain obj room T F bt ?_ ?_ ?_ (fun _ => hk) ?_
    · intro b u z
      by_cases q : b = a
      · subst q
        simp only [if_true] at z
        cases z
        exact ⟨obj, by rw [List.length_map]; exact many, vs, _, rv, obj⟩
      · simp only [if_neg q] at z
        by_cases c : ∃ p ∈ cs, p.2 = b
        · rw [if_pos c] at z
          cases z
          obtain ⟨p, hp, rfl⟩ := c
          exact T.void p hp
        · rw [if_neg c] at z
          cases z
    · intro p hp
      exact (if_neg fun e => na ⟨p, hp, e⟩).trans (if_pos ⟨p, hp, rfl⟩)
    · intro b z
      by_cases q : b = a
      · exact Or.inl ⟨q, _, if_pos q⟩
      · refine Or.inr (Classical.byContradiction fun c => z ?_)
        exact (if_neg q).trans (if_neg c)
    · refine h _ (fun p hp => (if_neg fun e => na ⟨p, hp, e⟩).trans (if_pos ⟨p, hp, rfl⟩)) (fun b z => ?_) (Or.inl (Or.inr ⟨_, if_pos rfl⟩))
      by_cases q : b = a
      · exact Or.inl q
      · refine Or.inr (Classical.byContradiction fun c => z ?_)
        exact (if_neg q).trans (if_neg c)
  · obtain ⟨o, hk⟩ := Option.ne_none_iff_exists'.mp hk
    have e := kin a o hk
    rw [obj] at e
    cases e
    refine law_fromT (H := fun b => if ∃ p ∈ cs, p.2 = b then some (.tbl #[]) else none) (ns := ns) kin ng nb hb lim gens bmain obj room T F bt ?_ (fun p hp => if_pos ⟨p, hp, rfl⟩) ?_ (fun z => absurd (if_neg na) z) ?_
    · intro b u z
      by_cases c : ∃ p ∈ cs, p.2 = b
      · simp only [if_pos c] at z
        cases z
        obtain ⟨p, hp, rfl⟩ := c
        exact T.void p hp
      · simp only [if_neg c] at z
        cases z
    · intro b z
      exact Or.inr (Classical.byContradiction fun c => z (if_neg c))
    · refine h _ (fun p hp => if_pos ⟨p, hp, rfl⟩) (fun b z => Or.inr (Classical.byContradiction fun c => z (if_neg c))) ?_
      exact Or.inr ⟨_, vs.toArray, _, hk, rfl, rfl, rfl, by rw [List.size_toArray, len]; exact many, by simpa using rv⟩
end
theorem walkT {l : PySem.W.OpenLaw} {n k : Nat} {q : Program} {loose : List Str} {XP : (Str → Option Value) → Heap → Prop} {YP : World → Heap → Prop} {d : DefRec} {K : Params → PySem.W.Frag} {sp : PySem.W.Frag → Sp} {x : Str} {cs : List (Addr × Addr)}
    (hn : l.most = some n) (small : n ≤ sizeLine) (hdf : d.params.defaults = []) (room : Room k callerA) (hY : ∀ (w : World) (h : Heap), YP w h → (K w.params).In h) (hT : ∀ (w : World) (h : Heap), YP w h → Tabled (K w.params) cs h)
    (F : ∀ (w : World) (mg : Str → Option Value) (fa : Addr) (h : Heap), (K w.params).In h → h.Ns mainGlobals mg → mg d.name = some (.ref fa) →
      ∃ fd : FuncData, (∀ (s : Shared) (u : Value), BindsTo s fd ⟨[u], []⟩ [(x, u)]) ∧ ∀ base : Heap, (K w.params).In base → base.Ns mainGlobals mg → (∀ p ∈ cs, LamX.TabB base mg p.1 p.2) → FnG l.prog w (K w.params) mg base CX0 k fa fd [x] (sp (K w.params)))
    (h : ∀ (K : PySem.W.Frag) (H : Hp) (a : Addr) (ns : List Int), ns.length ≤ n → (∀ p ∈ cs, H p.2 = some (.tbl #[])) → (∀ b, H b ≠ none → b = a ∨ ∃ p ∈ cs, p.2 = b) → SqL K H a (ns.map V.int) → sp K [.ref a] H (fun v _ => v = .bl true) fun _ _ _ => False) :
    PySem.W.WalkO q loose XP YP l.row.toRowW d [] (fun f vs => PySem.call f vs) := by
  refine Att.attach_call hn hdf fun w s₀ s₁ mg mb fa o pm cd doc a vs ns G Y ho hd hcd hmg obj its len gens => ?_
  have kin := hY w _ Y
  obtain ⟨fd, bt, F1⟩ := F w mg fa _ kin G.T.g hmg
  exact law_runT kin G.T.g G.T.b G.T.builtins G.T.nolimit gens G.T.bmain obj its (Nat.le_trans len small) room (hT w _ Y) F1 bt fun H tH one sq => h (K w.params) H a ns len tH one sq
end KA
set_option Elab.async false
set_option maxRecDepth 100000
open PySem PySem.W PyProof.Rows in
set_option maxRecDepth 100000 in
set_option maxHeartbeats 0 in
theorem PySem.Challenge.cw_kernelpapers_k07_whole_giving_holds : PySem.Challenge.rw_kernelpapers_k07_whole_giving.Holds := by
  w_on; o_law; k_head; (case hw => w_witness2)
  k_fill
  refine KA.walkT (l := PySem.Challenge.rw_kernelpapers_k07_whole_giving) (n := 63) (k := 11) (x := "_law_script") (sp := KP.spLaw) (cs := KP.rowCs) rfl (by decide) rfl ⟨rfl, by decide, by decide⟩ (fun w h Y => PySem.W.km_in_of Y) ?T ?F ?G
  case G => exact fun K H a ns hl tH _ hS => ⟨a, ns, rfl, KP.tab_void tH, hS, hl, fun _ => rfl⟩
  case T =>
    intro w h Y
    have X := PySem.W.km_in_of Y
    have V := PySem.W.km_tabs_of Y
    refine ⟨fun p hp => ?_, fun p hp => ?_, fun p hp => ?_⟩
    · simp only [KP.rowCs, List.mem_cons, List.not_mem_nil, or_false] at hp
      rcases hp with rfl | rfl <;> exact V _ (by simp)
    · simp only [KP.rowCs, List.mem_cons, List.not_mem_nil, or_false] at hp
      rcases hp with rfl | rfl <;> kernel_rfl
    · simp only [KP.rowCs, List.mem_cons, List.not_mem_nil, or_false] at hp
      rcases hp with rfl | rfl
      · exact PySem.W.codeHd_of_K (c := 152) (P := 148) X (by kernel_rfl)
      · exact PySem.W.codeHd_of_K (c := 159) (P := 155) X (by kernel_rfl)
  case F =>
    intro w mg fa h KX G hmg
    refine KP.all_mk KX G hmg ?Z
    clear hmg
    constructor
    case letters =>
      refine KP.glo_mk (by k_is) ?_
      exact ⟨_, rfl⟩
    case most =>
      refine KP.glo_mk (by k_is) ?_
      exact ⟨_, rfl⟩
    case highest =>
      refine KP.glo_mk (by k_is) ?_
      exact ⟨_, rfl⟩
    case no =>
      refine KP.no_mk (by k_is) (by k_is) ?s ?v
      (case s => decide)
      (case v => exact .cons ⟨_, rfl⟩ (.cons ⟨_, rfl⟩ (.cons ⟨_, rfl⟩ (.cons ⟨_, rfl⟩ (.cons ⟨_, rfl⟩ .nil)))))
    case parted =>
      refine KP.parted_mk (by k_is) (by k_is) ?k ?lo
      (case k => k_keys)
      (case lo => rfl)
    case count =>
      refine KP.count_mk (by k_is) (by k_is) (by k_is) (by k_is) (by k_is) ?v
      exact .cons ⟨_, rfl⟩ .nil
    case i_most_number =>
      refine KP.glo_mk (by k_is) ?_
      exact ⟨_, rfl⟩
    case d_raised =>
      refine KP.defD_mk ?hd_raised (by k_is) (by k_is) (by k_is) (by k_is) (by k_is) ?v_raised
      (case hd_raised => simp)
      (case v_raised => exact (.cons ⟨_, rfl⟩ (.cons ⟨_, rfl⟩ .nil)))
    case d_giving =>
      refine KP.defD_mk ?hd_giving (by k_is) (by k_is) (by k_is) (by k_is) (by k_is) ?v_giving
      (case hd_giving => simp)
      (case v_giving => exact (.cons ⟨_, rfl⟩ .nil))
    all_goals first | k_is | exact KP.defAt (by k_is) (by k_is) (by k_is) (by k_is) | exact KP.defCAt (by k_is) (by k_is) (by k_is) (by k_is)
